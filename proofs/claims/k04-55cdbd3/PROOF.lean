import PyProof.Rows.All
import Wide.All
import OpenK.AllK
import Wide.FinOn
import HandS.ForMost
import HandS.IsInst
import HandS.Zip
import HandS.More
import HandS.TupAny
import HandS.TupLe
import HandS.Wide
import HandS.NoneIn
import HandS.Deep
import HandS.Star
import HandS.FStr
import HandS.RaiseMore
import PyProof.Rows.StrJoinMade
import HandS.ForExc
import HandS.ExcIs
import HandS.StrMore
import KE.IntTextLaws
import HandS.Iter
import KE.GoesEnumKw
import PyProof.Rows.CallKwBuiltin
import HandS.Walk
import HandS.MakeKwOnly
import PySem.Challenge.RW_neithertells_k04_whole_texts_there_and_b
set_option Elab.async false
set_option linter.all false
set_option maxRecDepth 100000
set_option maxHeartbeats 8000000
namespace My
open PySem L2
def top (i : Nat) : Stmt := PySem.Challenge.pw_neithertells_k04_whole_texts_there_and_b.main.body.getD i (.Pass ⟨0, 0, 0, 0⟩)
abbrev sFrom : Stmt := top 17
abbrev sInt : Stmt := top 18
abbrev sTerm : Stmt := top 19
abbrev sCond : Stmt := top 20
abbrev sPart : Stmt := top 21
abbrev sWord : Stmt := top 22
abbrev sRoles : Stmt := top 23
abbrev sPlain : Stmt := top 24
abbrev sOut : Stmt := top 25
abbrev sBodies : Stmt := top 26
abbrev sProg : Stmt := top 27

/-! ### the mathematics of programs -/
def inS (d : PyData) (zs : List Str) : Bool := match d with | .str z => zs.any (· == z) | _ => false
def intIn (d : PyData) (lo hi : Int) : Bool := match d with | .int i => decide (lo ≤ i) && decide (i ≤ hi) | _ => false
def intFrom (d : PyData) (lo : Int) : Bool := match d with | .int i => decide (lo ≤ i) | _ => false
def vars : List Str := ["a", "b"]
def signs : List Str := ["==", "!=", "<"]
def asks : List Str := ["+", "-", "="]
def kinds : List Str := ["teller", "collector"]
def isTerm (d : PyData) : Bool := inS d vars || intIn d 0 15
def isCond (d : PyData) : Bool := match d with
  | .tuple [x, y, z] => inS x vars && inS y signs && isTerm z
  | _ => false
def longest : Int := 1000000000000000000000000000000
def isPart (d : PyData) (r : Str) : Bool :=
  if r = "variable" then inS d vars else if r = "term" then isTerm d else if r = "sign" then inS d asks else if r = "steps" then intIn d 1 longest
  else if r = "answer" then intIn d 0 1 else intIn d 0 15

/-! ### rules -/
section
variable {X : Cx}
theorem depth_strs (zs : List Str) : PyData.depthAll (zs.map PyData.str) = 0 := by
  induction zs with
  | nil => rfl
  | cons z r ih => simp only [List.map_cons, PyData.depthAll, PyData.depth, ih]; rfl
theorem lay_strs : ∀ (zs : List Str), zs.all PyData.strOk = true → PyData.canLayAll0 (zs.map PyData.str) = true
  | [], _ => by simp [PyData.canLayAll0]
  | z :: r, h => by
    simp only [List.all_cons, Bool.and_eq_true] at h
    simp only [List.map_cons, PyData.canLayAll0, PyData.canLay0, Bool.and_eq_true]
    exact ⟨h.1, lay_strs r h.2⟩
theorem any_strs (d : PyData) : ∀ (zs : List Str), ((zs.map PyData.str).any fun y => PyData.eqv y d) = inS d zs
  | [] => by cases d <;> rfl
  | z :: r => by
    have ih := any_strs d r
    rw [List.map_cons, List.any_cons, ih]
    cases d <;> simp [inS, PyData.eqv]
theorem dp_strs {K : PySem.W.Frag} {H : Hp} : ∀ zs : List Str, DpAll K H (zs.map V.str) (zs.map PyData.str)
  | [] => .nil
  | z :: r => .cons (.str z) (dp_strs r)
def rInS (K : PySem.W.Frag) (neg : Bool) : R2 := fun x y H Q => ∃ (d : PyData) (zs : List Str) (p : Addr), y = .ref p ∧ Dp K H x d ∧ d.canLay0 = true ∧ SqT K H p (zs.map V.str) ∧ zs.all PyData.strOk = true ∧
  Q (.bl (if neg then !inS d zs else inS d zs)) H
theorem op_inS (hu : X.A.units + 65 < cLine) : OpR X (compareOp .In) (rInS X.K false) := by
  intro pins s σ H x y v u Q I rx ry h
  obtain ⟨d, zs, p, rfl, hd, ld, hz, oz, q⟩ := h
  obtain ⟨as, r1⟩ := Dp.reads I d x v hd rx
  obtain ⟨bs, r2⟩ := Dp.reads I (.tuple (zs.map PyData.str)) (.ref p) u (.tup hz (dp_strs zs)) ry
  refine SeqAt.in_tuple_reads r2 r1 (lay_strs zs oz) ld ?_ ⟨.bl _, H, I, rfl, ?_⟩
  · rw [depth_strs]
    have := Nat.min_le_left 0 d.depth
    omega
  · rw [any_strs]; exact q
theorem op_notInS (hu : X.A.units + 65 < cLine) : OpR X (compareOp .NotIn) (rInS X.K true) := by
  intro pins s σ H x y v u Q I rx ry h
  obtain ⟨d, zs, p, rfl, hd, ld, hz, oz, q⟩ := h
  obtain ⟨as, r1⟩ := Dp.reads I d x v hd rx
  obtain ⟨bs, r2⟩ := Dp.reads I (.tuple (zs.map PyData.str)) (.ref p) u (.tup hz (dp_strs zs)) ry
  refine SeqAt.notIn_tuple_reads r2 r1 (lay_strs zs oz) ld ?_ ⟨.bl _, H, I, rfl, ?_⟩
  · rw [depth_strs]
    have := Nat.min_le_left 0 d.depth
    omega
  · rw [any_strs]; exact q
end
section
variable {X : Cx}
theorem pe_gref {x : Str} {a : Addr} {pos : Pos} (hg : Gl X x) (hm : X.mg x = some (.ref a)) (hd : (x == ("__debug__" : Str)) = false := by decide) : PE X (.Name x pos) (tC (.ref a)) := pe_glob hg hm rfl hd
theorem pe_gint {x : Str} {i : Int} {t : Tok} {pos : Pos} (hg : Gl X x) (hm : X.mg x = some (.int i t)) (hd : (x == ("__debug__" : Str)) = false := by decide) : PE X (.Name x pos) (tC (.int i)) := pe_glob hg hm ⟨t, rfl⟩ hd
end
/-- the name of the type -/
def tyN : PyData → String
  | .none => "NoneType"
  | .bool _ => "bool"
  | .int _ => "int"
  | .str _ => "str"
  | .list _ => "list"
  | .tuple _ => "tuple"
  | .dict _ => "dict"
theorem dp_ty {K : PySem.W.Frag} {H : Hp} {v : V} {d : PyData} (h : Dp K H v d) : TyX K H v (.type (tyN d)) := by
  cases h with
  | non => exact .base .non
  | bl b => exact .base (.bl b)
  | int i => exact .base (.int i)
  | str x => exact .base (.str x)
  | lst hs _ =>
    rcases hs with (h | ⟨o, h⟩) | ⟨o, its, n, hk, hc, _⟩
    · exact .base (.lst h)
    · exact .base (.frz h)
    · exact .kList hk hc
  | tup hs _ =>
    rcases hs with (h | ⟨o, h⟩) | ⟨o, its, n, hk, hc, _⟩
    · exact .base (.tup h)
    · exact .fTuple h
    · exact .kTuple hk hc
def isT (d : PyData) (T : String) : Bool := match d with
  | .bool _ => T == "bool" || T == "int"
  | _ => tyN d == T
theorem kit_isT {K : PySem.W.Frag} (d : PyData) {T : String} (h : T = "int" ∨ T = "bool" ∨ T = "str" ∨ T = "tuple" ∨ T = "list") (nd : ∀ k, d ≠ .dict k) : PySem.W.kitOne K (.type (tyN d)) (.type T) = some (isT d T) := by
  refine kit_ty ?_
  rcases h with rfl | rfl | rfl | rfl | rfl <;> cases d <;> first | (exact absurd rfl (nd _)) | (simp only [tyN, isT]; decide +kernel)

/-! ### what the module's names hold -/
structure Gs (K : PySem.W.Frag) (mg : Str → Option Value) where
  isi : mg "isinstance" = none
  int : mg "int" = none
  bool : mg "bool" = none
  str : mg "str" = none
  tup : mg "tuple" = none
  len : mg "len" = none
  zip : mg "zip" = none
  all : mg "all" = none
  aV : Addr
  mV : mg "VARIABLES" = some (.ref aV)
  kV : ∀ H, SqT K H aV (vars.map V.str)
  aC : Addr
  mC : mg "CONDITION_SIGNS" = some (.ref aC)
  kC : ∀ H, SqT K H aC (signs.map V.str)
  aA : Addr
  mA : mg "ASK_SIGNS" = some (.ref aA)
  kA : ∀ H, SqT K H aA (asks.map V.str)
  aK : Addr
  mK : mg "KINDS" = some (.ref aK)
  kK : ∀ H, SqT K H aK (kinds.map V.str)
  tG : Tok
  mG : mg "GREATEST_VALUE" = some (.int 15 tG)
  tL : Tok
  mL : mg "LONGEST_WAIT" = some (.int longest tL)
  tS : Tok
  mS : mg "MOST_STATEMENTS" = some (.int 24 tS)
  tD : Tok
  mD : mg "MOST_DEPTH" = some (.int 4 tD)

/-! ### promises -/
abbrev Lay (d : PyData) : Prop := d.canLay0 = true
def spInt (K : PySem.W.Frag) : Sp := fun vs H Q _ => ∃ (v : V) (d : PyData) (lo hi : Int), vs = [v, .int lo, .int hi] ∧ Dp K H v d ∧ Q (.bl (intIn d lo hi)) H
def spFrom (K : PySem.W.Frag) : Sp := fun vs H Q _ => ∃ (v : V) (d : PyData) (lo : Int), vs = [v, .int lo] ∧ Dp K H v d ∧ Q (.bl (intFrom d lo)) H
def sp1 (f : PyData → Bool) (K : PySem.W.Frag) : Sp := fun vs H Q _ => ∃ (v : V) (d : PyData), vs = [v] ∧ Dp K H v d ∧ Lay d ∧ Q (.bl (f d)) H
theorem dp_nd {K : PySem.W.Frag} {H : Hp} {v : V} {d : PyData} (h : Dp K H v d) : ∀ k, d ≠ .dict k := by
  intro k e
  subst e
  cases h
section
variable {P : Program} {w : World} {K : PySem.W.Frag} {mg : Str → Option Value} {base : Heap}
theorem scFrom : FnScope ["thing", "least"] ["thing", "least"] (defScope sFrom) := ⟨rfl, rfl, rfl, by decide +kernel, rfl, by decide +kernel, by decide +kernel⟩
theorem ok_from {f : Addr} {fd : FuncData} (F : Fun K "is_integer_from" "is_integer_from" sFrom f fd) (T : Gs K mg) : FnOk P w K mg base CX0 1 f fd ["thing", "least"] (spFrom K) := by
  refine F.ok scFrom (fun vs H Q E h => ?_) (fun cdv A outer s H vs Q E hr h => ?_)
  · obtain ⟨v, d, lo, rfl, _⟩ := h
    rfl
  obtain ⟨v, d, lo, rfl, hd, q⟩ := h
  refine ⟨_, pss_one (ps_ret (pe_and (pe_callB call_isi (by rfl) T.isi (by decide +kernel) (pa_cons (pv 0) (pa_cons (pe_bltn (v := .ty "int") (by rfl) T.int (by decide +kernel) rfl) pa_nil)))
    (pe_and (pe_not (pe_callB call_isi (by rfl) T.isi (by decide +kernel) (pa_cons (pv 0) (pa_cons (pe_bltn (v := .ty "bool") (by rfl) T.bool (by decide +kernel) rfl) pa_nil))))
      (pe_one (pe_cmpR op_le (pv 1) (pv 0) (by rfl)))))), ?_⟩
  refine ⟨_, rfl, v, .ty "int", _, _, _, rfl, .ty _, dp_ty hd, kit_isT d (by simp) (dp_nd hd), _, rfl, ?_⟩
  cases hd with
  | int i =>
    refine ite2 (fun _ => ?_) (fun c => absurd (by rfl) c)
    refine ⟨_, rfl, _, .ty "bool", _, _, _, rfl, .ty _, dp_ty (.int i), kit_isT (.int i) (by simp) (fun _ e => nomatch e), _, rfl, _, rfl, ?_⟩
    refine ite2 (fun _ => ?_) (fun c => absurd (by rfl) c)
    exact ⟨_, rfl, _, rfl, _, _, rfl, rfl, q⟩
  | bl b =>
    refine ite2 (fun _ => ?_) (fun c => absurd (by rfl) c)
    refine ⟨_, rfl, _, .ty "bool", _, _, _, rfl, .ty _, dp_ty (.bl b), kit_isT (.bool b) (by simp) (fun _ e => nomatch e), _, rfl, _, rfl, ?_⟩
    exact ite2 (fun c => absurd (show false = true from c) (by decide)) (fun _ => q)
  | non => exact ite2 (fun c => absurd (show false = true from c) (by decide)) (fun _ => q)
  | str x => exact ite2 (fun c => absurd (show false = true from c) (by decide)) (fun _ => q)
  | lst _ _ => exact ite2 (fun c => absurd (show false = true from c) (by decide)) (fun _ => q)
  | tup _ _ => exact ite2 (fun c => absurd (show false = true from c) (by decide)) (fun _ => q)
structure Cal (P : Program) (w : World) (K : PySem.W.Frag) (mg : Str → Option Value) (base : Heap) (k : Nat) (x : Str) (ps : List Str) (sp : Sp) where
  f : Addr
  fd : FuncData
  G : FnOk P w K mg base CX0 k f fd ps sp
  b : Binds K fd ps []
  kp : PySem.W.keepIn K (.ref f) = true
  m : mg x = some (.ref f)
theorem scInt : FnScope ["thing", "least", "greatest"] ["thing", "least", "greatest"] (defScope sInt) := ⟨rfl, rfl, rfl, by decide +kernel, rfl, by decide +kernel, by decide +kernel⟩
theorem ok_int {f : Addr} {fd : FuncData} (F : Fun K "is_integer_from_to" "is_integer_from_to" sInt f fd) (CF : Cal P w K mg base 1 "is_integer_from" ["thing", "least"] (spFrom K)) : FnOk P w K mg base CX0 2 f fd ["thing", "least", "greatest"] (spInt K) := by
  refine F.ok scInt (fun vs H Q E h => ?_) (fun cdv A outer s H vs Q E hr h => ?_)
  · obtain ⟨v, d, lo, hi, rfl, _⟩ := h
    rfl
  obtain ⟨v, d, lo, hi, rfl, hd, q⟩ := h
  refine ⟨_, pss_one (ps_ret (pe_and (pe_call CF.G hr rfl CF.m CF.kp CF.b .nil pass0 (pa_cons (pv 0) (pa_cons (pv 1) pa_nil))) (pe_one (pe_cmpR op_le (pv 0) (pv 2) (by rfl))))), ?_⟩
  refine ⟨_, rfl, _, rfl, v, d, lo, rfl, hd, _, rfl, ?_⟩
  cases hd with
  | int i =>
    by_cases h1 : lo ≤ i
    · have e : intIn (.int i) lo hi = decide (i ≤ hi) := by simp [intIn, h1]
      rw [e] at q
      refine ite2 (fun _ => ⟨_, rfl, _, rfl, _, _, rfl, rfl, q⟩) (fun c => absurd (show decide (lo ≤ i) = true from decide_eq_true h1) c)
    · have e : intIn (.int i) lo hi = false := by simp [intIn, h1]
      rw [e] at q
      have e2 : intFrom (.int i) lo = false := decide_eq_false h1
      rw [e2]
      exact iteF q
  | bl b => exact ite2 (fun c => absurd (show false = true from c) (by decide)) (fun _ => q)
  | non => exact ite2 (fun c => absurd (show false = true from c) (by decide)) (fun _ => q)
  | str x => exact ite2 (fun c => absurd (show false = true from c) (by decide)) (fun _ => q)
  | lst _ _ => exact ite2 (fun c => absurd (show false = true from c) (by decide)) (fun _ => q)
  | tup _ _ => exact ite2 (fun c => absurd (show false = true from c) (by decide)) (fun _ => q)
end
theorem hu65 {k : Nat} {A : Around} (hr : Room k A) : A.units + 65 < cLine := by have := hr.un; omega
theorem dp_tup_inv {K : PySem.W.Frag} {H : Hp} {v : V} {ds : List PyData} (h : Dp K H v (.tuple ds)) : ∃ a xs, v = .ref a ∧ SqT K H a xs ∧ DpAll K H xs ds := by
  cases h with
  | tup hs ha => exact ⟨_, _, rfl, hs, ha⟩
theorem dpAll_len {K : PySem.W.Frag} {H : Hp} : ∀ {xs : List V} {ds : List PyData}, DpAll K H xs ds → xs.length = ds.length
  | _, _, .nil => rfl
  | _, _, .cons _ t => by rw [List.length_cons, List.length_cons, dpAll_len t]
theorem dpAll_get {K : PySem.W.Frag} {H : Hp} : ∀ {xs : List V} {ds : List PyData} {i : Nat} {x : V}, DpAll K H xs ds → xs[i]? = some x → ∃ d, ds[i]? = some d ∧ Dp K H x d
  | _, _, 0, _, .cons h _, e => by
    cases e
    exact ⟨_, rfl, h⟩
  | _, _, i + 1, _, .cons _ t, e => dpAll_get (i := i) t e
theorem lay_mem : ∀ {ds : List PyData}, PyData.canLayAll0 ds = true → ∀ d ∈ ds, Lay d
  | x :: r, h, d, m => by
    simp only [PyData.canLayAll0, Bool.and_eq_true] at h
    rcases List.mem_cons.mp m with e | m
    · rw [e]; exact h.1
    · exact lay_mem h.2 d m
theorem lay_tup {ds : List PyData} (h : Lay (.tuple ds)) : PyData.canLayAll0 ds = true := by
  unfold Lay at h
  simpa only [PyData.canLay0] using h
theorem isT_tup {d : PyData} (h : isT d "tuple" = true) : ∃ ds, d = .tuple ds := by
  cases d with
  | tuple ds => exact ⟨ds, rfl⟩
  | _ => simp [isT, tyN] at h
theorem isT_str {d : PyData} (h : isT d "str" = true) : ∃ z, d = .str z := by
  cases d with
  | str ds => exact ⟨ds, rfl⟩
  | _ => simp [isT, tyN] at h
theorem same_new {H : Hp} {p : Addr} (h : H p = none) (o : HO) : Same H (upd H p o) := fun b u q => by rw [upd_ne (ne_of_none q h)]; exact q
theorem Same.tup {K : PySem.W.Frag} {H H' : Hp} {a : Addr} {xs : List V} (e : Same H H') (h : SqT K H a xs) : SqT K H' a xs := by
  rcases h with (h | ⟨o, h⟩) | h
  · exact .inl (.inl (e _ _ h))
  · exact .inl (.inr ⟨o, e _ _ h⟩)
  · exact .inr h
mutual
theorem dp_mono {K : PySem.W.Frag} {H H' : Hp} (e : Same H H') : ∀ (d : PyData) (v : V), Dp K H v d → Dp K H' v d
  | .none, _, h => by cases h; exact .non
  | .bool b, _, h => by cases h; exact .bl b
  | .int i, _, h => by cases h; exact .int i
  | .str x, _, h => by cases h; exact .str x
  | .list ds, _, h => by
    cases h with
    | lst hs ha => exact .lst (e.seq hs) (dpAll_mono e ds _ ha)
  | .tuple ds, _, h => by
    cases h with
    | tup hs ha => exact .tup (Same.tup e hs) (dpAll_mono e ds _ ha)
  | .dict _, _, h => by cases h
theorem dpAll_mono {K : PySem.W.Frag} {H H' : Hp} (e : Same H H') : ∀ (ds : List PyData) (vs : List V), DpAll K H vs ds → DpAll K H' vs ds
  | [], _, h => by cases h; exact .nil
  | d :: ds, _, h => by
    cases h with
    | cons hd ht => exact .cons (dp_mono e d _ hd) (dpAll_mono e ds _ ht)
end
def wordOf : PyData → Option Str
  | .tuple (.str z :: _) => some z
  | _ => none
def wV : Option Str → V
  | some z => .str z
  | none => .non
def spPart (K : PySem.W.Frag) : Sp := fun vs H Q _ => ∃ (v : V) (d : PyData) (r : Str), vs = [v, .str r] ∧ Dp K H v d ∧ Lay d ∧ Q (.bl (isPart d r)) H
def spWord (K : PySem.W.Frag) : Sp := fun vs H Q _ => ∃ (v : V) (d : PyData), vs = [v] ∧ Dp K H v d ∧ Q (wV (wordOf d)) H
section
variable {P : Program} {w : World} {K : PySem.W.Frag} {mg : Str → Option Value} {base : Heap}
theorem scTerm : FnScope ["thing"] ["thing"] (defScope sTerm) := ⟨rfl, rfl, rfl, by decide +kernel, rfl, by decide +kernel, by decide +kernel⟩
theorem ok_term {f : Addr} {fd : FuncData} (F : Fun K "is_term" "is_term" sTerm f fd) (T : Gs K mg) (CI : Cal P w K mg base 2 "is_integer_from_to" ["thing", "least", "greatest"] (spInt K)) :
    FnOk P w K mg base CX0 3 f fd ["thing"] (sp1 isTerm K) := by
  refine F.ok scTerm (fun vs H Q E h => ?_) (fun cdv A outer s H vs Q E hr h => ?_)
  · obtain ⟨v, d, rfl, _⟩ := h
    rfl
  obtain ⟨v, d, rfl, hd, ld, q⟩ := h
  refine ⟨_, pss_one (ps_ret (pe_or (pe_cmpR (op_inS (hu65 hr)) (pv 0) (pe_gref rfl T.mV) (by rfl)) (pe_one (pe_call CI.G hr rfl CI.m CI.kp CI.b .nil pass0 (pa_cons (pv 0) (pa_cons pe_int (pa_cons (pe_gint rfl T.mG) pa_nil))))))), ?_⟩
  refine ⟨_, rfl, d, vars, T.aV, rfl, hd, ld, T.kV _, by decide +kernel, _, rfl, ?_⟩
  refine ite2 (fun c => ?_) (fun c => ?_)
  · have e : isTerm d = true := by unfold isTerm; rw [show inS d vars = true from c]; rfl
    rw [e] at q
    exact q
  · refine ⟨_, rfl, v, d, 0, 15, rfl, hd, ?_⟩
    have e : isTerm d = intIn d 0 15 := by unfold isTerm; rw [show inS d vars = false from Bool.eq_false_iff.mpr c]; rfl
    rw [e] at q
    exact q
theorem scCond : FnScope ["thing", "variable", "sign", "term"] ["thing"] (defScope sCond) := ⟨rfl, rfl, rfl, by decide +kernel, rfl, by decide +kernel, by decide +kernel⟩
theorem ok_cond {f : Addr} {fd : FuncData} (F : Fun K "is_condition" "is_condition" sCond f fd) (T : Gs K mg) (CT : Cal P w K mg base 3 "is_term" ["thing"] (sp1 isTerm K)) :
    FnOk P w K mg base CX0 4 f fd ["thing"] (sp1 isCond K) := by
  refine F.ok scCond (fun vs H Q E h => ?_) (fun cdv A outer s H vs Q E hr h => ?_)
  · obtain ⟨v, d, rfl, _⟩ := h
    rfl
  obtain ⟨v, d, rfl, hd, ld, q⟩ := h
  refine ⟨_, pss_cons (ps_if (PW.pt (pw_or (pt_not (pt_val (pe_callB call_isi (by rfl) T.isi (by decide +kernel) (pa_cons (pv 0) (pa_cons (pe_bltn (v := .ty "tuple") (by rfl) T.tup (by decide +kernel) rfl) pa_nil)))))
      (pw_or1 (pt_cmpR op_ne (pe_callB call_len_seq (by rfl) T.len PySem.boot_len (pa_cons (pv 0) pa_nil)) pe_int (nomark _))))) (pss_one (ps_ret pe_bl)) pss_nil)
    (pss_cons (ps_asg (pv 0) (pg_tup (by rfl) (pgs_cons (pg_name (i := 1) scCond.nd rfl (.inl rfl)) (pgs_cons (pg_name (i := 2) scCond.nd rfl (.inl rfl)) (pgs_cons (pg_name (i := 3) scCond.nd rfl (.inl rfl)) pgs_nil)))))
    (pss_one (ps_ret (pe_and (pe_cmpR (op_inS (hu65 hr)) (pv 1) (pe_gref rfl T.mV) (by rfl)) (pe_and (pe_cmpR (op_inS (hu65 hr)) (pv 2) (pe_gref rfl T.mC) (by rfl))
      (pe_one (pe_call CT.G hr rfl CT.m CT.kp CT.b .nil pass0 (pa_cons (pv 3) pa_nil)))))))), ?_⟩
  refine ⟨_, rfl, v, .ty "tuple", _, _, _, rfl, .ty _, dp_ty hd, kit_isT d (by simp) (dp_nd hd), _, rfl, ?_⟩
  cases ht : isT d "tuple" with
  | false =>
    refine iteT (iteT ?_)
    have e : isCond d = false := by cases d <;> first | rfl | (simp [isT, tyN] at ht)
    rw [e] at q
    exact q
  | true =>
    obtain ⟨ds, rfl⟩ := isT_tup ht
    obtain ⟨a, xs, rfl, hs, ha⟩ := dp_tup_inv hd
    have hl := dpAll_len ha
    refine iteF ⟨_, rfl, a, xs, rfl, .inr hs, rfl, _, rfl, ?_⟩
    by_cases h3 : ds.length = 3
    · have c : V.int ((xs.length : Nat) : Int) = V.int 3 := by rw [hl, h3]; rfl
      refine iteNS c ?_
      cases ha with
      | nil => cases h3
      | cons h0 t1 =>
        cases t1 with
        | nil => cases h3
        | cons h1 t2 =>
          cases t2 with
          | nil => cases h3
          | cons h2 t3 =>
            cases t3 with
            | cons _ _ => simp at h3
            | nil =>
              rename_i x0 d0 x1 d1 x2 d2
              have lm := lay_mem (lay_tup ld)
              refine ⟨_, rfl, a, _, rfl, hs, rfl, _, _, rfl, _, _, rfl, _, _, rfl, rfl, ?_⟩
              refine ⟨_, rfl, d0, vars, T.aV, rfl, h0, lm _ (by simp), T.kV _, by decide +kernel, _, rfl, ?_⟩
              have e : isCond (.tuple [d0, d1, d2]) = (inS d0 vars && inS d1 signs && isTerm d2) := rfl
              rw [e] at q
              cases c1 : inS d0 vars with
              | false => rw [c1] at q; exact iteF q
              | true =>
                refine iteT ⟨_, rfl, d1, signs, T.aC, rfl, h1, lm _ (by simp), T.kC _, by decide +kernel, _, rfl, ?_⟩
                cases c2 : inS d1 signs with
                | false => rw [c1, c2] at q; exact iteF q
                | true =>
                  rw [c1, c2] at q
                  exact iteT ⟨_, rfl, _, d2, rfl, h2, lm _ (by simp), q⟩
    · refine ite2 (fun _ => ?_) (fun c => absurd ?_ c)
      · have e : isCond (.tuple ds) = false := by
          match ds, h3 with
          | [], _ => rfl
          | [_], _ => rfl
          | [_, _], _ => rfl
          | [_, _, _], h => exact absurd rfl h
          | _ :: _ :: _ :: _ :: _, _ => rfl
        rw [e] at q
        exact q
      · rw [Bool.not_eq_true', decide_eq_false_iff_not]
        intro z
        have z' : ((xs.length : Nat) : Int) = 3 := by injection z
        omega
end
section
variable {P : Program} {w : World} {K : PySem.W.Frag} {mg : Str → Option Value} {base : Heap}
theorem scPart : FnScope ["thing", "role"] ["thing", "role"] (defScope sPart) := ⟨rfl, rfl, rfl, by decide +kernel, rfl, by decide +kernel, by decide +kernel⟩
theorem ok_part {f : Addr} {fd : FuncData} (F : Fun K "is_part" "is_part" sPart f fd) (T : Gs K mg) (CI : Cal P w K mg base 2 "is_integer_from_to" ["thing", "least", "greatest"] (spInt K)) (CT : Cal P w K mg base 3 "is_term" ["thing"] (sp1 isTerm K)) :
    FnOk P w K mg base CX0 4 f fd ["thing", "role"] (spPart K) := by
  refine F.ok scPart (fun vs H Q E h => ?_) (fun cdv A outer s H vs Q E hr h => ?_)
  · obtain ⟨v, d, r, rfl, _⟩ := h
    rfl
  obtain ⟨v, d, r, rfl, hd, ld, q⟩ := h
  have hr1 : Room 2 _ := hr.mono (by decide)
  refine ⟨_, pss_cons (ps_if (pt_cmpR op_eq (pv 1) pe_str (nomark _)) (pss_one (ps_ret (pe_cmpR (op_inS (hu65 hr)) (pv 0) (pe_gref rfl T.mV) (by rfl)))) pss_nil)
    (pss_cons (ps_if (pt_cmpR op_eq (pv 1) pe_str (nomark _)) (pss_one (ps_ret (pe_call CT.G hr rfl CT.m CT.kp CT.b .nil pass0 (pa_cons (pv 0) pa_nil)))) pss_nil)
    (pss_cons (ps_if (pt_cmpR op_eq (pv 1) pe_str (nomark _)) (pss_one (ps_ret (pe_cmpR (op_inS (hu65 hr)) (pv 0) (pe_gref rfl T.mA) (by rfl)))) pss_nil)
    (pss_cons (ps_if (pt_cmpR op_eq (pv 1) pe_str (nomark _)) (pss_one (ps_ret (pe_call CI.G hr1 rfl CI.m CI.kp CI.b .nil pass0 (pa_cons (pv 0) (pa_cons pe_int (pa_cons (pe_gint rfl T.mL) pa_nil)))))) pss_nil)
    (pss_cons (ps_if (pt_cmpR op_eq (pv 1) pe_str (nomark _)) (pss_one (ps_ret (pe_call CI.G hr1 rfl CI.m CI.kp CI.b .nil pass0 (pa_cons (pv 0) (pa_cons pe_int (pa_cons pe_int pa_nil)))))) pss_nil)
    (pss_one (ps_ret (pe_call CI.G hr1 rfl CI.m CI.kp CI.b .nil pass0 (pa_cons (pv 0) (pa_cons pe_int (pa_cons (pe_gint rfl T.mG) pa_nil)))))))))), ?_⟩
  have ne : ∀ {z : Str}, ¬ decide (V.str r = V.str z) = true → ¬ r = z := fun c e => c (decide_eq_true (by rw [e]))
  have eq : ∀ {z : Str}, decide (V.str r = V.str z) = true → r = z := fun c => by
    have c' := of_decide_eq_true c
    injection c'
  unfold isPart at q
  refine ⟨_, rfl, rfl, _, rfl, ite2 (fun c => ?_) (fun c => ?_)⟩
  · rw [if_pos (eq c)] at q
    exact ⟨_, rfl, d, vars, T.aV, rfl, hd, ld, T.kV _, by decide +kernel, q⟩
  rw [if_neg (ne c)] at q
  refine ⟨_, rfl, rfl, _, rfl, ite2 (fun c => ?_) (fun c => ?_)⟩
  · rw [if_pos (eq c)] at q
    exact ⟨_, rfl, v, d, rfl, hd, ld, q⟩
  rw [if_neg (ne c)] at q
  refine ⟨_, rfl, rfl, _, rfl, ite2 (fun c => ?_) (fun c => ?_)⟩
  · rw [if_pos (eq c)] at q
    exact ⟨_, rfl, d, asks, T.aA, rfl, hd, ld, T.kA _, by decide +kernel, q⟩
  rw [if_neg (ne c)] at q
  refine ⟨_, rfl, rfl, _, rfl, ite2 (fun c => ?_) (fun c => ?_)⟩
  · rw [if_pos (eq c)] at q
    exact ⟨_, rfl, v, d, _, _, rfl, hd, q⟩
  rw [if_neg (ne c)] at q
  refine ⟨_, rfl, rfl, _, rfl, ite2 (fun c => ?_) (fun c => ?_)⟩
  · rw [if_pos (eq c)] at q
    exact ⟨_, rfl, v, d, _, _, rfl, hd, q⟩
  rw [if_neg (ne c)] at q
  exact ⟨_, rfl, v, d, _, _, rfl, hd, q⟩
theorem scWord : FnScope ["thing"] ["thing"] (defScope sWord) := ⟨rfl, rfl, rfl, by decide +kernel, rfl, by decide +kernel, by decide +kernel⟩
theorem ok_word {f : Addr} {fd : FuncData} (F : Fun K "word_of" "word_of" sWord f fd) (T : Gs K mg) : FnOk P w K mg base CX0 1 f fd ["thing"] (spWord K) := by
  refine F.ok scWord (fun vs H Q E h => ?_) (fun cdv A outer s H vs Q E hr h => ?_)
  · obtain ⟨v, d, rfl, _⟩ := h
    rfl
  obtain ⟨v, d, rfl, hd, q⟩ := h
  refine ⟨_, pss_cons (ps_if (PW.pt (pw_and (pt_val (pe_callB call_isi (by rfl) T.isi (by decide +kernel) (pa_cons (pv 0) (pa_cons (pe_bltn (v := .ty "tuple") (by rfl) T.tup (by decide +kernel) rfl) pa_nil))))
      (pw_and (pt_cmpR op_gt (pe_callB call_len_seq (by rfl) T.len PySem.boot_len (pa_cons (pv 0) pa_nil)) pe_int (nomark _))
      (pw_and1 (pt_val (pe_callB call_isi (by rfl) T.isi (by decide +kernel) (pa_cons (pe_ix ix_tup (pv 0) pe_int (fun _ _ => rfl)) (pa_cons (pe_bltn (v := .ty "str") (by rfl) T.str (by decide +kernel) rfl) pa_nil))))))))
      (pss_one (ps_ret (pe_ix ix_tup (pv 0) pe_int (fun _ _ => rfl)))) pss_nil) (pss_one (ps_ret pe_non)), ?_⟩
  refine ⟨_, rfl, v, .ty "tuple", _, _, _, rfl, .ty _, dp_ty hd, kit_isT d (by simp) (dp_nd hd), _, rfl, ?_⟩
  cases ht : isT d "tuple" with
  | false =>
    refine iteF (iteF ?_)
    have e : wordOf d = none := by cases d <;> first | rfl | (simp [isT, tyN] at ht)
    rw [e] at q
    exact q
  | true =>
    obtain ⟨ds, rfl⟩ := isT_tup ht
    obtain ⟨a, xs, rfl, hs, ha⟩ := dp_tup_inv hd
    refine iteT ⟨_, rfl, a, xs, rfl, .inr hs, _, _, rfl, rfl, _, rfl, ?_⟩
    cases ha with
    | nil => exact iteF (iteF q)
    | cons h0 t =>
      rename_i x0 xr d0 dr
      have c : decide ((0 : Int) < (((x0 :: xr).length : Nat) : Int)) = true := decide_eq_true (by rw [List.length_cons]; omega)
      rw [c]
      refine iteT ⟨_, rfl, a, _, _, _, rfl, rfl, hs, atI_nat (j := 0) rfl, x0, .ty "str", _, _, _, rfl, .ty _, dp_ty h0, kit_isT d0 (by simp) (dp_nd h0), _, rfl, ?_⟩
      cases hz : isT d0 "str" with
      | false =>
        refine iteF ?_
        have e : wordOf (.tuple (d0 :: dr)) = none := by cases d0 <;> first | rfl | (simp [isT, tyN] at hz)
        rw [e] at q
        exact q
      | true =>
        obtain ⟨z, rfl⟩ := isT_str hz
        cases h0
        exact iteT ⟨_, rfl, a, _, _, _, rfl, rfl, hs, atI_nat (j := 0) rfl, q⟩
end
end My

namespace My
open PySem L2 PyProof.Rows
/-! ### a written dict with text keys, asked by a text or by None -/
inductive Ents : List DictEntry → List (Str × V) → Prop
  | nil : Ents [] []
  | cons {h : Int} {x : Str} {t : Tok} {u : Value} {v : V} {r : List DictEntry} {rs : List (Str × V)} : RelV v u → Ents r rs → Ents (⟨h, .str x t, u⟩ :: r) ((x, v) :: rs)
def lookT (tab : List (Str × V)) (z : Str) : Option V := (tab.find? fun p => p.1 == z).map (·.2)
theorem ents_find : ∀ {l : List DictEntry} {tab : List (Str × V)}, Ents l tab → ∀ z : Str,
    (∃ (e : DictEntry) (v : V), l.find? (fun d => d.key.isStr z) = some e ∧ lookT tab z = some v ∧ RelV v e.val) ∨ (l.find? (fun d => d.key.isStr z) = none ∧ lookT tab z = none)
  | _, _, .nil, z => .inr ⟨rfl, rfl⟩
  | _, _, .cons (x := x) (h := h) (t := t) (u := u) (v := v) (r := l0) (rs := rs) rv r, z => by
    have ih := ents_find r z
    by_cases c : (x == z) = true
    · refine .inl ⟨⟨h, .str x t, u⟩, v, ?_, ?_, rv⟩
      · rw [List.find?_cons_of_pos]
        exact c
      · unfold lookT
        rw [List.find?_cons_of_pos (by exact c)]
        rfl
    · have c1 : List.find? (fun d : DictEntry => d.key.isStr z) (⟨h, .str x t, u⟩ :: l0) = l0.find? (fun d : DictEntry => d.key.isStr z) := List.find?_cons_of_neg (by exact c)
      have c2 : lookT ((x, v) :: rs) z = lookT rs z := by
        unfold lookT
        rw [List.find?_cons_of_neg (by exact c)]
      rw [c2]
      rcases ih with ⟨e, v', h1, h2, h3⟩ | ⟨h1, h2⟩
      · exact .inl ⟨e, v', c1.trans h1, h2, h3⟩
      · exact .inr ⟨c1.trans h1, h2⟩
structure KTab (K : PySem.W.Frag) (w : World) (d : Addr) (tab : List (Str × V)) : Prop where
  ex : ∃ es n, K.lookup d = some ⟨.type "dict", none, .dict es n, #[]⟩ ∧ PySem.W.KeysLit w.params es.toList ∧ Ents es.toList tab
  low : (d == sysModules) = false
theorem findBy_tab {es : Array DictEntry} {tab : List (Str × V)} (E : Ents es.toList tab) (z : Str) :
    (∃ u v, findBy Value.isStrOf es z = some u ∧ lookT tab z = some v ∧ RelV v u) ∨ (findBy Value.isStrOf es z = none ∧ lookT tab z = none) := by
  obtain ⟨l⟩ := es
  have q : (fun d : DictEntry => Value.isStrOf z d.key) = fun d => d.key.isStr z := funext fun d => (PySem.W.isStr_of z d.key).symm
  unfold findBy
  rw [List.find?_toArray, q]
  rcases ents_find E z with ⟨e, v, h1, h2, h3⟩ | ⟨h1, h2⟩
  · exact .inl ⟨e.val, v, by rw [show List.find? (fun d : DictEntry => d.key.isStr z) l = some e from h1]; rfl, h2, h3⟩
  · exact .inr ⟨by rw [show List.find? (fun d : DictEntry => d.key.isStr z) l = none from h1]; rfl, h2⟩
theorem none_mapK {P : Program} {w : World} {K : PySem.W.Frag} {h : Heap} {a : Addr} {es : Array DictEntry} {n : Nat} (X : K.In h) (hl : K.lookup a = some ⟨.type "dict", none, .dict es n, #[]⟩) (hk : PySem.W.KeysLit w.params es.toList) :
    ∃ f, h.MapOf (noneKind P w) a f ∧ f none = none := by
  refine ⟨fun k => findBy (noneKind P w).is es k, ⟨_, es, n, X _ _ hl, ⟨rfl, rfl, rfl⟩, rfl, fun e he => ?_, fun k => rfl⟩, ?_⟩
  · obtain ⟨x, t, e1, e2⟩ := hk.all e (Array.mem_toList_iff.mpr he)
    refine ⟨some (.inr x), ?_, e2⟩
    rw [e1]
    exact strKind_is P w x t
  · have q : (es.find? fun e => nkIs none e.key) = none := by
      rw [Array.find?_eq_none]
      intro e he hq
      obtain ⟨x, t, e1, _⟩ := hk.all e (Array.mem_toList_iff.mpr he)
      rw [e1] at hq
      exact nomatch (show false = true from hq)
    show (es.find? fun e => nkIs none e.key).map (·.val) = none
    rw [q] <;> rfl
def getT (tab : List (Str × V)) (wd : Option Str) : Option V := wd.bind (lookT tab)
section
variable {X : Cx}
def rInK (K : PySem.W.Frag) (w : World) (neg : Bool) : R2 := fun x y H Q => ∃ (d : Addr) (tab : List (Str × V)) (wd : Option Str), y = .ref d ∧ KTab K w d tab ∧ x = wV wd ∧ Q (.bl (if neg then !(getT tab wd).isSome else (getT tab wd).isSome)) H
theorem op_inK : OpR X (compareOp .In) (rInK X.K X.w false) := by
  intro pins s σ H x y v u Q I rx ry h
  obtain ⟨d, tab, wd, rfl, ⟨⟨es, n, hl, hk, he⟩, low⟩, rfl, q⟩ := h
  cases ry
  cases wd with
  | none =>
    cases rx
    obtain ⟨f, hm, hf⟩ := none_mapK (P := X.prog) (w := X.w) I.kIn hl hk
    refine wpAny_in_of (show (noneKind X.prog X.w).is none .none = true from rfl) low hm ?_
    rw [hf]
    exact ⟨.bl _, H, I.tok _, rfl, q⟩
  | some z =>
    obtain ⟨t, rfl⟩ := rx
    refine wpAny_in_of (PySem.strKind_is X.prog X.w z t) low (PySem.W.mapOf_K (prog := X.prog) I.kIn hl hk) ?_
    rcases findBy_tab he z with ⟨u, v, h1, h2, h3⟩ | ⟨h1, h2⟩
    · rw [h1]
      refine ⟨.bl true, H, I.tok _, rfl, ?_⟩
      have e : (getT tab (some z)).isSome = true := by show (lookT tab z).isSome = true; rw [h2]; rfl
      rw [e] at q
      exact q
    · rw [h1]
      refine ⟨.bl false, H, I.tok _, rfl, ?_⟩
      have e : (getT tab (some z)).isSome = false := by show (lookT tab z).isSome = false; rw [h2]; rfl
      rw [e] at q
      exact q
theorem ktab_ix {K : PySem.W.Frag} {w : World} {d : Addr} {tab : List (Str × V)} {z : Str} {v : V} (T : KTab K w d tab) (h : lookT tab z = some v) : KDct K w d z v := by
  obtain ⟨⟨es, n, hl, hk, he⟩, low⟩ := T
  rcases ents_find he z with ⟨e, v', h1, h2, h3⟩ | ⟨h1, h2⟩
  · rw [h] at h2
    cases h2
    refine ⟨es, n, e.val, hl, hk, ?_, h3⟩
    unfold PySem.W.nsIn
    rw [hl]
    dsimp only
    rw [h1]
  · rw [h] at h2
    cases h2
def tGetK (K : PySem.W.Frag) (w : World) (to : TE) (t : TA) : TE := fun σ H Q => to σ H fun x H1 => ∃ (d : Addr) (tab : List (Str × V)), x = .ref d ∧ KTab K w d tab ∧ t σ H1 fun ys H2 => ∃ wd : Option Str, ys = [wV wd] ∧ Q ((getT tab wd).getD .non) H2
variable {o e : Expr} {es : List Expr} {to : TE} {t : TA} {apos cpos : Pos}
theorem pe_getK (ho : PE X o to) (ha : PA X [e] t)
    (hbase : attributeBase o "get" X.env (eval o X.env) = eval o X.env := by rfl)
    (hfew : ((backTo cpos (starEach [e] X.env)).all (fun x => !x.1) && (backToKw cpos (keywordEach [] X.env)).all (fun x => x.1.isSome)
      && decide ([e].length + ([] : List Keyword).length + (if ([] : List Keyword).isEmpty then 0 else 1) < 30)) = true := by rfl)
    (hline : (apos.endLine == cpos.line) = true := by rfl) (hs : starEach [e] X.env = (false, eval e X.env) :: starEach [] X.env := by rfl) (hplain : (backTo cpos (starEach [] X.env)).any (·.1) = false := by rfl) :
    PE X (.Call (.Attribute o "get" apos) [e] [] cpos) (tGetK X.K X.w to t) := by
  refine ⟨fun pins s σ H Q I h => ?_⟩
  refine wpAny_Call_method_late hbase hfew hline rfl (thn (ho.run pins s σ H _ I h) fun v s1 ⟨x, H1, I1, r1, d, tab, ex, KT, q1⟩ => ?_)
  obtain ⟨⟨es, n, hl, hk, he⟩, low⟩ := KT
  subst ex
  obtain rfl : v = Value.ref d := r1
  have hm0 := PySem.W.mapOf_K (prog := X.prog) (w := X.w) I1.kIn hl hk
  refine ⟨"dict", "dict.get", PySem.F.plainAttrs_dict, PySem.F.slot_dict_get, PySem.F.type_dict_get, hm0.typeIs, fun a e2 => ?_, ?_⟩
  · cases e2
    exact ⟨_, I1.kIn _ _ hl, rfl⟩
  have hA := ha.run cpos pins s1 σ H1 _ I1 q1
  rw [hs] at hA ⊢
  refine Calls.callWith_builtin (by show (false || (backTo cpos (starEach [] X.env)).any (·.1)) = false; rw [hplain] <;> rfl) (Calls.evalArgs_plain ?_)
  refine thn hA fun us s2 ⟨vs, H2, I2, r2, wd, ev, q2⟩ => ?_
  subst ev
  obtain ⟨u, rfl, ru⟩ := Vals.one r2
  have hm := PySem.W.mapOf_K (prog := X.prog) (w := X.w) I2.kIn hl hk
  cases wd with
  | none =>
    cases ru
    obtain ⟨f, hmn, hf⟩ := none_mapK (P := X.prog) (w := X.w) I2.kIn hl hk
    refine call_meetsIn PySem.F.slot_dict_get hm.typeIs PySem.F.entry_dict_get (PySem.F.args_dict_get_2 _ _) (meets_dict_get (noneKind X.prog X.w) d (show (noneKind X.prog X.w).is none .none = true from rfl) low) ⟨f, hmn, ?_⟩
    rw [hf]
    exact ⟨.non, H2, I2.tok _, rfl, q2⟩
  | some z =>
    obtain ⟨t, rfl⟩ := ru
    refine call_meetsIn PySem.F.slot_dict_get hm.typeIs PySem.F.entry_dict_get (PySem.F.args_dict_get_2 _ _) (meets_dict_get (strKind X.prog X.w) d (PySem.strKind_is X.prog X.w z t) low) ⟨_, hm, ?_⟩
    rcases findBy_tab he z with ⟨u, v, h1, h2, h3⟩ | ⟨h1, h2⟩
    · rw [h1]
      have e : getT tab (some z) = some v := h2
      rw [e] at q2
      exact ⟨v, H2, I2.tok _, h3, q2⟩
    · rw [h1]
      have e : getT tab (some z) = none := h2
      rw [e] at q2
      exact ⟨.non, H2, I2.tok _, rfl, q2⟩
end
theorem lookT_eq {x : Str} {v : V} {r : List (Str × V)} : lookT ((x, v) :: r) x = some v := by
  unfold lookT
  rw [List.find?_cons_of_pos (by exact beq_self_eq_true x)]
  rfl
theorem lookT_ne {x z : Str} {v : V} {r : List (Str × V)} (h : ¬ z = x) : lookT ((x, v) :: r) z = lookT r z := by
  unfold lookT
  rw [List.find?_cons_of_neg (by intro c; exact h (eq_of_beq (show (x == z) = true from c)).symm)]
structure Gd (K : PySem.W.Frag) (w : World) (mg : Str → Option Value) where
  aB : Addr
  mB : mg "BODIES" = some (.ref aB)
  tB : KTab K w aB [("if", .int 2), ("while", .int 1)]
  aS : Addr
  r1 : Addr
  r2 : Addr
  r3 : Addr
  mS : mg "SHARED_ROLES" = some (.ref aS)
  tS : KTab K w aS [("set", .ref r1), ("add", .ref r2), ("wait", .ref r3)]
  k1 : ∀ H, SqT K H r1 ((["variable", "value"] : List Str).map V.str)
  k2 : ∀ H, SqT K H r2 ((["variable", "term"] : List Str).map V.str)
  k3 : ∀ H, SqT K H r3 ((["steps"] : List Str).map V.str)
  aT : Addr
  r4 : Addr
  r5 : Addr
  mT : mg "TELLER_ROLES" = some (.ref aT)
  tT : KTab K w aT [("ask", .ref r4), ("answer", .ref r5)]
  k4 : ∀ H, SqT K H r4 ((["sign", "term", "variable"] : List Str).map V.str)
  k5 : ∀ H, SqT K H r5 ((["answer"] : List Str).map V.str)
  aC : Addr
  r6 : Addr
  r7 : Addr
  mC : mg "COLLECTOR_ROLES" = some (.ref aC)
  tC : KTab K w aC [("grow", .ref r6), ("list", .ref r7)]
  k6 : ∀ H, SqT K H r6 ((["term"] : List Str).map V.str)
  k7 : ∀ H, SqT K H r7 ((["term"] : List Str).map V.str)
def rolesZ (z kind : Str) : Option (List Str) :=
  if z = "set" then some ["variable", "value"] else if z = "add" then some ["variable", "term"] else if z = "wait" then some ["steps"]
  else if kind = "teller" then (if z = "ask" then some ["sign", "term", "variable"] else if z = "answer" then some ["answer"] else none)
  else (if z = "grow" then some ["term"] else if z = "list" then some ["term"] else none)
def rolesOf (wd : Option Str) (kind : Str) : Option (List Str) := wd.bind fun z => rolesZ z kind
def allParts (ps : List PyData) (rs : List Str) : Bool := ((ps.zip rs).map fun p => isPart p.1 p.2).all id
def isPlain (d : PyData) (kind : Str) : Bool := match d with
  | .tuple (.str z :: ps) => (match rolesZ z kind with
    | some rs => decide (ps.length = rs.length) && allParts ps rs
    | none => false)
  | _ => false
def cond3 : List PyData → Bool
  | [c, _, _] => isCond c
  | _ => false
def cond2 : List PyData → Bool
  | [c, _] => isCond c
  | _ => false
/-- a statement, whatever its bodies are -/
def isOut (d : PyData) (kind : Str) : Bool := match d with
  | .tuple (.str z :: ps) => if z = "if" then cond3 ps else if z = "while" then cond2 ps else isPlain d kind
  | _ => false
def bodsOf (d : PyData) : List PyData := match d with
  | .tuple (.str z :: ps) => if z = "if" ∨ z = "while" then ps.drop 1 else []
  | _ => []
def spRoles (K : PySem.W.Frag) : Sp := fun vs H Q _ => ∃ (wd : Option Str) (kind : Str), vs = [wV wd, .str kind] ∧ (rolesOf wd kind = none → Q .non H) ∧
  (∀ rs a, rolesOf wd kind = some rs → (∀ H, SqT K H a (rs.map V.str)) → Q (.ref a) H)
def sp2 (f : PyData → Str → Bool) (K : PySem.W.Frag) : Sp := fun vs H Q _ => ∃ (v : V) (d : PyData) (kind : Str), vs = [v, .str kind] ∧ Dp K H v d ∧ Lay d ∧ ∀ H', Same H H' → Q (.bl (f d kind)) H'
section
variable {P : Program} {w : World} {K : PySem.W.Frag} {mg : Str → Option Value} {base : Heap}
theorem scRoles : FnScope ["word", "kind"] ["word", "kind"] (defScope sRoles) := ⟨rfl, rfl, rfl, by decide +kernel, rfl, by decide +kernel, by decide +kernel⟩
theorem ok_roles {f : Addr} {fd : FuncData} (F : Fun K "roles_of" "roles_of" sRoles f fd) (D : Gd K w mg) : FnOk P w K mg base CX0 1 f fd ["word", "kind"] (spRoles K) := by
  refine F.ok scRoles (fun vs H Q E h => ?_) (fun cdv A outer s H vs Q E hr h => ?_)
  · obtain ⟨wd, kind, rfl, _⟩ := h
    rfl
  obtain ⟨wd, kind, rfl, q0, q1⟩ := h
  refine ⟨_, pss_cons (ps_if (pt_cmpR op_inK (pv 0) (pe_gref rfl D.mS) (by rfl)) (pss_one (ps_ret (pe_ix ix_kdict (pe_gref rfl D.mS) (pv 0) (fun _ _ => rfl)))) pss_nil)
    (pss_cons (ps_if (pt_cmpR op_eq (pv 1) pe_str (nomark _)) (pss_one (ps_ret (pe_getK (pe_gref rfl D.mT) (pa_cons (pv 0) pa_nil)))) pss_nil)
    (pss_one (ps_ret (pe_getK (pe_gref rfl D.mC) (pa_cons (pv 0) pa_nil))))), ?_⟩
  refine ⟨_, rfl, D.aS, _, wd, rfl, D.tS, rfl, _, rfl, ?_⟩
  have keq : ∀ {z : Str}, decide (V.str kind = V.str z) = true → kind = z := fun c => by
    have c' := of_decide_eq_true c
    injection c'
  have kne : ∀ {z : Str}, ¬ decide (V.str kind = V.str z) = true → ¬ kind = z := fun c e => c (decide_eq_true (by rw [e]))
  cases wd with
  | none =>
    refine iteF ?_
    refine ⟨_, rfl, rfl, _, rfl, ite2 (fun c => ?_) (fun c => ?_)⟩
    · exact ⟨D.aT, _, rfl, D.tT, _, rfl, none, rfl, q0 rfl⟩
    · exact ⟨D.aC, _, rfl, D.tC, _, rfl, none, rfl, q0 rfl⟩
  | some z =>
    have eG : ∀ tab, getT tab (some z) = lookT tab z := fun _ => rfl
    rw [eG]
    have eR : rolesOf (some z) kind = rolesZ z kind := rfl
    rw [eR] at q0
    have q1' : ∀ rs a, rolesZ z kind = some rs → (∀ H, SqT K H a (rs.map V.str)) → Q (.ref a) H := q1
    unfold rolesZ at q0 q1'
    by_cases c1 : z = "set"
    · subst c1
      rw [lookT_eq]
      exact iteT ⟨_, rfl, D.aS, _, _, rfl, rfl, ktab_ix D.tS lookT_eq, q1' _ _ (if_pos rfl) D.k1⟩
    rw [lookT_ne c1]
    rw [if_neg c1] at q0 q1'
    by_cases c2 : z = "add"
    · subst c2
      rw [lookT_eq]
      exact iteT ⟨_, rfl, D.aS, _, _, rfl, rfl, ktab_ix D.tS (by rw [lookT_ne c1, lookT_eq]), q1' _ _ (if_pos rfl) D.k2⟩
    rw [lookT_ne c2]
    rw [if_neg c2] at q0 q1'
    by_cases c3 : z = "wait"
    · subst c3
      rw [lookT_eq]
      exact iteT ⟨_, rfl, D.aS, _, _, rfl, rfl, ktab_ix D.tS (by rw [lookT_ne c1, lookT_ne c2, lookT_eq]), q1' _ _ (if_pos rfl) D.k3⟩
    rw [lookT_ne c3]
    rw [if_neg c3] at q0 q1'
    refine iteF ?_
    refine ⟨_, rfl, rfl, _, rfl, ite2 (fun c => ?_) (fun c => ?_)⟩
    · rw [if_pos (keq c)] at q0 q1'
      refine ⟨D.aT, _, rfl, D.tT, _, rfl, some z, rfl, ?_⟩
      rw [eG]
      by_cases c4 : z = "ask"
      · subst c4
        rw [lookT_eq]
        exact q1' _ _ (if_pos rfl) D.k4
      rw [lookT_ne c4]
      rw [if_neg c4] at q0 q1'
      by_cases c5 : z = "answer"
      · subst c5
        rw [lookT_eq]
        exact q1' _ _ (if_pos rfl) D.k5
      rw [lookT_ne c5]
      rw [if_neg c5] at q0 q1'
      exact q0 rfl
    · rw [if_neg (kne c)] at q0 q1'
      refine ⟨D.aC, _, rfl, D.tC, _, rfl, some z, rfl, ?_⟩
      rw [eG]
      by_cases c4 : z = "grow"
      · subst c4
        rw [lookT_eq]
        exact q1' _ _ (if_pos rfl) D.k6
      rw [lookT_ne c4]
      rw [if_neg c4] at q0 q1'
      by_cases c5 : z = "list"
      · subst c5
        rw [lookT_eq]
        exact q1' _ _ (if_pos rfl) D.k7
      rw [lookT_ne c5]
      rw [if_neg c5] at q0 q1'
      exact q0 rfl
end
/-! ### a comprehension over zip of two tuples -/
theorem lc_zipT {K : PySem.W.Frag} {a b : Addr} {xs ys : List V} {g : TG} {tt : TT} {te : TE} {vs : List Nat} {σ : L2.St} {H1 : Hp} {D : Addr} {Qd : Hp → Prop} (hl : xs.length = ys.length) (Pv : Nat → Hp → Prop) (h0 : Pv 0 (upd H1 D (.lst []))) (hq : ∀ i H, Pv i H → SqT K H a xs ∧ SqT K H b ys)
    (hs : ∀ i x y T H, xs[i]? = some x → ys[i]? = some y → Pv i H → H T = none → g (.ref T) (wipe σ vs) (upd H T (.tup [x, y])) fun σ2 H2 => wipe σ2 vs = wipe σ vs ∧ tt σ2 H2 fun b H3 =>
      if b = true then te σ2 H3 fun y H4 => ∃ acc, H4 D = some (.lst acc) ∧ acc.length < sizeLine ∧ Pv (i + 1) (upd H4 D (.lst (acc ++ [y]))) else Pv (i + 1) H3) (hd : ∀ H, Pv xs.length H → Qd H) :
    ∃ W : Nat → Nat → Hp → Prop, (∃ m, W 0 m (upd H1 D (.lst []))) ∧ ∀ i m H, W i m H →
      ((RZ.ItzT K a b).stop i H ∧ Qd H) ∨ ((RZ.ItzT K a b).go i H ∧ ∃ Nx : Hp → Prop, (∀ H', Nx H' → ∃ m', m' < m ∧ W (i + 1) m' H') ∧ ∀ x H', (RZ.ItzT K a b).yld i H x H' → g x (wipe σ vs) H' fun σ2 H2 => wipe σ2 vs = wipe σ vs ∧ tt σ2 H2 fun b H3 =>
        if b = true then te σ2 H3 fun y H4 => ∃ acc, H4 D = some (.lst acc) ∧ acc.length < sizeLine ∧ Nx (upd H4 D (.lst (acc ++ [y]))) else Nx H3) := by
  refine ⟨fun i m H => m = xs.length - i ∧ i ≤ xs.length ∧ Pv i H, ⟨xs.length, by simp, Nat.zero_le _, h0⟩, ?_⟩
  rintro i m H ⟨rfl, hi, p⟩
  obtain ⟨q1, q2⟩ := hq i H p
  by_cases hlt : i < xs.length
  · have hlt2 : i < ys.length := by omega
    refine .inr ⟨⟨xs, ys, xs[i], ys[i], q1, q2, by simp [hlt], by simp [hlt2]⟩, Pv (i + 1), fun H' p' => ⟨xs.length - (i + 1), by omega, rfl, hlt, p'⟩, fun v H' y => ?_⟩
    obtain ⟨T, x, y, rfl, hT, rfl, hx, hy⟩ := y
    exact hs i x y T H (hx xs q1) (hy ys q2) p hT
  · have e : i = xs.length := by omega
    subst e
    exact .inl ⟨⟨xs, ys, q1, q2, .inl (Nat.le_refl _)⟩, hd H p⟩
theorem same_upd {H H' : Hp} {D : Addr} (e : Same H H') (n : H D = none) (o : HO) : Same H (upd H' D o) := fun b u q => by
  rw [upd_ne (ne_of_none q n)]
  exact e _ _ q
def partsB (ps : List PyData) (rs : List Str) : List Bool := (ps.zip rs).map fun p => isPart p.1 p.2
theorem word_inv {d : PyData} {z : Str} (h : wordOf d = some z) : ∃ ps, d = .tuple (.str z :: ps) := by
  match d, h with
  | .tuple (.str x :: ps), h => cases h; exact ⟨ps, rfl⟩
theorem plain_none {d : PyData} {kind : Str} (h : rolesOf (wordOf d) kind = none) : isPlain d kind = false := by
  match d, h with
  | .tuple (.str x :: ps), h =>
    have h' : rolesZ x kind = none := h
    show (match rolesZ x kind with | some rs => decide (ps.length = rs.length) && allParts ps rs | none => false) = false
    rw [h']
  | .tuple [], _ => rfl
  | .tuple (.none :: _), _ => rfl
  | .tuple (.bool _ :: _), _ => rfl
  | .tuple (.int _ :: _), _ => rfl
  | .tuple (.list _ :: _), _ => rfl
  | .tuple (.tuple _ :: _), _ => rfl
  | .tuple (.dict _ :: _), _ => rfl
  | .none, _ => rfl
  | .bool _, _ => rfl
  | .int _, _ => rfl
  | .str _, _ => rfl
  | .list _, _ => rfl
  | .dict _, _ => rfl
theorem plain_some {z kind : Str} {ps : List PyData} {rs : List Str} (h : rolesZ z kind = some rs) : isPlain (.tuple (.str z :: ps)) kind = (decide (ps.length = rs.length) && allParts ps rs) := by
  show (match rolesZ z kind with | some rs => decide (ps.length = rs.length) && allParts ps rs | none => false) = _
  rw [h]
theorem roles_short {z kind : Str} {rs : List Str} (h : rolesZ z kind = some rs) : rs.length ≤ 3 := by
  unfold rolesZ at h
  repeat' split at h
  all_goals first | (cases h; decide) | (cases h)
theorem cut1 (x : V) (xs : List V) : cutV (x :: xs) (some 1) none = xs := by
  have e : HT.sIx (x :: xs).length 0 (some 1) = 1 := by
    have := HT.sIx_nat (x :: xs).length 0 1
    rw [show ((1 : Nat) : Int) = 1 from rfl] at this
    rw [this, List.length_cons]
    omega
  unfold cutV
  rw [e, HT.sIx_none]
  simp
theorem not_whole1 (x : V) (xs : List V) : ¬ (HT.sIx (x :: xs).length 0 (some 1) = 0 ∧ HT.sIx (x :: xs).length (x :: xs).length none = (x :: xs).length) := by
  intro h
  have e : HT.sIx (x :: xs).length 0 (some 1) = 1 := by
    have := HT.sIx_nat (x :: xs).length 0 1
    rw [show ((1 : Nat) : Int) = 1 from rfl] at this
    rw [this, List.length_cons]
    omega
  rw [e] at h
  exact absurd h.1 (by decide)
section
variable {P : Program} {w : World} {K : PySem.W.Frag} {mg : Str → Option Value} {base : Heap}
theorem scPlain : FnScope ["thing", "kind", "roles", "part", "role"] ["thing", "kind"] (defScope sPlain) := ⟨rfl, rfl, rfl, by decide +kernel, rfl, by decide +kernel, by decide +kernel⟩
theorem ok_plain {f : Addr} {fd : FuncData} (F : Fun K "is_plain_statement" "is_plain_statement" sPlain f fd) (T : Gs K mg) (CW : Cal P w K mg base 1 "word_of" ["thing"] (spWord K)) (CR : Cal P w K mg base 1 "roles_of" ["word", "kind"] (spRoles K))
    (CP : Cal P w K mg base 4 "is_part" ["thing", "role"] (spPart K)) : FnOk P w K mg base CX0 5 f fd ["thing", "kind"] (sp2 isPlain K) := by
  refine F.ok scPlain (fun vs H Q E h => ?_) (fun cdv A outer s H vs Q E hr h => ?_)
  · obtain ⟨v, d, kind, rfl, _⟩ := h
    rfl
  obtain ⟨v, d, kind, rfl, hd, ld, q⟩ := h
  have hr1 : Room 1 _ := hr.mono (by decide)
  refine ⟨_, pss_cons (ps_set (i := 2) scPlain.nd rfl (.inl rfl) (pe_call CR.G hr1 rfl CR.m CR.kp CR.b .nil pass0 (pa_cons (pe_call CW.G hr1 rfl CW.m CW.kp CW.b .nil pass0 (pa_cons (pv 0) pa_nil)) (pa_cons (pv 1) pa_nil))))
    (pss_cons (ps_if (PW.pt (pw_or (pt_cmpR op_isN (pv 2) pe_non (nomark _)) (pw_or1 (pt_cmpR op_ne (pe_callB call_len_seq (by rfl) T.len PySem.boot_len (pa_cons (pv 0) pa_nil)) (pe_op op_add pe_int (pe_callB call_len_seq (by rfl) T.len PySem.boot_len (pa_cons (pv 2) pa_nil))) (nomark _)))))
      (pss_one (ps_ret pe_bl)) pss_nil)
    (pss_one (ps_ret (pe_callB (cr_all rfl) (by rfl) T.all (by decide +kernel) (pa_cons
      (pe_lc (own := [("part", 3), ("role", 4)]) (g := gTup K 2 (gCons (gName 3) (gCons (gName 4) gNil))) (tt := tYes) rfl scPlain.nd
        (RZ.pi_zipA (by rfl) T.zip (pa_cons (pe_slice sl_tup (pv 0) (po_some pe_int) po_none) (pa_cons (pv 2) pa_nil)))
        (blkOk_by (N := ["thing", "kind", "roles", "part", "role"]) (sc := defScope sPlain) (by decide +kernel))
        (fun _ _ _ _ _ => pg_tup (by rfl) (pgs_cons (pg_name (i := 3) scPlain.nd rfl (.inl rfl)) (pgs_cons (pg_name (i := 4) scPlain.nd rfl (.inl rfl)) pgs_nil)))
        (fun _ _ _ _ _ => pts_nil)
        (fun _ _ _ _ _ => pe_call CP.G hr rfl CP.m CP.kp CP.b .nil pass0 (pa_cons (pv 3) (pa_cons (pv 4) pa_nil)))) pa_nil))))), ?_⟩
  refine ⟨_, rfl, v, d, rfl, hd, _, rfl, wordOf d, kind, rfl, fun hn => ?_, fun rs a hs ka => ?_⟩
  · rw [plain_none hn] at q
    exact ⟨_, rfl, rfl, _, rfl, ite2 (fun _ => iteT (q H (Same.refl H))) (fun c => absurd (decide_eq_true rfl) c)⟩
  · refine ⟨_, rfl, rfl, _, rfl, ite2 (fun c => nomatch (of_decide_eq_true c)) (fun _ => ?_)⟩
    cases hw : wordOf d with
    | none => rw [hw] at hs; cases hs
    | some z =>
      obtain ⟨ps, rfl⟩ := word_inv hw
      have hs' : rolesZ z kind = some rs := by rw [hw] at hs; exact hs
      have h3 := roles_short hs'
      rw [plain_some hs'] at q
      obtain ⟨a0, xs, rfl, h0, ha⟩ := dp_tup_inv hd
      cases ha with
      | cons hz hp =>
        rename_i x0 xr
        have hl := dpAll_len hp
        refine ⟨_, rfl, a0, _, rfl, .inr h0, _, rfl, a, _, rfl, .inr (ka _), _, _, rfl, rfl, rfl, _, rfl, ?_⟩
        by_cases c : ps.length = rs.length
        · have c' : V.int (((x0 :: xr).length : Nat) : Int) = V.int (1 + ((rs.map V.str).length : Nat)) := by
            rw [List.length_cons, List.length_map, hl, c]
            congr 1
            omega
          refine iteNS c' ?_
          rw [decide_eq_true c, Bool.true_and] at q
          refine ⟨_, rfl, _, rfl, a0, _, rfl, h0, not_whole1 _ _, fun p np => ⟨_, rfl, p, a, _, _, rfl, .inr ⟨SqT.of upd_same, ka _, fun D nD => ?_⟩⟩⟩
          rw [cut1] at nD ⊢
          have g1 : Same H (upd H p (.tup xr)) := same_new np _
          refine lc_zipT (K := K) (a := p) (b := a) (xs := xr) (ys := rs.map V.str) (by rw [List.length_map]; omega)
            (fun i H' => Same (upd H p (.tup xr)) H' ∧ H' D = some (.lst (((partsB ps rs).take i).map V.bl))) ⟨same_upd (Same.refl _) nD _, upd_same⟩
            (fun i H' P => ⟨SqT.of (P.1 _ _ upd_same), ka _⟩) ?_ ?_
          · rintro i x y T H' hx hy ⟨s1, eD⟩ nT
            obtain ⟨di, hdi, hxd⟩ := dpAll_get hp hx
            rw [List.getElem?_map] at hy
            cases hri : rs[i]? with
            | none => rw [hri] at hy; cases hy
            | some ri =>
              rw [hri] at hy
              cases hy
              have sT : Same H' (upd H' T (.tup [x, V.str ri])) := same_new nT _
              have nDT : D ≠ T := ne_of_none eD nT
              refine ⟨T, _, rfl, SqT.of upd_same, rfl, _, _, rfl, _, _, rfl, rfl, rfl, ?_⟩
              refine ⟨_, rfl, _, rfl, x, di, ri, rfl, dp_mono (g1.trans (s1.trans sT)) _ _ hxd, ?_, _, sT _ _ eD, ?_, ?_, ?_⟩
              · exact lay_mem (lay_tup ld) _ (List.mem_cons_of_mem _ (List.mem_of_getElem? hdi))
              · rw [List.length_map, List.length_take, partsB, List.length_map, List.length_zip]
                exact Nat.lt_of_le_of_lt (by omega : _ ≤ 1000) (by decide)
              · exact same_upd (s1.trans sT) nD _
              · rw [upd_same]
                congr 2
                have hz : (ps.zip rs)[i]? = some (di, ri) := by rw [List.getElem?_zip_eq_some]; exact ⟨hdi, hri⟩
                have hm : (partsB ps rs)[i]? = some (isPart di ri) := by rw [partsB, List.getElem?_map, hz]; rfl
                have hil : i < (partsB ps rs).length := (List.getElem?_eq_some_iff.mp hm).1
                rw [← List.take_append_getElem hil, List.map_append]
                congr 1
                rw [(List.getElem?_eq_some_iff.mp hm).2]
                rfl
          · rintro H' ⟨s1, eD⟩
            refine ⟨D, partsB ps rs, rfl, SqL.of ?_, q _ (g1.trans s1)⟩
            rw [eD, List.take_of_length_le]
            rw [partsB, List.length_map, List.length_zip]
            omega
        · rw [decide_eq_false c, Bool.false_and] at q
          refine ite2 (fun _ => q H (Same.refl H)) (fun c2 => absurd ?_ c2)
          rw [Bool.not_eq_true', decide_eq_false_iff_not]
          intro z
          have z' : (((x0 :: xr).length : Nat) : Int) = 1 + ((rs.map V.str).length : Nat) := by injection z
          rw [List.length_cons, List.length_map] at z'
          omega
end
theorem out_none {d : PyData} {kind : Str} (h : wordOf d = none) : isOut d kind = isPlain d kind := by
  match d, h with
  | .tuple [], _ => rfl
  | .tuple (.none :: _), _ => rfl
  | .tuple (.bool _ :: _), _ => rfl
  | .tuple (.int _ :: _), _ => rfl
  | .tuple (.list _ :: _), _ => rfl
  | .tuple (.tuple _ :: _), _ => rfl
  | .tuple (.dict _ :: _), _ => rfl
  | .none, _ => rfl
  | .bool _, _ => rfl
  | .int _, _ => rfl
  | .str _, _ => rfl
  | .list _, _ => rfl
  | .dict _, _ => rfl
theorem if_while : ¬ (("while" : Str) = "if") := by decide +kernel
theorem out_if {kind : Str} {ps : List PyData} : isOut (.tuple (.str "if" :: ps)) kind = cond3 ps := by
  simp [isOut]
theorem out_while {kind : Str} {ps : List PyData} : isOut (.tuple (.str "while" :: ps)) kind = cond2 ps := by
  simp [isOut, if_while]
theorem out_else {z kind : Str} {ps : List PyData} (h1 : ¬ z = "if") (h2 : ¬ z = "while") : isOut (.tuple (.str z :: ps)) kind = isPlain (.tuple (.str z :: ps)) kind := by
  show (if z = "if" then _ else if z = "while" then _ else _) = _
  rw [if_neg h1, if_neg h2]
theorem cut2 (xs : List V) : cutV xs (some 2) none = xs.drop 2 := by
  have e := HT.sIx_nat xs.length 0 2
  rw [show ((2 : Nat) : Int) = 2 from rfl] at e
  unfold cutV
  rw [e, HT.sIx_none]
  by_cases h : 2 ≤ xs.length
  · rw [Nat.min_eq_left h, List.take_of_length_le (by rw [List.length_drop]; omega)]
  · rw [Nat.min_eq_right (by omega), List.drop_of_length_le (Nat.le_refl _), List.drop_of_length_le (by omega)]
    simp
theorem not_whole2 {xs : List V} (h : 0 < xs.length) : ¬ (HT.sIx xs.length 0 (some 2) = 0 ∧ HT.sIx xs.length xs.length none = xs.length) := by
  intro c
  have e := HT.sIx_nat xs.length 0 2
  rw [show ((2 : Nat) : Int) = 2 from rfl] at e
  rw [e] at c
  omega
theorem dpAll_drop {K : PySem.W.Frag} {H : Hp} : ∀ (n : Nat) {xs : List V} {ds : List PyData}, DpAll K H xs ds → DpAll K H (xs.drop n) (ds.drop n)
  | 0, _, _, h => h
  | n + 1, _, _, .nil => .nil
  | n + 1, _, _, .cons _ t => dpAll_drop n t
def spBods (K : PySem.W.Frag) : Sp := fun vs H Q _ => ∃ (v : V) (z : Str) (ps : List PyData) (H0 : Hp), vs = [v] ∧ Same H0 H ∧ Dp K H0 v (.tuple (.str z :: ps)) ∧
  ∀ H' b ys, Same H H' → SqT K H' b ys → DpAll K H0 ys (bodsOf (.tuple (.str z :: ps))) → Q (.ref b) H'
section
variable {P : Program} {w : World} {K : PySem.W.Frag} {mg : Str → Option Value} {base : Heap}
theorem scOut : FnScope ["thing", "kind", "word"] ["thing", "kind"] (defScope sOut) := ⟨rfl, rfl, rfl, by decide +kernel, rfl, by decide +kernel, by decide +kernel⟩
theorem ok_out {f : Addr} {fd : FuncData} (F : Fun K "is_outside_of_statement" "is_outside_of_statement" sOut f fd) (T : Gs K mg) (D : Gd K w mg) (CW : Cal P w K mg base 1 "word_of" ["thing"] (spWord K))
    (CC : Cal P w K mg base 4 "is_condition" ["thing"] (sp1 isCond K)) (CP : Cal P w K mg base 5 "is_plain_statement" ["thing", "kind"] (sp2 isPlain K)) : FnOk P w K mg base CX0 6 f fd ["thing", "kind"] (sp2 isOut K) := by
  refine F.ok scOut (fun vs H Q E h => ?_) (fun cdv A outer s H vs Q E hr h => ?_)
  · obtain ⟨v, d, kind, rfl, _⟩ := h
    rfl
  obtain ⟨v, d, kind, rfl, hd, ld, q⟩ := h
  have hr1 : Room 1 _ := hr.mono (by decide)
  have hr3 : Room 4 _ := hr.mono (by decide)
  refine ⟨_, pss_cons (ps_set (i := 2) scOut.nd rfl (.inl rfl) (pe_call CW.G hr1 rfl CW.m CW.kp CW.b .nil pass0 (pa_cons (pv 0) pa_nil)))
    (pss_cons (ps_if (pt_cmpR op_inK (pv 2) (pe_gref rfl D.mB) (by rfl))
      (pss_one (ps_ret (pe_and (pe_cmpR op_eq (pe_callB call_len_seq (by rfl) T.len PySem.boot_len (pa_cons (pv 0) pa_nil)) (pe_op op_add pe_int (pe_ix ix_kdict (pe_gref rfl D.mB) (pv 2) (fun _ _ => rfl))) (nomark _))
        (pe_one (pe_call CC.G hr3 rfl CC.m CC.kp CC.b .nil pass0 (pa_cons (pe_ix ix_tup (pv 0) pe_int (fun _ _ => rfl)) pa_nil)))))) pss_nil)
    (pss_one (ps_ret (pe_call CP.G hr rfl CP.m CP.kp CP.b .nil pass0 (pa_cons (pv 0) (pa_cons (pv 1) pa_nil)))))), ?_⟩
  refine ⟨_, rfl, v, d, rfl, hd, _, rfl, D.aB, _, wordOf d, rfl, D.tB, rfl, _, rfl, ?_⟩
  cases hw : wordOf d with
  | none =>
    rw [out_none hw] at q
    exact iteF ⟨_, rfl, _, rfl, v, d, kind, rfl, hd, ld, q⟩
  | some z =>
    obtain ⟨ps, rfl⟩ := word_inv hw
    have eG : ∀ tab, getT tab (some z) = lookT tab z := fun _ => rfl
    rw [eG]
    obtain ⟨a0, xs, rfl, h0, ha⟩ := dp_tup_inv hd
    have hl := dpAll_len ha
    have lm := lay_mem (lay_tup ld)
    by_cases c1 : z = "if"
    · subst c1
      rw [lookT_eq]
      refine iteT ⟨_, rfl, a0, _, rfl, .inr h0, _, rfl, D.aB, _, _, rfl, rfl, ktab_ix D.tB lookT_eq, _, _, rfl, rfl, rfl, _, rfl, ?_⟩
      rw [out_if] at q
      by_cases c : xs.length = 4
      · rw [decide_eq_true (show V.int ((xs.length : Nat) : Int) = V.int (2 + 2) by rw [c]; rfl)]
        have c3 : ps.length = 3 := by rw [List.length_cons] at hl; omega
        match ps, c3, q, ha, lm with
        | [c0, b1, b2], _, q, .cons hz (.cons hc _), lm =>
          exact iteT ⟨_, rfl, a0, _, _, _, rfl, rfl, h0, atI_nat (j := 1) rfl, _, c0, rfl, hc, lm _ (by simp), q H (Same.refl H)⟩
      · rw [decide_eq_false (show ¬ V.int ((xs.length : Nat) : Int) = V.int (2 + 2) from fun e => c (by injection e; omega))]
        refine iteF ?_
        have c3 : ¬ ps.length = 3 := by rw [List.length_cons] at hl; omega
        match ps, c3, q with
        | [], _, q => exact q H (Same.refl H)
        | [_], _, q => exact q H (Same.refl H)
        | [_, _], _, q => exact q H (Same.refl H)
        | [_, _, _], c3, _ => exact absurd rfl c3
        | _ :: _ :: _ :: _ :: _, _, q => exact q H (Same.refl H)
    rw [lookT_ne c1]
    by_cases c2 : z = "while"
    · subst c2
      rw [lookT_eq]
      refine iteT ⟨_, rfl, a0, _, rfl, .inr h0, _, rfl, D.aB, _, _, rfl, rfl, ktab_ix D.tB (by rw [lookT_ne c1, lookT_eq]), _, _, rfl, rfl, rfl, _, rfl, ?_⟩
      rw [out_while] at q
      by_cases c : xs.length = 3
      · rw [decide_eq_true (show V.int ((xs.length : Nat) : Int) = V.int (2 + 1) by rw [c]; rfl)]
        have c3 : ps.length = 2 := by rw [List.length_cons] at hl; omega
        match ps, c3, q, ha, lm with
        | [c0, b1], _, q, .cons hz (.cons hc _), lm =>
          exact iteT ⟨_, rfl, a0, _, _, _, rfl, rfl, h0, atI_nat (j := 1) rfl, _, c0, rfl, hc, lm _ (by simp), q H (Same.refl H)⟩
      · rw [decide_eq_false (show ¬ V.int ((xs.length : Nat) : Int) = V.int (2 + 1) from fun e => c (by injection e; omega))]
        refine iteF ?_
        have c3 : ¬ ps.length = 2 := by rw [List.length_cons] at hl; omega
        match ps, c3, q with
        | [], _, q => exact q H (Same.refl H)
        | [_], _, q => exact q H (Same.refl H)
        | [_, _], c3, _ => exact absurd rfl c3
        | _ :: _ :: _ :: _, _, q => exact q H (Same.refl H)
    rw [lookT_ne c2]
    rw [out_else c1 c2] at q
    exact iteF ⟨_, rfl, _, rfl, _, _, kind, rfl, hd, ld, q⟩
theorem scBodies : FnScope ["statement"] ["statement"] (defScope sBodies) := ⟨rfl, rfl, rfl, by decide +kernel, rfl, by decide +kernel, by decide +kernel⟩
theorem ok_bodies {f : Addr} {fd : FuncData} (F : Fun K "bodies_of" "bodies_of" sBodies f fd) (T : Gs K mg) (D : Gd K w mg) : FnOk P w K mg base CX0 1 f fd ["statement"] (spBods K) := by
  refine F.ok scBodies (fun vs H Q E h => ?_) (fun cdv A outer s H vs Q E hr h => ?_)
  · obtain ⟨v, z, ps, H0, rfl, _⟩ := h
    rfl
  obtain ⟨v, z, ps, H0, rfl, s0, hd, q⟩ := h
  obtain ⟨a0, xs, rfl, h0', ha⟩ := dp_tup_inv hd
  have h0 : SqT K H a0 xs := Same.tup s0 h0'
  refine ⟨_, pss_one (ps_ret (pe_ifExp (pt_cmpR op_inK (pe_ix ix_tup (pv 0) pe_int (fun _ _ => rfl)) (pe_gref rfl D.mB) (by rfl)) (pe_slice sl_tup (pv 0) (po_some pe_int) po_none) (pe_tup pa_nil))), ?_⟩
  cases ha with
  | cons hz hp =>
    cases hz
    rename_i xr
    have eB : bodsOf (.tuple (.str z :: ps)) = if z = "if" ∨ z = "while" then ps.drop 1 else [] := rfl
    refine ⟨_, rfl, a0, _, _, _, rfl, rfl, h0, atI_nat (j := 0) rfl, D.aB, _, some z, rfl, D.tB, rfl, _, rfl, ?_⟩
    have eG : ∀ tab, getT tab (some z) = lookT tab z := fun _ => rfl
    rw [eG]
    rw [eB] at q
    by_cases c : z = "if" ∨ z = "while"
    · have e : (lookT [(("if" : Str), V.int 2), ("while", V.int 1)] z).isSome = true := by
        rcases c with rfl | rfl
        · rw [lookT_eq]; rfl
        · rw [lookT_ne if_while, lookT_eq]; rfl
      rw [if_pos c] at q
      refine ite2 (fun _ => ?_) (fun c2 => absurd e c2)
      refine ⟨_, rfl, _, rfl, a0, _, rfl, h0, not_whole2 (by rw [List.length_cons]; omega), fun p np => ?_⟩
      rw [cut2]
      exact q _ p _ (same_new np _) (SqT.of upd_same) (dpAll_drop 1 hp)
    · rw [if_neg c] at q
      have e : (lookT [(("if" : Str), V.int 2), ("while", V.int 1)] z).isSome = false := by
        rw [lookT_ne (fun e => c (.inl e)), lookT_ne (fun e => c (.inr e))]
        rfl
      refine ite2 (fun c2 => ?_) (fun _ => ⟨by show 0 ≤ sizeLine; decide, fun p np => ?_⟩)
      · have c3 : (lookT [(("if" : Str), V.int 2), ("while", V.int 1)] z).isSome = true := c2
        rw [e] at c3
        cases c3
      · exact q _ p _ (same_new np _) (SqT.of upd_same) .nil
end
/-! ### counting statements -/
def addO : Option Nat → Option Nat → Option Nat
  | some a, some b => some (a + b)
  | _, _ => none
def sumO : List (Option Nat) → Option Nat
  | [] => some 0
  | x :: r => addO x (sumO r)
theorem addO_none (x : Option Nat) : addO x none = none := by cases x <;> rfl
theorem none_addO (x : Option Nat) : addO none x = none := by cases x <;> rfl
theorem addO_assoc (x y z : Option Nat) : addO (addO x y) z = addO x (addO y z) := by
  cases x <;> cases y <;> cases z <;> simp [addO, Nat.add_assoc]
theorem addO_comm (x y : Option Nat) : addO x y = addO y x := by
  cases x <;> cases y <;> simp [addO, Nat.add_comm]
theorem zero_addO (x : Option Nat) : addO (some 0) x = x := by cases x <;> simp [addO]
theorem addO_zero (x : Option Nat) : addO x (some 0) = x := by cases x <;> simp [addO]
theorem sumO_append (xs ys : List (Option Nat)) : sumO (xs ++ ys) = addO (sumO xs) (sumO ys) := by
  induction xs with
  | nil => exact (zero_addO _).symm
  | cons x r ih => rw [List.cons_append]; simp only [sumO]; rw [ih, addO_assoc]
def bodyN (kind : Str) : Nat → PyData → Option Nat
  | 0, .tuple [] => some 0
  | 0, _ => none
  | r + 1, .tuple ss => sumO (ss.map fun s => if isOut s kind = true then addO (some 1) (sumO ((bodsOf s).map (bodyN kind r))) else none)
  | _ + 1, _ => none
def stN (kind : Str) (r : Nat) (s : PyData) : Option Nat := if isOut s kind = true then addO (some 1) (sumO ((bodsOf s).map (bodyN kind r))) else none
theorem bodyN_tup (kind : Str) (r : Nat) (ss : List PyData) : bodyN kind (r + 1) (.tuple ss) = sumO (ss.map (stN kind r)) := by
  simp only [bodyN]
  rfl
def okN (many : Nat) : Option Nat → Bool
  | some n => decide (many + n ≤ 24)
  | none => false
def isProg (d : PyData) : Bool := match d with
  | .tuple [.str k, b] => inS (.str k) kinds && okN 0 (bodyN k 4 b)
  | _ => false
def tot (kind : Str) (stk : List (PyData × Nat)) : Option Nat := sumO (stk.map fun p => bodyN kind (5 - p.2) p.1)
def good (kind : Str) (many : Nat) (stk : List (PyData × Nat)) : Bool := okN many (tot kind stk)
theorem tot_append (kind : Str) (a b : List (PyData × Nat)) : tot kind (a ++ b) = addO (tot kind a) (tot kind b) := by
  unfold tot
  rw [List.map_append, sumO_append]
theorem tot_one (kind : Str) (p : PyData × Nat) : tot kind [p] = bodyN kind (5 - p.2) p.1 := by
  unfold tot
  simp only [List.map_cons, List.map_nil, sumO, addO_zero]
theorem okN_none (m : Nat) : okN m none = false := rfl
theorem okN_add (m k : Nat) (x : Option Nat) : okN m (addO (some k) x) = okN (m + k) x := by
  cases x with
  | none => rfl
  | some n => simp only [addO, okN]; congr 1; rw [Nat.add_assoc]
theorem bodyN_no (kind : Str) (r : Nat) {d : PyData} (h : isT d "tuple" = false) : bodyN kind r d = none := by
  cases d <;> first | (cases r <;> rfl) | (simp [isT, tyN] at h)
theorem stN_ge {kind : Str} {r n : Nat} {s : PyData} (h : stN kind r s = some n) : 1 ≤ n := by
  unfold stN at h
  split at h
  · cases e : sumO ((bodsOf s).map (bodyN kind r)) with
    | none => rw [e] at h; cases h
    | some m =>
      rw [e] at h
      have : 1 + m = n := by injection h
      omega
  · cases h
theorem sumO_ge {kind : Str} {r : Nat} : ∀ {ss : List PyData} {n : Nat}, sumO (ss.map (stN kind r)) = some n → ss.length ≤ n
  | [], _, _ => Nat.zero_le _
  | s :: t, n, h => by
    simp only [List.map_cons, sumO] at h
    cases e1 : stN kind r s with
    | none => rw [e1, none_addO] at h; cases h
    | some a =>
      cases e2 : sumO (t.map (stN kind r)) with
      | none => rw [e2, addO_none] at h; cases h
      | some b =>
        rw [e1, e2] at h
        have e : a + b = n := by injection h
        have h1 := stN_ge e1
        have h2 := sumO_ge e2
        rw [List.length_cons]
        omega
/-- too many, or too deep -/
theorem good_over {kind : Str} {many dep : Nat} {st : List (PyData × Nat)} {ss : List PyData} (h : 24 < many + ss.length ∨ (0 < ss.length ∧ 4 < dep)) : good kind many (st ++ [(.tuple ss, dep)]) = false := by
  unfold good
  rw [tot_append, tot_one]
  show okN many (addO (tot kind st) (bodyN kind (5 - dep) (.tuple ss))) = false
  cases e : bodyN kind (5 - dep) (.tuple ss) with
  | none => rw [addO_none]; rfl
  | some n =>
    cases e1 : tot kind st with
    | none => rfl
    | some a =>
      show decide (many + (a + n) ≤ 24) = false
      rw [decide_eq_false_iff_not]
      cases hr : 5 - dep with
      | zero =>
        rw [hr] at e
        cases ss with
        | nil => rcases h with h | ⟨h, _⟩
                 · simp at h; omega
                 · simp at h
        | cons s t => simp [bodyN] at e
      | succ r =>
        rw [hr, bodyN_tup] at e
        have g := sumO_ge e
        rcases h with h | ⟨_, h⟩
        · omega
        · omega
theorem good_no {kind : Str} {many dep : Nat} {st : List (PyData × Nat)} {d : PyData} (h : isT d "tuple" = false) : good kind many (st ++ [(d, dep)]) = false := by
  unfold good
  rw [tot_append, tot_one]
  show okN many (addO (tot kind st) (bodyN kind (5 - dep) d)) = false
  rw [bodyN_no kind _ h, addO_none]
  rfl
theorem sumO_none {kind : Str} {r : Nat} {s : PyData} (h : isOut s kind = false) : ∀ {ss : List PyData}, s ∈ ss → sumO (ss.map (stN kind r)) = none
  | x :: t, m => by
    simp only [List.map_cons, sumO]
    rcases List.mem_cons.mp m with e | m
    · subst e
      have e : stN kind r s = none := by unfold stN; rw [if_neg (by rw [h]; decide)]
      rw [e, none_addO]
    · rw [sumO_none h m, addO_none]
theorem good_bad {kind : Str} {many dep : Nat} {st : List (PyData × Nat)} {ss : List PyData} {s : PyData} (h : isOut s kind = false) (m : s ∈ ss) : good kind many (st ++ [(.tuple ss, dep)]) = false := by
  unfold good
  rw [tot_append, tot_one]
  show okN many (addO (tot kind st) (bodyN kind (5 - dep) (.tuple ss))) = false
  have e : bodyN kind (5 - dep) (.tuple ss) = none := by
    cases 5 - dep with
    | zero =>
      cases ss with
      | nil => cases m
      | cons _ _ => rfl
    | succ r => rw [bodyN_tup, sumO_none h m]
  rw [e, addO_none]
  rfl
def pushes (dep : Nat) (ss : List PyData) : List (PyData × Nat) := ss.flatMap fun s => (bodsOf s).map fun b => (b, dep + 1)
theorem sumO_all {kind : Str} {r dep : Nat} (hr : 5 - (dep + 1) = r) : ∀ {ss : List PyData}, (∀ s ∈ ss, isOut s kind = true) → sumO (ss.map (stN kind r)) = addO (some ss.length) (tot kind (pushes dep ss))
  | [], _ => rfl
  | s :: t, h => by
    have ih := sumO_all hr (ss := t) (fun x m => h x (List.mem_cons_of_mem _ m))
    simp only [List.map_cons, sumO]
    rw [ih]
    have e : stN kind r s = addO (some 1) (sumO ((bodsOf s).map (bodyN kind r))) := by unfold stN; rw [if_pos (h s (by simp))]
    have e2 : tot kind (pushes dep (s :: t)) = addO (sumO ((bodsOf s).map (bodyN kind r))) (tot kind (pushes dep t)) := by
      unfold pushes
      rw [List.flatMap_cons, tot_append]
      congr 1
      unfold tot
      rw [List.map_map]
      congr 2
      funext b
      show bodyN kind (5 - (dep + 1)) b = _
      rw [hr]
    rw [e, e2]
    cases sumO ((bodsOf s).map (bodyN kind r)) with
    | none => simp [addO, none_addO]
    | some a =>
      cases tot kind (pushes dep t) with
      | none => simp [addO]
      | some b => simp only [addO, List.length_cons]; congr 1; omega
theorem good_step {kind : Str} {many dep : Nat} {st : List (PyData × Nat)} {ss : List PyData} (hd : dep ≤ 5) (h4 : 0 < ss.length → dep ≤ 4) (h : ∀ s ∈ ss, isOut s kind = true) :
    good kind (many + ss.length) (st ++ pushes dep ss) = good kind many (st ++ [(.tuple ss, dep)]) := by
  unfold good
  rw [tot_append, tot_append, tot_one]
  show _ = okN many (addO (tot kind st) (bodyN kind (5 - dep) (.tuple ss)))
  have e : bodyN kind (5 - dep) (.tuple ss) = addO (some ss.length) (tot kind (pushes dep ss)) := by
    by_cases c : dep ≤ 4
    · have e1 : 5 - dep = (5 - (dep + 1)) + 1 := by omega
      rw [e1, bodyN_tup, sumO_all (dep := dep) rfl h]
    · have z : ss = [] := by
        cases ss with
        | nil => rfl
        | cons _ _ => exact absurd (h4 (by simp)) c
      subst z
      have e1 : 5 - dep = 0 := by omega
      rw [e1]
      rfl
  rw [e, ← addO_assoc, addO_comm (tot kind st) (some ss.length), addO_assoc, okN_add]
/-! ### a measure -/
mutual
def sz : PyData → Nat
  | .tuple xs => 1 + szAll xs
  | .list xs => 1 + szAll xs
  | .none | .bool _ | .int _ | .str _ | .dict _ => 1
def szAll : List PyData → Nat
  | [] => 0
  | x :: xs => sz x + szAll xs
end
def tsz : List (PyData × Nat) → Nat
  | [] => 0
  | p :: r => sz p.1 + tsz r
theorem tsz_append : ∀ a b : List (PyData × Nat), tsz (a ++ b) = tsz a + tsz b
  | [], b => by simp [tsz]
  | x :: r, b => by rw [List.cons_append]; simp only [tsz]; rw [tsz_append r b]; omega
theorem tsz_map (dep : Nat) : ∀ bs : List PyData, tsz (bs.map fun b => (b, dep)) = szAll bs
  | [] => rfl
  | x :: r => by simp only [List.map_cons, tsz, szAll]; rw [tsz_map dep r]
theorem szAll_drop : ∀ (n : Nat) (bs : List PyData), szAll (bs.drop n) ≤ szAll bs
  | 0, bs => Nat.le_refl _
  | n + 1, [] => Nat.le_refl _
  | n + 1, x :: r => by
    rw [List.drop_succ_cons]
    have := szAll_drop n r
    simp only [szAll]
    omega
theorem bods_sz (s : PyData) : szAll (bodsOf s) ≤ sz s := by
  match s with
  | .tuple (.str z :: ps) =>
    show szAll (if z = "if" ∨ z = "while" then ps.drop 1 else []) ≤ _
    simp only [sz, szAll]
    split
    · have := szAll_drop 1 ps
      omega
    · simp [szAll]
  | .tuple [] => exact Nat.zero_le _
  | .tuple (.none :: _) => exact Nat.zero_le _
  | .tuple (.bool _ :: _) => exact Nat.zero_le _
  | .tuple (.int _ :: _) => exact Nat.zero_le _
  | .tuple (.list _ :: _) => exact Nat.zero_le _
  | .tuple (.tuple _ :: _) => exact Nat.zero_le _
  | .tuple (.dict _ :: _) => exact Nat.zero_le _
  | .none => exact Nat.zero_le _
  | .bool _ => exact Nat.zero_le _
  | .int _ => exact Nat.zero_le _
  | .str _ => exact Nat.zero_le _
  | .list _ => exact Nat.zero_le _
  | .dict _ => exact Nat.zero_le _
theorem pushes_sz (dep : Nat) : ∀ ss : List PyData, tsz (pushes dep ss) ≤ szAll ss
  | [] => Nat.le_refl _
  | s :: t => by
    have e : pushes dep (s :: t) = (bodsOf s).map (fun b => (b, dep + 1)) ++ pushes dep t := by unfold pushes; rw [List.flatMap_cons]
    rw [e, tsz_append, tsz_map]
    have h1 := bods_sz s
    have h2 := pushes_sz dep t
    simp only [szAll]
    omega
theorem out_word {s : PyData} {kind : Str} (h : isOut s kind = true) : ∃ z ps, s = .tuple (.str z :: ps) := by
  cases hw : wordOf s with
  | some z => obtain ⟨ps, e⟩ := word_inv hw; exact ⟨z, ps, e⟩
  | none =>
    rw [out_none hw] at h
    have : rolesOf (wordOf s) kind = none := by rw [hw]; rfl
    rw [plain_none this] at h
    cases h
theorem bods_short {s : PyData} {kind : Str} (h : isOut s kind = true) : (bodsOf s).length ≤ 2 := by
  obtain ⟨z, ps, rfl⟩ := out_word h
  show (if z = "if" ∨ z = "while" then ps.drop 1 else []).length ≤ 2
  split
  · rename_i c
    rcases c with rfl | rfl
    · rw [out_if] at h
      match ps, h with
      | [_, _, _], _ => simp
    · rw [out_while] at h
      match ps, h with
      | [_, _], _ => simp
  · decide
theorem pushes_len {kind : Str} (dep : Nat) : ∀ {ss : List PyData}, (∀ s ∈ ss, isOut s kind = true) → (pushes dep ss).length ≤ 2 * ss.length
  | [], _ => Nat.le_refl _
  | s :: t, h => by
    have e : pushes dep (s :: t) = (bodsOf s).map (fun b => (b, dep + 1)) ++ pushes dep t := by unfold pushes; rw [List.flatMap_cons]
    rw [e, List.length_append, List.length_map, List.length_cons]
    have h1 := bods_short (h s (by simp))
    have h2 := pushes_len dep (ss := t) (fun x m => h x (List.mem_cons_of_mem _ m))
    omega
theorem pushes_snoc (dep : Nat) (a : List PyData) (s : PyData) : pushes dep (a ++ [s]) = pushes dep a ++ (bodsOf s).map fun b => (b, dep + 1) := by
  unfold pushes
  rw [List.flatMap_append, List.flatMap_cons, List.flatMap_nil, List.append_nil]
theorem while_m {c : TT} {tb : TS} {D : Ends} {σ : L2.St} {H : Hp} (Pv : Nat → L2.St → Hp → Prop) {m0 : Nat} (h0 : Pv m0 σ H)
    (hs : ∀ m σ H, Pv m σ H → c σ H fun b H1 => if b = true then tb { D with nx := fun σ' H' => ∃ m', m' < m ∧ Pv m' σ' H', ct := fun σ' H' => ∃ m', m' < m ∧ Pv m' σ' H', bk := D.nx } σ H1 else D.nx σ H1)
    (mono : ∀ σ H Q Q', (∀ b H1, Q b H1 → Q' b H1) → c σ H Q → c σ H Q') : tWhile c tb D σ H := by
  refine ⟨Pv, ⟨_, h0⟩, ?_⟩
  intro m σ H p
  refine mono σ H _ _ (fun b H1 q => ?_) (hs m σ H p)
  cases b with
  | true => exact ⟨_, fun σ' H' p' => p', q⟩
  | false => exact q
theorem seq_while {c : TT} {tb u : TS} {D : Ends} {σ : L2.St} {H : Hp} (h : tWhile c tb { D with nx := u D } σ H) : tSeq (tWhile c tb) u D σ H := h
/-- the things on the pile: pairs (body, depth) -/
def Itm (K : PySem.W.Frag) (H0 H : Hp) (x : V) (p : PyData × Nat) : Prop := ∃ (t : Addr) (v : V), x = .ref t ∧ H t = some (.tup [v, .int (p.2 : Nat)]) ∧ Dp K H0 v p.1 ∧ Lay p.1 ∧ p.2 ≤ 5
inductive Items (K : PySem.W.Frag) (H0 H : Hp) : List V → List (PyData × Nat) → Prop
  | nil : Items K H0 H [] []
  | cons {x : V} {xs : List V} {p : PyData × Nat} {ps : List (PyData × Nat)} : Itm K H0 H x p → Items K H0 H xs ps → Items K H0 H (x :: xs) (p :: ps)
section
variable {K : PySem.W.Frag} {H0 H H' : Hp}
theorem Items.len : ∀ {xs : List V} {ps : List (PyData × Nat)}, Items K H0 H xs ps → xs.length = ps.length
  | _, _, .nil => rfl
  | _, _, .cons _ t => by rw [List.length_cons, List.length_cons, t.len]
theorem Items.append : ∀ {xs ys : List V} {ps qs : List (PyData × Nat)}, Items K H0 H xs ps → Items K H0 H ys qs → Items K H0 H (xs ++ ys) (ps ++ qs)
  | _, _, _, _, .nil, h => h
  | _, _, _, _, .cons i t, h => .cons i (t.append h)
theorem Items.snoc : ∀ (xs : List V) {y : V} {ps : List (PyData × Nat)}, Items K H0 H (xs ++ [y]) ps → ∃ st p, ps = st ++ [p] ∧ Items K H0 H xs st ∧ Itm K H0 H y p
  | [], _, _, .cons i .nil => ⟨[], _, rfl, .nil, i⟩
  | x :: r, _, _, .cons i t => by
    obtain ⟨st, p, e, h1, h2⟩ := Items.snoc r t
    exact ⟨_ :: st, p, by rw [e]; rfl, .cons i h1, h2⟩
theorem Itm.keep {l : Addr} {x : V} {p : PyData × Nat} (i : Itm K H0 H x p) (e : ∀ b o, b ≠ l → H b = some o → H' b = some o) {ys : List V} (hl : H l = some (.lst ys)) : Itm K H0 H' x p := by
  obtain ⟨t, v, e1, e2, r⟩ := i
  exact ⟨t, v, e1, e t _ (ne_of e2 hl (by intro z; cases z)) e2, r⟩
theorem Items.keep {l : Addr} {ys : List V} (e : ∀ b o, b ≠ l → H b = some o → H' b = some o) (hl : H l = some (.lst ys)) : ∀ {xs : List V} {ps : List (PyData × Nat)}, Items K H0 H xs ps → Items K H0 H' xs ps
  | _, _, .nil => .nil
  | _, _, .cons i t => .cons (i.keep e hl) (t.keep e hl)
theorem Items.mono (e : Same H H') : ∀ {xs : List V} {ps : List (PyData × Nat)}, Items K H0 H xs ps → Items K H0 H' xs ps
  | _, _, .nil => .nil
  | _, _, .cons ⟨t, v, e1, e2, r⟩ s => .cons ⟨t, v, e1, e _ _ e2, r⟩ (s.mono e)
end
def spProg (K : PySem.W.Frag) : Sp := fun vs H Q _ => ∃ (v : V) (d : PyData), vs = [v] ∧ Dp K H v d ∧ Lay d ∧ ∀ H', Same H H' → Q (.bl (isProg d)) H'
section
variable {P : Program} {w : World} {K : PySem.W.Frag} {mg : Str → Option Value} {base : Heap}
theorem scProg : FnScope ["thing", "kind", "many", "pending", "body", "depth", "statement", "inner"] ["thing"] (defScope sProg) := ⟨rfl, rfl, rfl, by decide +kernel, rfl, by decide +kernel, by decide +kernel⟩
theorem dp_two {H : Hp} {xs : List V} {ds : List PyData} (h : DpAll K H xs ds) (l : ds.length = 2) : ∃ x0 x1 d0 d1, xs = [x0, x1] ∧ ds = [d0, d1] ∧ Dp K H x0 d0 ∧ Dp K H x1 d1 := by
  match ds, l, h with
  | [d0, d1], _, .cons (v := x0) h0 (.cons (v := x1) h1 .nil) => exact ⟨x0, x1, d0, d1, rfl, rfl, h0, h1⟩
theorem take_snoc {α : Type} {l : List α} {j : Nat} {x : α} (h : l[j]? = some x) : l.take (j + 1) = l.take j ++ [x] := by
  rw [List.take_add_one, h]
  rfl
theorem bods_lay {s : PyData} (h : Lay s) : ∀ b ∈ bodsOf s, Lay b := by
  intro b m
  match s, h, m with
  | .tuple (.str z :: ps), h, m =>
    have m' : b ∈ (if z = "if" ∨ z = "while" then ps.drop 1 else []) := m
    split at m'
    · exact lay_mem (lay_tup h) b (List.mem_cons_of_mem _ (List.mem_of_mem_drop m'))
    · cases m'
theorem loop_ok {D : Ends} {H H1 : Hp} {k : Str} {n dep : Nat} {a0 pl ab : Addr} {xs ys : List V} {ss : List PyData} {st : List (PyData × Nat)} {s6 : Option V} (sH1 : Same H H1) (nplH : H pl = none) (hp1 : H1 pl = some (.lst ys)) (it1 : Items K H H1 ys st)
    (hab : SqT K H ab xs) (hss : DpAll K H xs ss) (lay : PyData.canLayAll0 ss = true) (hdep : dep ≤ 5) (h4 : 0 < ss.length → dep ≤ 4) (h24 : ss.length ≤ 24) (hst : st.length ≤ 100)
    (hF : ∀ s, s ∈ ss → isOut s k = false → ∀ H', Same H H' → D.rt (.bl false) H')
    (hN : ∀ H' ys' s6, (∀ s ∈ ss, isOut s k = true) → Same H H' → H' pl = some (.lst ys') → Items K H H' ys' (st ++ pushes dep ss) →
      D.nx [some (.ref a0), some (.str k), some (.int (n : Nat)), some (.ref pl), some (.ref ab), some (.int (dep : Nat)), s6, none] H') :
    tFor (iTup K (tVar 4)) (gName 6) (tSeq (tIfS (tNot (tB (tCall (sp2 isOut K) [] E0 (tCons (tVar 6) (tCons (tVar 1) tNil))))) (tRet (tC (.bl false))) tNext)
      (tDrop (tBM K "list" rExtend (tVar 3) (tCons (tLc (iTup K (tCall (spBods K) [] E0 (tCons (tVar 6) tNil))) (gName 7) tYes (tTup (tCons (tVar 7) (tCons (tOp (rI0 fun i j => V.int (i + j)) (tVar 5) (tC (V.int 1))) tNil))) [7]) tNil))))
      D [some (.ref a0), some (.str k), some (.int (n : Nat)), some (.ref pl), some (.ref ab), some (.int (dep : Nat)), s6, none] H1 := by
  have hl := dpAll_len hss
  refine ⟨_, rfl, ab, rfl, ⟨_, Same.tup sH1 hab⟩, for_tup (K := K) (a := ab) (xs := xs)
    (fun i σ H' => ∃ (ys' : List V) (s6 : Option V), σ = [some (.ref a0), some (.str k), some (.int (n : Nat)), some (.ref pl), some (.ref ab), some (.int (dep : Nat)), s6, none] ∧ (∀ s ∈ ss.take i, isOut s k = true) ∧ Same H H' ∧ H' pl = some (.lst ys') ∧
      Items K H H' ys' (st ++ pushes dep (ss.take i))) ⟨ys, s6, rfl, by simp, sH1, hp1, by simpa [pushes] using it1⟩ (fun i σ H' _ ⟨_, _, _, _, s1, _⟩ => Same.tup s1 hab) ?_ ?_⟩
  · rintro i x σ H' hx ⟨ys', s6', rfl, hall, s1, hp', it'⟩
    obtain ⟨si, hsi, hxd⟩ := dpAll_get hss hx
    have hil : i < ss.length := (List.getElem?_eq_some_iff.mp hsi).1
    have msi : si ∈ ss := List.mem_of_getElem? hsi
    have lsi : Lay si := lay_mem lay _ msi
    refine ⟨_, rfl, _, rfl, x, si, k, rfl, dp_mono s1 _ _ hxd, lsi, fun H2 s2 => ⟨_, rfl, ?_⟩⟩
    cases ho : isOut si k with
    | false => exact iteT (hF si msi ho H2 (s1.trans s2))
    | true =>
      refine iteF ?_
      obtain ⟨z, ps, rfl⟩ := out_word ho
      have h4' := h4 (by omega)
      refine ⟨_, rfl, .inl ⟨rfl, _, SqL.of (s2 _ _ hp')⟩, _, rfl, x, z, ps, H, rfl, s1.trans s2, hxd, fun H3 b zs s3 hb hz => ⟨b, rfl, ⟨_, hb⟩, fun Dn nD => ?_⟩⟩
      refine lc_tup (K := K) (a := b) (xs := zs) (fun j H4 => Same H3 H4 ∧ ∃ acc, H4 Dn = some (.lst acc) ∧ Items K H H4 acc (((bodsOf (.tuple (.str z :: ps))).take j).map fun b => (b, dep + 1)))
        ⟨same_upd (Same.refl _) nD _, [], upd_same, .nil⟩ (fun j H4 _ P => Same.tup P.1 hb) ?_ ?_
      · rintro j y H4 hy ⟨s4, acc, eD, itA⟩
        obtain ⟨bj, hbj, hyd⟩ := dpAll_get hz hy
        refine ⟨rfl, ?_⟩
        refine ⟨_, rfl, _, rfl, _, _, rfl, rfl, (by show 2 ≤ sizeLine; decide), fun T nT => ⟨acc, ?_, ?_, ?_, _, upd_same, ?_⟩⟩
        · rw [upd_ne (ne_of_none eD nT)]
          exact eD
        · have e := itA.len
          rw [List.length_map, List.length_take] at e
          have e2 := bods_short ho
          exact Nat.lt_of_le_of_lt (by omega : _ ≤ 1000) (by decide)
        · exact same_upd (s4.trans (same_new nT _)) nD _
        · rw [take_snoc hbj, List.map_append]
          have nTD : T ≠ Dn := fun e => by rw [← e, nT] at eD; cases eD
          have g : ∀ b o, b ≠ Dn → (upd H4 T (.tup [y, .int ((dep : Int) + 1)])) b = some o → (upd (upd H4 T (.tup [y, .int ((dep : Int) + 1)])) Dn (.lst (acc ++ [.ref T]))) b = some o := fun b o n e => by rw [upd_ne n]; exact e
          have eD' : (upd H4 T (.tup [y, .int ((dep : Int) + 1)])) Dn = some (.lst acc) := by rw [upd_ne (ne_of_none eD nT)]; exact eD
          refine ((itA.mono (same_new nT _)).keep g eD').append (.cons ⟨T, y, rfl, ?_, hyd, bods_lay lsi _ (List.mem_of_getElem? hbj), by show dep + 1 ≤ 5; omega⟩ .nil)
          rw [upd_ne nTD, upd_same]
          rfl
      · rintro H4 ⟨s4, acc, eD, itA⟩
        have hzl := dpAll_len hz
        rw [hzl, List.take_length] at itA
        have s24 := s2.trans (s3.trans s4)
        have hp4 := s24 _ _ hp'
        have nDp : Dn ≠ pl := fun e => by
          have := (s2.trans s3) _ _ hp'
          rw [← e, nD] at this
          cases this
        refine ⟨pl, Dn, ys', acc, rfl, rfl, hp4, eD, ?_, ys' ++ acc, _, rfl, ?_, same_upd (s1.trans s24) nplH _, upd_same, ?_⟩
        · have e1 := it'.len
          have e2 := itA.len
          have e3 := bods_short ho
          have e4 := pushes_len (kind := k) dep hall
          rw [List.length_append] at e1
          rw [List.length_map] at e2
          rw [List.length_take] at e4
          exact Nat.le_of_lt (Nat.lt_of_le_of_lt (by omega : _ ≤ 1000) (by decide))
        · intro s ms
          rw [take_snoc hsi] at ms
          rcases List.mem_append.mp ms with m | m
          · exact hall s m
          · rw [List.mem_singleton.mp m]
            exact ho
        · rw [take_snoc hsi, pushes_snoc, ← List.append_assoc]
          have g : ∀ b o, b ≠ pl → H4 b = some o → (upd H4 pl (.lst (ys' ++ acc))) b = some o := fun b o n e => by rw [upd_ne n]; exact e
          exact ((it'.mono s24).keep g hp4).append (itA.keep g hp4)
  · rintro σ H' ⟨ys', s6', rfl, hall, s1, hp', it'⟩
    rw [hl, List.take_length] at hall it'
    exact hN H' ys' s6' hall s1 hp' it'
theorem prog_no {d : PyData} (h : ∀ k b, d ≠ .tuple [.str k, b]) : isProg d = false := by
  unfold isProg
  split
  · rename_i k b; exact absurd rfl (h k b)
  · rfl
theorem ok_prog {f : Addr} {fd : FuncData} (F : Fun K "is_program" "is_program" sProg f fd) (T : Gs K mg) (CO : Cal P w K mg base 6 "is_outside_of_statement" ["thing", "kind"] (sp2 isOut K))
    (CB : Cal P w K mg base 1 "bodies_of" ["statement"] (spBods K)) : FnOk P w K mg base CX0 7 f fd ["thing"] (spProg K) := by
  refine F.ok scProg (fun vs H Q E h => ?_) (fun cdv A outer s H vs Q E hr h => ?_)
  · obtain ⟨v, d, rfl, _⟩ := h
    rfl
  obtain ⟨v, d, rfl, hd, ld, q⟩ := h
  have hr1 : Room 1 _ := hr.mono (by decide)
  refine ⟨_, pss_cons (ps_if (PW.pt (pw_or (pt_not (pt_val (pe_callB call_isi (by rfl) T.isi (by decide +kernel) (pa_cons (pv 0) (pa_cons (pe_bltn (v := .ty "tuple") (by rfl) T.tup (by decide +kernel) rfl) pa_nil)))))
      (pw_or (pt_cmpR op_ne (pe_callB call_len_seq (by rfl) T.len PySem.boot_len (pa_cons (pv 0) pa_nil)) pe_int (nomark _))
      (pw_or1 (pt_cmpR (op_notInS (hu65 hr)) (pe_ix ix_tup (pv 0) pe_int (fun _ _ => rfl)) (pe_gref rfl T.mK) (by rfl)))))) (pss_one (ps_ret pe_bl)) pss_nil)
    (pss_cons (ps_set (i := 1) scProg.nd rfl (.inl rfl) (pe_ix ix_tup (pv 0) pe_int (fun _ _ => rfl)))
    (pss_cons (ps_set (i := 2) scProg.nd rfl (.inl rfl) pe_int)
    (pss_cons (ps_set (i := 3) scProg.nd rfl (.inl rfl) (pe_lst (pa_cons (pe_tup (pa_cons (pe_ix ix_tup (pv 0) pe_int (fun _ _ => rfl)) (pa_cons pe_int pa_nil))) pa_nil)))
    (pss_cons (ps_while PassesOwn.never (pt_truth (pv 3) (by intro _; rfl))
      (pss_cons (ps_asg (pe_bm0 PySem.F.plainAttrs_list PySem.F.slot_list_pop PySem.F.type_list_pop mt_pop (pv 3)) (pg_tup (by rfl) (pgs_cons (pg_name (i := 4) scProg.nd rfl (.inl rfl)) (pgs_cons (pg_name (i := 5) scProg.nd rfl (.inr rfl)) pgs_nil))))
      (pss_cons (ps_if (pt_not (pt_val (pe_callB call_isi (by rfl) T.isi (by decide +kernel) (pa_cons (pv 4) (pa_cons (pe_bltn (v := .ty "tuple") (by rfl) T.tup (by decide +kernel) rfl) pa_nil))))) (pss_one (ps_ret pe_bl)) pss_nil)
      (pss_cons (ps_aug (i := 2) scProg.nd rfl (.inl rfl) (pe_callB call_len_seq (by rfl) T.len PySem.boot_len (pa_cons (pv 4) pa_nil)) ip_add)
      (pss_cons (ps_if (PW.pt (pw_or (pt_cmpR op_gt (pv 2) (pe_gint rfl T.mS) (nomark _)) (pw_or1 (PW.pt (pw_and (pt_cmpR op_gt (pe_callB call_len_seq (by rfl) T.len PySem.boot_len (pa_cons (pv 4) pa_nil)) pe_int (nomark _)) (pw_and1 (pt_cmpR op_gt (pv 5) (pe_gint rfl T.mD) (nomark _)))))))) (pss_one (ps_ret pe_bl)) pss_nil)
      (pss_one (ps_for PassesOwn.never rfl (pi_tup (pv 4)) (pg_name (i := 6) scProg.nd rfl (.inl rfl))
        (pss_cons (ps_if (pt_not (pt_val (pe_call CO.G hr rfl CO.m CO.kp CO.b .nil pass0 (pa_cons (pv 6) (pa_cons (pv 1) pa_nil))))) (pss_one (ps_ret pe_bl)) pss_nil)
        (pss_one (ps_expr (pe_bm PySem.F.plainAttrs_list PySem.F.slot_list_extend PySem.F.type_list_extend mt_extend (pv 3) (pa_cons
          (pe_lc (own := [("inner", 7)]) (g := gName 7) (tt := tYes) rfl scProg.nd (pi_tup (pe_call CB.G hr1 rfl CB.m CB.kp CB.b .nil pass0 (pa_cons (pv 6) pa_nil)))
            (blkOk_by (N := ["thing", "kind", "many", "pending", "body", "depth", "statement", "inner"]) (sc := defScope sProg) (by decide +kernel))
            (fun _ _ _ _ _ => pg_name (i := 7) scProg.nd rfl (.inl rfl)) (fun _ _ _ _ _ => pts_nil)
            (fun _ _ _ _ _ => pe_tup (pa_cons (pv 7) (pa_cons (pe_op op_add (pv 5) pe_int) pa_nil)))) pa_nil))))))))))))
    (pss_one (ps_ret pe_bl)))))), ?_⟩
  refine ⟨_, rfl, v, .ty "tuple", _, _, _, rfl, .ty _, dp_ty hd, kit_isT d (by simp) (dp_nd hd), _, rfl, ?_⟩
  cases ht : isT d "tuple" with
  | false =>
    refine iteT (iteT ?_)
    rw [prog_no (fun k b e => by rw [e] at ht; cases ht)] at q
    exact q H (Same.refl H)
  | true =>
    obtain ⟨ds, rfl⟩ := isT_tup ht
    obtain ⟨a0, xs, rfl, h0, ha⟩ := dp_tup_inv hd
    have hl := dpAll_len ha
    refine iteF ⟨_, rfl, a0, xs, rfl, .inr h0, rfl, _, rfl, ?_⟩
    by_cases h2 : ds.length = 2
    · refine iteNS (show V.int ((xs.length : Nat) : Int) = V.int 2 by rw [hl, h2]; rfl) ?_
      obtain ⟨x0, x1, d0, d1, rfl, rfl, hx0, hx1⟩ := dp_two ha h2
      have lm := lay_mem (lay_tup ld)
      refine ⟨_, rfl, a0, _, _, _, rfl, rfl, h0, atI_nat (j := 0) rfl, d0, kinds, T.aK, rfl, hx0, lm _ (by simp), T.kK _, by decide +kernel, _, rfl, ?_⟩
      cases hk : inS d0 kinds with
      | false =>
        refine iteT ?_
        have e : isProg (.tuple [d0, d1]) = false := by
          cases d0 with
          | str k => show (inS (.str k) kinds && _) = false; rw [hk]; rfl
          | _ => rfl
        rw [e] at q
        exact q H (Same.refl H)
      | true =>
        refine iteF ?_
        obtain ⟨k, rfl⟩ : ∃ k, d0 = .str k := by
          cases d0 with
          | str k => exact ⟨k, rfl⟩
          | _ => cases hk
        cases hx0
        refine ⟨_, rfl, a0, _, _, _, rfl, rfl, h0, atI_nat (j := 0) rfl, ?_⟩
        refine ⟨_, rfl, a0, _, _, _, rfl, rfl, h0, atI_nat (j := 1) rfl, (by show 2 ≤ sizeLine; decide), fun t nt => ⟨(by show 1 ≤ sizeLine; decide), fun pl npl => ?_⟩⟩
        have eP : good k 0 [(d1, 1)] = isProg (.tuple [.str k, d1]) := by
          show okN 0 (tot k [(d1, 1)]) = (inS (.str k) kinds && okN 0 (bodyN k 4 d1))
          rw [tot_one, hk]
          rfl
        have npt : pl ≠ t := fun e => by rw [e, upd_same] at npl; cases npl
        have nplH : H pl = none := by rw [upd_ne npt] at npl; exact npl
        have sH0 : Same H (upd (upd H t (.tup [x1, .int 1])) pl (.lst [.ref t])) := same_upd (same_new nt _) nplH _
        dsimp only [gName]
        refine seq_while ?_
        refine while_m (fun m σ H' => ∃ (many : Nat) (stk : List (PyData × Nat)) (ys : List V) (s4 s5 s6 : Option V), σ = [some (.ref a0), some (.str k), some (.int (many : Nat)), some (.ref pl), s4, s5, s6, none] ∧
            Same H H' ∧ H' pl = some (.lst ys) ∧ Items K H H' ys stk ∧ good k many stk = isProg (.tuple [.str k, d1]) ∧ many ≤ 24 ∧ stk.length ≤ 1 + 2 * many ∧ m = tsz stk)
          (m0 := tsz [(d1, 1)]) ⟨0, [(d1, 1)], [.ref t], none, none, none, rfl, sH0, upd_same, .cons ⟨t, x1, rfl, by rw [upd_ne npt.symm, upd_same]; rfl, hx1, lm _ (by simp), (by show 1 ≤ 5; decide)⟩ .nil, eP, by decide, Nat.le_refl 1, rfl⟩ ?_ ?_
        · rintro m σ H' ⟨many, stk, ys, s4, s5, s6, rfl, sH, hp, it, hg, hm, hlen, rfl⟩
          refine ⟨_, rfl, !ys.isEmpty, .inl ⟨ys, SqL.of hp, rfl⟩, ?_⟩
          rcases List.eq_nil_or_concat ys with e0 | ⟨ys', y, e0⟩
          · subst e0
            refine iteF ?_
            cases it
            have e : isProg (.tuple [.str k, d1]) = true := by
              rw [← hg]
              exact decide_eq_true hm
            rw [e] at q
            exact q H' sH
          rw [List.concat_eq_append] at e0
          subst e0
          obtain ⟨st, p, e0, it', ⟨t', v, e1, ht', hdv, hlay, h5⟩⟩ := Items.snoc ys' it
          subst e0 e1
          obtain ⟨b, dep⟩ := p
          refine ite2 (fun _ => ?_) (fun c => absurd (by simp) c)
          have ntp : t' ≠ pl := ne_of ht' hp (by intro z; cases z)
          refine ⟨_, rfl, .inl ⟨rfl, _, SqL.of hp⟩, pl, _, V.ref t', rfl, rfl, hp, (by simp), ?_⟩
          rw [show (ys' ++ [V.ref t']).dropLast = ys' by simp]
          refine ⟨t', _, rfl, SqT.of (by rw [upd_ne ntp]; exact ht'), rfl, _, _, rfl, _, _, rfl, rfl, ?_⟩
          have sH1 : Same H (upd H' pl (.lst ys')) := same_upd sH nplH _
          have kp1 : ∀ b o, b ≠ pl → H' b = some o → (upd H' pl (.lst ys')) b = some o := fun b o n e => by rw [upd_ne n]; exact e
          have it1 := it'.keep kp1 hp
          have hp1 : (upd H' pl (.lst ys')) pl = some (.lst ys') := upd_same
          have hdv1 : Dp K (upd H' pl (.lst ys')) v b := dp_mono sH1 _ _ hdv
          generalize upd H' pl (.lst ys') = H1 at sH1 it1 hp1 hdv1 ⊢
          refine ⟨_, rfl, v, .ty "tuple", _, _, _, rfl, .ty _, dp_ty hdv1, kit_isT b (by simp) (dp_nd hdv), _, rfl, ?_⟩
          cases hb : isT b "tuple" with
          | false =>
            refine iteT ?_
            rw [good_no hb] at hg
            rw [← hg] at q
            exact q H1 sH1
          | true =>
            refine iteF ?_
            obtain ⟨ss, rfl⟩ := isT_tup hb
            obtain ⟨ab, xs, rfl, hab, hss⟩ := dp_tup_inv hdv
            have hab1 : SqT K H1 ab xs := Same.tup sH1 hab
            have hl := dpAll_len hss
            refine ⟨_, rfl, _, rfl, ab, xs, rfl, .inr hab1, _, _, rfl, rfl, ?_⟩
            have lss : PyData.canLayAll0 ss = true := lay_tup hlay
            have hst : st.length ≤ 100 := by rw [List.length_append] at hlen; simp at hlen; omega
            have hover : (24 < many + ss.length ∨ (0 < ss.length ∧ 4 < dep)) → ∀ H', Same H H' → Q (.bl false) H' := fun c H2 s2 => by
              have e := good_over (kind := k) (st := st) c
              have e2 : isProg (.tuple [.str k, d1]) = false := hg.symm.trans e
              rw [e2] at q
              exact q H2 s2
            have hF : ∀ s, s ∈ ss → isOut s k = false → ∀ H', Same H H' → Q (.bl false) H' := fun s ms ho H2 s2 => by
              have e2 : isProg (.tuple [.str k, d1]) = false := hg.symm.trans (good_bad ho ms)
              rw [e2] at q
              exact q H2 s2
            have hN : many + ss.length ≤ 24 → (0 < ss.length → dep ≤ 4) → ∀ (H2 : Hp) (ys2 : List V) (s6 : Option V), (∀ s ∈ ss, isOut s k = true) → Same H H2 → H2 pl = some (.lst ys2) → Items K H H2 ys2 (st ++ pushes dep ss) →
                ∃ m', m' < tsz (st ++ [(.tuple ss, dep)]) ∧ ∃ (many' : Nat) (stk : List (PyData × Nat)) (ys : List V) (s4 s5 s6' : Option V), ([some (.ref a0), some (.str k), some (.int ((many + xs.length : Nat) : Int)), some (.ref pl), some (.ref ab), some (.int (dep : Nat)), s6, none] : L2.St) = [some (.ref a0), some (.str k), some (.int (many' : Nat)), some (.ref pl), s4, s5, s6', none] ∧
                Same H H2 ∧ H2 pl = some (.lst ys) ∧ Items K H H2 ys stk ∧ good k many' stk = isProg (.tuple [.str k, d1]) ∧ many' ≤ 24 ∧ stk.length ≤ 1 + 2 * many' ∧ m' = tsz stk := by
              intro h24 h4 H2 ys2 s6 hall s2 hp2 it2
              refine ⟨tsz (st ++ pushes dep ss), ?_, many + xs.length, st ++ pushes dep ss, ys2, _, _, _, rfl, s2, hp2, it2, ?_, by omega, ?_, rfl⟩
              · rw [tsz_append, tsz_append]
                have e1 := pushes_sz dep ss
                have e2 : tsz [(PyData.tuple ss, dep)] = 1 + szAll ss := by simp [tsz, sz]
                omega
              · rw [hl, good_step h5 h4 hall]
                exact hg
              · have e1 := pushes_len (kind := k) dep hall
                rw [List.length_append] at hlen ⊢
                simp only [List.length_cons, List.length_nil] at hlen
                omega
            refine ⟨_, rfl, _, _, rfl, rfl, _, rfl, ?_⟩
            by_cases c24 : (24 : Int) < (many : Nat) + (xs.length : Nat)
            · rw [decide_eq_true c24]
              exact iteT (iteT (hover (.inl (by omega)) H1 sH1))
            rw [decide_eq_false c24]
            refine iteF ⟨_, rfl, ab, xs, rfl, .inr hab1, _, _, rfl, rfl, _, rfl, ?_⟩
            by_cases c0 : (0 : Int) < (xs.length : Nat)
            · rw [decide_eq_true c0]
              refine iteT ⟨_, rfl, _, _, rfl, rfl, _, rfl, ?_⟩
              by_cases c4 : (4 : Int) < (dep : Nat)
              · rw [decide_eq_true (show (4 : Int) < (((PyData.tuple ss, dep).snd : Nat) : Int) from c4)]
                exact iteT (hover (.inr ⟨by omega, by omega⟩) H1 sH1)
              · rw [decide_eq_false (show ¬ (4 : Int) < (((PyData.tuple ss, dep).snd : Nat) : Int) from c4)]
                refine iteF ?_
                exact loop_ok (n := many + xs.length) (dep := dep) (s6 := s6) sH1 nplH hp1 it1 hab hss lss h5 (fun _ => by omega) (by omega) hst hF (hN (by omega) (fun _ => by omega))
            · rw [decide_eq_false c0]
              refine iteF (iteF ?_)
              exact loop_ok (n := many + xs.length) (dep := dep) (s6 := s6) sH1 nplH hp1 it1 hab hss lss h5 (fun h => by omega) (by omega) hst hF (hN (by omega) (fun h => by omega))
        · rintro σ H' Q1 Q2 h ⟨v, e, k, t, q⟩
          exact ⟨v, e, k, t, h _ _ q⟩
    · refine ite2 (fun _ => iteT ?_) (fun c => absurd ?_ c)
      · rw [prog_no (fun k b e => h2 (by injection e with e; rw [e]; rfl))] at q
        exact q H (Same.refl H)
      · rw [Bool.not_eq_true', decide_eq_false_iff_not]
        intro z
        have z' : ((xs.length : Nat) : Int) = 2 := by injection z
        omega
end
abbrev sBag : Stmt := top 43
abbrev sDraw : Stmt := top 44
abbrev sLarge : Stmt := top 45
abbrev sSteps : Stmt := top 46
abbrev sTermL : Stmt := top 47
abbrev sCondL : Stmt := top 48
abbrev sSimple : Stmt := top 49
abbrev sKind : Stmt := top 53
/-! ### the bag: a list of two numbers, drawn from -/
def Bag (H : Hp) (b : Addr) : Prop := ∃ c s : Int, H b = some (.lst [.int c, .int s]) ∧ 0 ≤ c ∧ 0 ≤ s ∧ s < 2147483648
/-- all but b stays -/
def Fr (b : Addr) (H H' : Hp) : Prop := ∀ a o, a ≠ b → H a = some o → H' a = some o
def hide (b : Addr) (H : Hp) : Hp := fun a => if a = b then none else H a
theorem Fr.refl (b : Addr) (H : Hp) : Fr b H H := fun _ _ _ h => h
theorem Fr.trans {b : Addr} {H H1 H2 : Hp} (x : Fr b H H1) (y : Fr b H1 H2) : Fr b H H2 := fun a o n h => y a o n (x a o n h)
theorem Fr.of {b : Addr} {H H' : Hp} (x : Same H H') : Fr b H H' := fun a o _ h => x a o h
theorem Fr.upd {b : Addr} {H : Hp} (o : HO) : Fr b H (upd H b o) := fun a u n h => by rw [upd_ne n]; exact h
theorem hide_same (b : Addr) (H : Hp) : Same (hide b H) H := fun a o h => by
  unfold hide at h
  split at h
  · cases h
  · exact h
theorem hide_mono {b : Addr} {H H' : Hp} (x : Fr b H H') : Same (hide b H) (hide b H') := fun a o h => by
  unfold hide at h ⊢
  split at h
  · cases h
  · rename_i n
    rw [if_neg n]
    exact x a o n h
theorem hide_get {b a : Addr} {H : Hp} {o : HO} (n : a ≠ b) (h : H a = some o) : hide b H a = some o := by
  unfold hide
  rw [if_neg n]
  exact h
theorem Bag.ne {H : Hp} {b p : Addr} (h : Bag H b) (n : H p = none) : b ≠ p := by
  obtain ⟨c, s, e, _⟩ := h
  exact ne_of_none e n
theorem Bag.keep {H H' : Hp} {b : Addr} (h : Bag H b) (s : Same H H') : Bag H' b := by
  obtain ⟨c, t, e, r⟩ := h
  exact ⟨c, t, s _ _ e, r⟩
/-- a datum, apart from the bag -/
abbrev Da (K : PySem.W.Frag) (b : Addr) (H : Hp) (v : V) (d : PyData) : Prop := Dp K (hide b H) v d
theorem Da.fr {K : PySem.W.Frag} {b : Addr} {H H' : Hp} {v : V} {d : PyData} (h : Da K b H v d) (x : Fr b H H') : Da K b H' v d := dp_mono (hide_mono x) _ _ h
theorem Da.dp {K : PySem.W.Frag} {b : Addr} {H : Hp} {v : V} {d : PyData} (h : Da K b H v d) : Dp K H v d := dp_mono (hide_same b H) _ _ h
theorem da_tup {K : PySem.W.Frag} {b p : Addr} {H : Hp} {xs : List V} {ds : List PyData} (n : p ≠ b) (h : H p = some (.tup xs)) (a : DpAll K (hide b H) xs ds) : Da K b H (.ref p) (.tuple ds) := .tup (SqT.of (hide_get n h)) a
def spBag (K : PySem.W.Frag) : Sp := fun vs H Q _ => ∃ (a : Addr) (ns : List Int) (k : Nat), vs = [.ref a, .int (k : Nat)] ∧ SqL K H a (ns.map V.int) ∧ ns.length ≤ 63 ∧ k < 64 ∧ ∀ H' p, Same H H' → H p = none → Bag H' p → Q (.ref p) H'
def spDraw : Sp := fun vs H Q _ => ∃ (b : Addr) (m : Int), vs = [.ref b, .int m] ∧ Bag H b ∧ 0 < m ∧ m < 1073741824 ∧ ∀ H' r, Fr b H H' → Bag H' b → 0 ≤ r → r < m → Q (.int r) H'
def spLarge : Sp := fun vs H Q _ => ∃ (b : Addr) (m : Int), vs = [.ref b, .int m] ∧ Bag H b ∧ 0 < m ∧ ∀ H' r, Fr b H H' → Bag H' b → 0 ≤ r → r < m → Q (.int r) H'
section
variable {P : Program} {w : World} {K : PySem.W.Frag} {mg : Str → Option Value} {base : Heap}
theorem scDraw : FnScope ["_law_bag_here", "_law_many", "_law_found"] ["_law_bag_here", "_law_many"] (defScope sDraw) := ⟨rfl, rfl, rfl, by decide +kernel, rfl, by decide +kernel, by decide +kernel⟩
theorem ok_draw {f : Addr} {fd : FuncData} (F : Fun K "_law_draw" "_law_draw" sDraw f fd) : FnOk P w K mg base CX0 1 f fd ["_law_bag_here", "_law_many"] spDraw := by
  refine F.ok scDraw (fun vs H Q E h => ?_) (fun cdv A outer s H vs Q E hr h => ?_)
  · obtain ⟨b, m, rfl, _⟩ := h
    rfl
  obtain ⟨b, m, rfl, ⟨c, t, hb, c0, t0, t1⟩, m0, m1, q⟩ := h
  refine ⟨_, pss_cons (ps_if (pt_cmpR op_gt (pe_ix ix_list (pv 0) pe_int (fun _ _ => rfl)) pe_int (nomark _))
      (pss_cons (ps_set (i := 2) scDraw.nd rfl (.inl rfl) (pe_op op_mod (pe_ix ix_list (pv 0) pe_int (fun _ _ => rfl)) (pv 1)))
      (pss_cons (ps_asg (pe_op op_fdiv (pe_ix ix_list (pv 0) pe_int (fun _ _ => rfl)) (pv 1)) (pg_sub (pv 0) pe_int set_list)) (pss_one (ps_ret (pv 2))))) pss_nil)
    (pss_cons (ps_asg (pe_op op_mod (pe_op op_mul (pe_ix ix_list (pv 0) pe_int (fun _ _ => rfl)) pe_int) pe_int) (pg_sub (pv 0) pe_int set_list))
    (pss_one (ps_ret (pe_op op_mod (pe_op op_fdiv (pe_op op_mod (pe_op op_mul (pe_ix ix_list (pv 0) pe_int (fun _ _ => rfl)) (pe_op op_add (pe_op op_fdiv (pe_ix ix_list (pv 0) pe_int (fun _ _ => rfl)) pe_int) pe_int)) pe_int) pe_int) (pv 1))))), ?_⟩
  refine ⟨_, rfl, b, _, _, _, rfl, rfl, SqL.of hb, atI_nat (j := 0) rfl, _, _, rfl, rfl, _, rfl, ?_⟩
  by_cases h : (0 : Int) < c
  · rw [decide_eq_true h]
    refine iteT ⟨_, rfl, b, _, _, _, rfl, rfl, SqL.of hb, atI_nat (j := 0) rfl, _, rfl, _, _, rfl, rfl, m0, ?_⟩
    refine ⟨_, rfl, b, _, _, _, rfl, rfl, SqL.of hb, atI_nat (j := 0) rfl, _, rfl, _, _, rfl, rfl, ⟨m0, m1⟩, _, rfl, b, _, _, 0, rfl, rfl, hb, rfl, ?_⟩
    refine ⟨_, rfl, q _ _ (Fr.upd _) ⟨c / m, t, upd_same, Int.ediv_nonneg c0 (by omega), t0, t1⟩ (Int.emod_nonneg _ (by omega)) (Int.emod_lt_of_pos _ m0)⟩
  · rw [decide_eq_false h]
    refine iteF ⟨_, rfl, b, _, _, _, rfl, rfl, SqL.of hb, atI_nat (j := 1) rfl, _, _, rfl, rfl, .inr (by decide), _, _, rfl, rfl, (by show (0 : Int) < 2147483647; decide), _, rfl, b, _, _, 1, rfl, rfl, hb, rfl, ?_⟩
    have n0 : 0 ≤ t * 48271 % 2147483647 := Int.emod_nonneg _ (by decide)
    have n1 : t * 48271 % 2147483647 < 2147483647 := Int.emod_lt_of_pos _ (by decide)
    have hb1 : (upd H b (.lst ([V.int c, V.int t].set 1 (V.int (t * 48271 % 2147483647))))) b = some (.lst [.int c, .int (t * 48271 % 2147483647)]) := upd_same
    have fr : Fr b H (upd H b (.lst ([V.int c, V.int t].set 1 (V.int (t * 48271 % 2147483647))))) := Fr.upd _
    generalize upd H b (.lst ([V.int c, V.int t].set 1 (V.int (t * 48271 % 2147483647)))) = H1 at hb1 fr ⊢
    generalize t * 48271 % 2147483647 = u at n0 n1 hb1 ⊢
    refine ⟨_, rfl, b, _, _, _, rfl, rfl, SqL.of hb1, atI_nat (j := 1) rfl, _, rfl, b, _, _, _, rfl, rfl, SqL.of hb1, atI_nat (j := 1) rfl, _, _, rfl, rfl, ⟨by decide, by decide⟩, _, _, rfl, rfl, _, _, rfl, rfl, .inl ⟨by omega, by omega⟩,
      _, _, rfl, rfl, (by show (0 : Int) < 2147483629; decide), _, _, rfl, rfl, ⟨by decide, by decide⟩, _, rfl, _, _, rfl, rfl, m0, ?_⟩
    exact q _ _ fr ⟨c, u, hb1, c0, n0, by omega⟩ (Int.emod_nonneg _ (by omega)) (Int.emod_lt_of_pos _ m0)
end
theorem seq_setC {v : V} {i : Nat} {u : TS} {D : Ends} {σ : L2.St} {H : Hp} (h : u D (σ.set i (some v)) H) : tSeq (tAsg (tC v) (gName i)) u D σ H := h
theorem at2 {x y : V} {r : Int} (h0 : 0 ≤ r) (h1 : r < 2) : ∃ v, atI [x, y] r = some v ∧ (v = x ∨ v = y) := by
  have : r = 0 ∨ r = 1 := by omega
  rcases this with rfl | rfl
  · exact ⟨x, rfl, .inl rfl⟩
  · exact ⟨y, rfl, .inr rfl⟩
theorem at3 {x y z : V} {r : Int} (h0 : 0 ≤ r) (h1 : r < 3) : ∃ v, atI [x, y, z] r = some v ∧ (v = x ∨ v = y ∨ v = z) := by
  have : r = 0 ∨ r = 1 ∨ r = 2 := by omega
  rcases this with rfl | rfl | rfl
  · exact ⟨x, rfl, .inl rfl⟩
  · exact ⟨y, rfl, .inr (.inl rfl)⟩
  · exact ⟨z, rfl, .inr (.inr rfl)⟩
theorem ab_at {r : Int} (h0 : 0 ≤ r) (h1 : r < 2) : ∃ c, atI ("ab" : Str).cps.toList r = some c ∧ inS (.str ⟨#[c]⟩) vars = true ∧ PyData.strOk ⟨#[c]⟩ = true := by
  have : r = 0 ∨ r = 1 := by omega
  rcases this with rfl | rfl
  · exact ⟨97, by decide +kernel, by decide +kernel, by decide +kernel⟩
  · exact ⟨98, by decide +kernel, by decide +kernel, by decide +kernel⟩
theorem asks_at {r : Int} (h0 : 0 ≤ r) (h1 : r < 3) : ∃ c, atI ("+-=" : Str).cps.toList r = some c ∧ inS (.str ⟨#[c]⟩) asks = true ∧ PyData.strOk ⟨#[c]⟩ = true := by
  have : r = 0 ∨ r = 1 ∨ r = 2 := by omega
  rcases this with rfl | rfl | rfl
  · exact ⟨43, by decide +kernel, by decide +kernel, by decide +kernel⟩
  · exact ⟨45, by decide +kernel, by decide +kernel, by decide +kernel⟩
  · exact ⟨61, by decide +kernel, by decide +kernel, by decide +kernel⟩
def spSteps : Sp := fun vs H Q _ => ∃ (b : Addr), vs = [.ref b] ∧ Bag H b ∧ ∀ H' r, Fr b H H' → Bag H' b → 1 ≤ r → r ≤ longest → Q (.int r) H'
def spTermL (K : PySem.W.Frag) : Sp := fun vs H Q _ => ∃ (b : Addr), vs = [.ref b] ∧ Bag H b ∧ ∀ H' v d, Fr b H H' → Bag H' b → (∀ H0, Dp K H0 v d) → isTerm d = true → Lay d → Q v H'
def spCondL (K : PySem.W.Frag) : Sp := fun vs H Q _ => ∃ (b : Addr), vs = [.ref b] ∧ Bag H b ∧ ∀ H' v d, Fr b H H' → Bag H' b → Da K b H' v d → isCond d = true → Lay d → Q v H'
def spKind : Sp := fun vs H Q _ => ∃ (b : Addr), vs = [.ref b] ∧ Bag H b ∧ ∀ H' (k : Str), Fr b H H' → Bag H' b → (k = "teller" ∨ k = "collector") → Q (.str k) H'
section
variable {P : Program} {w : World} {K : PySem.W.Frag} {mg : Str → Option Value} {base : Heap}
theorem scLarge : FnScope ["_law_bag_here", "_law_many", "_law_number", "_law_room"] ["_law_bag_here", "_law_many"] (defScope sLarge) := ⟨rfl, rfl, rfl, by decide +kernel, rfl, by decide +kernel, by decide +kernel⟩
theorem ok_large {f : Addr} {fd : FuncData} (F : Fun K "_law_large" "_law_large" sLarge f fd) (CD : Cal P w K mg base 1 "_law_draw" ["_law_bag_here", "_law_many"] spDraw) : FnOk P w K mg base CX0 2 f fd ["_law_bag_here", "_law_many"] spLarge := by
  refine F.ok scLarge (fun vs H Q E h => ?_) (fun cdv A outer s H vs Q E hr h => ?_)
  · obtain ⟨b, m, rfl, _⟩ := h
    rfl
  obtain ⟨b, m, rfl, hb, m0, q⟩ := h
  refine ⟨_, pss_cons (ps_set (i := 2) scLarge.nd rfl (.inl rfl) pe_int) (pss_cons (ps_set (i := 3) scLarge.nd rfl (.inl rfl) pe_int)
    (pss_cons (ps_while PassesOwn.never (pt_cmpR op_lt (pv 3) (pv 1) (nomark _))
      (pss_cons (ps_set (i := 2) scLarge.nd rfl (.inl rfl) (pe_op op_add (pe_op op_mul (pv 2) pe_int) (pe_call CD.G hr rfl CD.m CD.kp CD.b .nil pass0 (pa_cons (pv 0) (pa_cons pe_int pa_nil)))))
      (pss_one (ps_set (i := 3) scLarge.nd rfl (.inl rfl) (pe_op op_mul (pv 3) pe_int)))))
    (pss_one (ps_ret (pe_op op_mod (pv 2) (pv 1)))))), ?_⟩
  refine seq_setC (seq_setC (seq_while ?_))
  refine while_m (fun n σ H' => ∃ x r : Int, σ = [some (.ref b), some (.int m), some (.int x), some (.int r)] ∧ Fr b H H' ∧ Bag H' b ∧ 1 ≤ r ∧ n = (m - r).toNat) (m0 := (m - 1).toNat) ⟨0, 1, rfl, Fr.refl _ _, hb, by decide, rfl⟩ ?_ ?_
  · rintro n σ H' ⟨x, r, rfl, f1, hb1, r1, rfl⟩
    refine ⟨_, rfl, _, rfl, _, _, rfl, rfl, _, rfl, ?_⟩
    by_cases c : r < m
    · rw [decide_eq_true c]
      refine iteT ⟨_, rfl, _, _, rfl, rfl, .inr (by decide), _, rfl, b, 1048576, rfl, hb1, by decide, by decide, fun H2 u f2 hb2 _ _ => ⟨_, _, rfl, rfl, _, rfl, _, _, rfl, rfl, .inr (by decide), ?_⟩⟩
      exact ⟨(m - r * 1048576).toNat, by omega, _, _, rfl, f1.trans f2, hb2, by omega, rfl⟩
    · rw [decide_eq_false c]
      exact iteF ⟨_, rfl, _, rfl, _, _, rfl, rfl, m0, q _ _ f1 hb1 (Int.emod_nonneg _ (by omega)) (Int.emod_lt_of_pos _ m0)⟩
  · rintro σ H' Q1 Q2 h ⟨v, e, v2, e2, i, j, e3, e4, k, e5, q⟩
    exact ⟨v, e, v2, e2, i, j, e3, e4, k, e5, h _ _ q⟩
theorem scSteps : FnScope ["_law_bag_here"] ["_law_bag_here"] (defScope sSteps) := ⟨rfl, rfl, rfl, by decide +kernel, rfl, by decide +kernel, by decide +kernel⟩
theorem pow30 : (10 : Int) ^ (30 : Int).toNat = longest := by decide +kernel
theorem ok_steps {f : Addr} {fd : FuncData} (F : Fun K "_law_steps" "_law_steps" sSteps f fd) (CD : Cal P w K mg base 1 "_law_draw" ["_law_bag_here", "_law_many"] spDraw) (CL : Cal P w K mg base 2 "_law_large" ["_law_bag_here", "_law_many"] spLarge) :
    FnOk P w K mg base CX0 3 f fd ["_law_bag_here"] spSteps := by
  refine F.ok scSteps (fun vs H Q E h => ?_) (fun cdv A outer s H vs Q E hr h => ?_)
  · obtain ⟨b, rfl, _⟩ := h
    rfl
  obtain ⟨b, rfl, hb, q⟩ := h
  have hr1 : Room 1 _ := hr.mono (by decide)
  refine ⟨_, pss_one (ps_ret (pe_ix ix_list (pe_lst (pa_cons (pe_op op_add pe_int (pe_call CD.G hr1 rfl CD.m CD.kp CD.b .nil pass0 (pa_cons (pv 0) (pa_cons pe_int pa_nil))))
      (pa_cons (pe_op op_add pe_int (pe_call CL.G hr rfl CL.m CL.kp CL.b .nil pass0 (pa_cons (pv 0) (pa_cons (pe_op op_pow pe_int pe_int) pa_nil))))
      (pa_cons (pe_op op_sub (pe_op op_pow pe_int pe_int) (pe_call CD.G hr1 rfl CD.m CD.kp CD.b .nil pass0 (pa_cons (pv 0) (pa_cons pe_int pa_nil)))) pa_nil))))
    (pe_op op_fdiv (pe_call CD.G hr1 rfl CD.m CD.kp CD.b .nil pass0 (pa_cons (pv 0) (pa_cons pe_int pa_nil))) pe_int) (fun _ _ => rfl))), ?_⟩
  refine ⟨_, rfl, b, 4, rfl, hb, by decide, by decide, fun H1 r1 f1 b1 r10 r11 => ⟨_, _, rfl, rfl, _, rfl, _, _, rfl, rfl, ⟨by decide, by decide, by decide⟩, b, _, rfl, b1, (by rw [pow30]; decide), fun H2 r2 f2 b2 r20 r21 => ⟨_, _, rfl, rfl, _, _, rfl, rfl, ⟨by decide, by decide, by decide⟩, _, rfl, b, 2, rfl, b2, by decide, by decide,
    fun H3 r3 f3 b3 r30 r31 => ⟨_, _, rfl, rfl, (by show 3 ≤ sizeLine; decide), fun p np => ⟨_, rfl, b, 8, rfl, b3.keep (same_new np _), by decide, by decide, fun H4 r4 f4 b4 r40 r41 => ⟨_, _, rfl, rfl, ⟨by decide, by decide⟩, ?_⟩⟩⟩⟩⟩⟩
  have np4 : p ≠ b := (b3.ne np).symm
  have hp4 := f4 p _ np4 upd_same
  obtain ⟨v, hv, hc⟩ := at3 (x := V.int (1 + r1)) (y := V.int (1 + r2)) (z := V.int (10 ^ (30 : Int).toNat - r3)) (r := r4 / 3) (by omega) (by omega)
  refine ⟨p, _, _, _, rfl, rfl, SqL.of hp4, hv, ?_⟩
  have fr : Fr b H H4 := f1.trans (f2.trans (f3.trans ((Fr.of (same_new np _)).trans f4)))
  rw [pow30] at hc r21
  have e30 : longest = 1000000000000000000000000000000 := rfl
  rcases hc with rfl | rfl | rfl
  · exact q _ _ fr b4 (by omega) (by omega)
  · exact q _ _ fr b4 (by omega) (by omega)
  · exact q _ _ fr b4 (by omega) (by omega)
end
structure G2 (mg : Str → Option Value) : Prop where
  abs : mg "abs" = none
  max : mg "max" = none
  min : mg "min" = none
  range : mg "range" = none
theorem one_or (b : Bool) : -(2 ^ 64) < (if b = true then (1 : Int) else 0) ∧ (if b = true then (1 : Int) else 0) < 2 ^ 64 := by cases b <;> decide
theorem part_variable (d : PyData) : isPart d "variable" = inS d vars := by unfold isPart; rw [if_pos rfl]
theorem part_term (d : PyData) : isPart d "term" = isTerm d := by unfold isPart; rw [if_neg (by decide +kernel), if_pos rfl]
theorem part_sign (d : PyData) : isPart d "sign" = inS d asks := by unfold isPart; rw [if_neg (by decide +kernel), if_neg (by decide +kernel), if_pos rfl]
theorem part_steps (d : PyData) : isPart d "steps" = intIn d 1 longest := by unfold isPart; rw [if_neg (by decide +kernel), if_neg (by decide +kernel), if_neg (by decide +kernel), if_pos rfl]
theorem part_answer (d : PyData) : isPart d "answer" = intIn d 0 1 := by unfold isPart; rw [if_neg (by decide +kernel), if_neg (by decide +kernel), if_neg (by decide +kernel), if_neg (by decide +kernel), if_pos rfl]
theorem part_value (d : PyData) : isPart d "value" = intIn d 0 15 := by unfold isPart; rw [if_neg (by decide +kernel), if_neg (by decide +kernel), if_neg (by decide +kernel), if_neg (by decide +kernel), if_neg (by decide +kernel)]
theorem roles_set (k : Str) : rolesZ "set" k = some (["variable", "value"] : List Str) := by unfold rolesZ; rw [if_pos rfl]
theorem roles_add (k : Str) : rolesZ "add" k = some (["variable", "term"] : List Str) := by unfold rolesZ; rw [if_neg (by decide +kernel), if_pos rfl]
theorem roles_wait (k : Str) : rolesZ "wait" k = some (["steps"] : List Str) := by unfold rolesZ; rw [if_neg (by decide +kernel), if_neg (by decide +kernel), if_pos rfl]
theorem roles_ask : rolesZ "ask" "teller" = some (["sign", "term", "variable"] : List Str) := by decide +kernel
theorem roles_answer : rolesZ "answer" "teller" = some (["answer"] : List Str) := by decide +kernel
theorem roles_grow : rolesZ "grow" "collector" = some (["term"] : List Str) := by decide +kernel
theorem roles_list : rolesZ "list" "collector" = some (["term"] : List Str) := by decide +kernel
theorem plain1 {z k r : Str} {p : PyData} (h : rolesZ z k = some [r]) (e : isPart p r = true) : isPlain (.tuple [.str z, p]) k = true := by
  rw [plain_some h]; simp [allParts, e]
theorem plain2 {z k r1 r2 : Str} {p1 p2 : PyData} (h : rolesZ z k = some [r1, r2]) (e1 : isPart p1 r1 = true) (e2 : isPart p2 r2 = true) : isPlain (.tuple [.str z, p1, p2]) k = true := by
  rw [plain_some h]; simp [allParts, e1, e2]
theorem plain3 {z k r1 r2 r3 : Str} {p1 p2 p3 : PyData} (h : rolesZ z k = some [r1, r2, r3]) (e1 : isPart p1 r1 = true) (e2 : isPart p2 r2 = true) (e3 : isPart p3 r3 = true) : isPlain (.tuple [.str z, p1, p2, p3]) k = true := by
  rw [plain_some h]; simp [allParts, e1, e2, e3]
theorem lay_str {z : Str} (h : PyData.strOk z = true) : Lay (.str z) := by unfold Lay; simp only [PyData.canLay0]; exact h
theorem lay_int (i : Int) : Lay (.int i) := by unfold Lay; simp only [PyData.canLay0]
theorem lay_nil : Lay (.tuple []) := by unfold Lay; simp only [PyData.canLay0, PyData.canLayAll0]
theorem lay_all : ∀ {ds : List PyData}, (∀ d ∈ ds, Lay d) → PyData.canLayAll0 ds = true
  | [], _ => by simp only [PyData.canLayAll0]
  | d :: r, h => by
    simp only [PyData.canLayAll0, Bool.and_eq_true]
    exact ⟨h d (by simp), lay_all fun x m => h x (List.mem_cons_of_mem _ m)⟩
theorem lay_tuple {ds : List PyData} (h : ∀ d ∈ ds, Lay d) : Lay (.tuple ds) := by unfold Lay; simp only [PyData.canLay0]; exact lay_all h
theorem lay2 {a b : PyData} (ha : Lay a) (hb : Lay b) : Lay (.tuple [a, b]) := lay_tuple (by intro d m; simp at m; rcases m with rfl | rfl <;> assumption)
theorem lay3 {a b c : PyData} (ha : Lay a) (hb : Lay b) (hc : Lay c) : Lay (.tuple [a, b, c]) := lay_tuple (by intro d m; simp at m; rcases m with rfl | rfl | rfl <;> assumption)
theorem lay4 {a b c e : PyData} (ha : Lay a) (hb : Lay b) (hc : Lay c) (he : Lay e) : Lay (.tuple [a, b, c, e]) := lay_tuple (by intro d m; simp at m; rcases m with rfl | rfl | rfl | rfl <;> assumption)
def spSimple (K : PySem.W.Frag) : Sp := fun vs H Q _ => ∃ (b : Addr) (k : Str), vs = [.ref b, .str k] ∧ Bag H b ∧ (k = "teller" ∨ k = "collector") ∧ ∀ H' v d, Fr b H H' → Bag H' b → Da K b H' v d → isPlain d k = true → Lay d → Q v H'
section
variable {P : Program} {w : World} {K : PySem.W.Frag} {mg : Str → Option Value} {base : Heap}
theorem scBag : FnScope ["_law_script", "_law_k", "_law_cell", "_law_state"] ["_law_script", "_law_k"] (defScope sBag) := ⟨rfl, rfl, rfl, by decide +kernel, rfl, by decide +kernel, by decide +kernel⟩
theorem ok_bag {f : Addr} {fd : FuncData} (F : Fun K "_law_bag" "_law_bag" sBag f fd) (T : Gs K mg) (T2 : G2 mg) : FnOk P w K mg base CX0 1 f fd ["_law_script", "_law_k"] (spBag K) := by
  refine F.ok scBag (fun vs H Q E h => ?_) (fun cdv A outer s H vs Q E hr h => ?_)
  · obtain ⟨a, ns, k, rfl, _⟩ := h
    rfl
  obtain ⟨a, ns, k, rfl, hS, h63, hk, q⟩ := h
  refine ⟨_, pss_cons (ps_set (i := 2) scBag.nd rfl (.inl rfl) pe_int)
    (pss_cons (ps_if (pt_cmpR op_lt (pv 1) (pe_callB call_len_seq (by rfl) T.len PySem.boot_len (pa_cons (pv 0) pa_nil)) (nomark _)) (pss_one (ps_set (i := 2) scBag.nd rfl (.inl rfl) (pe_callB call_abs (by rfl) T2.abs (by decide +kernel) (pa_cons (pe_ix ix_list (pv 0) (pv 1) (fun _ _ => rfl)) pa_nil)))) pss_nil)
    (pss_cons (ps_set (i := 3) scBag.nd rfl (.inl rfl) (pe_op op_add pe_int (pe_op op_mod (pe_op op_add (pe_op op_add (pe_op op_add (pe_op op_mul (pe_op op_mod (pv 2) pe_int) pe_int) (pe_op op_mul (pe_op op_mul pe_int (pv 1)) (pv 1))) (pe_op op_mul pe_int (pv 1))) pe_int) pe_int)))
    (pss_one (ps_ret (pe_lst (pa_cons (pe_op op_mul (pv 2) (pe_callTy call_int1 (by rfl) T.int (by decide +kernel) (pa_cons (pe_cmpR op_ge (pv 2) (pe_op op_pow pe_int pe_int) (nomark _)) pa_nil))) (pa_cons (pv 3) pa_nil))))))), ?_⟩
  have hl : (ns.map V.int).length = ns.length := List.length_map _
  refine ⟨_, rfl, _, rfl, a, _, rfl, .inl hS, _, _, rfl, rfl, _, rfl, ?_⟩
  have fin : ∀ (cell : Int) (z : Int), 0 ≤ cell → ∀ p, H p = none → Q (.ref p) (upd H p (.lst [.int (cell * (if decide ((10 : Int) ^ (18 : Int).toNat ≤ cell) then 1 else 0)), .int (1 + z % 2147483646)])) := fun cell z h0 p np => by
    refine q _ p (same_new np _) np ⟨_, _, upd_same, ?_, ?_, ?_⟩
    · split
      · omega
      · omega
    · have := Int.emod_nonneg z (show (2147483646 : Int) ≠ 0 by decide); omega
    · have := Int.emod_lt_of_pos z (show (0 : Int) < 2147483646 by decide); omega
  refine ite2 (fun c => ?_) (fun c => ?_)
  · have c' := of_decide_eq_true c
    rw [hl] at c'
    have hkn : k < ns.length := by omega
    have hat : atI (ns.map V.int) ((k : Nat) : Int) = some (.int ns[k]) := atI_nat (by rw [List.getElem?_map, List.getElem?_eq_getElem hkn]; rfl)
    have h0 : 0 ≤ (if ns[k] < 0 then -ns[k] else ns[k]) := by split <;> omega
    refine ⟨_, rfl, _, rfl, a, _, _, _, rfl, rfl, hS, hat, _, rfl, ?_⟩
    exact ⟨_, rfl, _, _, rfl, rfl, (by show (0 : Int) < 2147483647; decide), _, _, rfl, rfl, .inr (by decide), _, rfl, _, _, rfl, rfl, .inl (by decide), _, rfl, _, _, rfl, rfl, .inr ⟨by omega, by omega⟩, _, _, rfl, rfl, _, rfl, _, _, rfl, rfl, .inl (by decide), _, _, rfl, rfl, _, _, rfl, rfl, _, _, rfl, rfl, (by show (0 : Int) < 2147483646; decide), _, _, rfl, rfl,
      _, rfl, _, rfl, _, _, rfl, rfl, ⟨by decide, by decide, by decide⟩, _, _, rfl, rfl, .inr ⟨_, rfl, _, _, rfl, rfl, Or.inr (one_or _), _, rfl, (by show 2 ≤ sizeLine; decide), fun p np => fin _ _ h0 p np⟩⟩
  · exact ⟨_, rfl, _, _, rfl, rfl, (by show (0 : Int) < 2147483647; decide), _, _, rfl, rfl, .inr (by decide), _, rfl, _, _, rfl, rfl, .inl (by decide), _, rfl, _, _, rfl, rfl, .inr ⟨by omega, by omega⟩, _, _, rfl, rfl, _, rfl, _, _, rfl, rfl, .inl (by decide), _, _, rfl, rfl, _, _, rfl, rfl, _, _, rfl, rfl, (by show (0 : Int) < 2147483646; decide), _, _, rfl, rfl,
      _, rfl, _, rfl, _, _, rfl, rfl, ⟨by decide, by decide, by decide⟩, _, _, rfl, rfl, .inr ⟨_, rfl, _, _, rfl, rfl, Or.inr (one_or _), _, rfl, (by show 2 ≤ sizeLine; decide), fun p np => fin _ _ (Int.le_refl 0) p np⟩⟩
theorem scTermL : FnScope ["_law_bag_here", "_law_value"] ["_law_bag_here"] (defScope sTermL) := ⟨rfl, rfl, rfl, by decide +kernel, rfl, by decide +kernel, by decide +kernel⟩
theorem ok_termL {f : Addr} {fd : FuncData} (F : Fun K "_law_term" "_law_term" sTermL f fd) (CD : Cal P w K mg base 1 "_law_draw" ["_law_bag_here", "_law_many"] spDraw) : FnOk P w K mg base CX0 2 f fd ["_law_bag_here"] (spTermL K) := by
  refine F.ok scTermL (fun vs H Q E h => ?_) (fun cdv A outer s H vs Q E hr h => ?_)
  · obtain ⟨b, rfl, _⟩ := h
    rfl
  obtain ⟨b, rfl, hb, q⟩ := h
  refine ⟨_, pss_cons (ps_set (i := 1) scTermL.nd rfl (.inl rfl) (pe_call CD.G hr rfl CD.m CD.kp CD.b .nil pass0 (pa_cons (pv 0) (pa_cons pe_int pa_nil))))
    (pss_cons (ps_if (pt_cmpR op_gt (pv 1) pe_int (nomark _)) (pss_one (ps_ret (pe_ix ix_str pe_str (pe_op op_mod (pv 1) pe_int) (fun _ _ => rfl)))) pss_nil) (pss_one (ps_ret (pv 1)))), ?_⟩
  refine ⟨_, rfl, b, 20, rfl, hb, by decide, by decide, fun H1 r f1 b1 r0 r1 => ⟨_, rfl, _, _, rfl, rfl, _, rfl, ?_⟩⟩
  refine ite2 (fun c => ?_) (fun c => ?_)
  · obtain ⟨ch, hc, hv, ho⟩ := ab_at (r := r % 2) (by omega) (by omega)
    refine ⟨_, rfl, _, _, rfl, rfl, (by show (0 : Int) < 2; decide), _, _, _, rfl, rfl, by decide +kernel, hc, ?_⟩
    refine q _ _ _ f1 b1 (fun H0 => .str _) ?_ (lay_str ho)
    unfold isTerm
    rw [hv]
    rfl
  · have c' : ¬ (15 : Int) < r := of_decide_eq_false (Bool.eq_false_iff.mpr c)
    refine ⟨_, rfl, q _ _ _ f1 b1 (fun H0 => .int _) ?_ (lay_int _)⟩
    have e : intIn (.int r) 0 15 = true := by simp [intIn]; omega
    unfold isTerm
    rw [e, Bool.or_true]
theorem scKind : FnScope ["_law_bag_here"] ["_law_bag_here"] (defScope sKind) := ⟨rfl, rfl, rfl, by decide +kernel, rfl, by decide +kernel, by decide +kernel⟩
theorem ok_kind {f : Addr} {fd : FuncData} (F : Fun K "_law_kind" "_law_kind" sKind f fd) (CD : Cal P w K mg base 1 "_law_draw" ["_law_bag_here", "_law_many"] spDraw) : FnOk P w K mg base CX0 2 f fd ["_law_bag_here"] spKind := by
  refine F.ok scKind (fun vs H Q E h => ?_) (fun cdv A outer s H vs Q E hr h => ?_)
  · obtain ⟨b, rfl, _⟩ := h
    rfl
  obtain ⟨b, rfl, hb, q⟩ := h
  refine ⟨_, pss_one (ps_ret (pe_ix ix_list (pe_lst (pa_cons pe_str (pa_cons pe_str pa_nil))) (pe_call CD.G hr rfl CD.m CD.kp CD.b .nil pass0 (pa_cons (pv 0) (pa_cons pe_int pa_nil))) (fun _ _ => rfl))), ?_⟩
  refine ⟨(by show 2 ≤ sizeLine; decide), fun p np => ⟨_, rfl, b, 2, rfl, hb.keep (same_new np _), by decide, by decide, fun H1 r f1 b1 r0 r1 => ?_⟩⟩
  have hp := f1 p _ (hb.ne np).symm upd_same
  have fr : Fr b H H1 := (Fr.of (same_new np _)).trans f1
  obtain ⟨v, hv, hc⟩ := at2 (x := V.str "teller") (y := V.str "collector") r0 r1
  refine ⟨p, _, _, _, rfl, rfl, SqL.of hp, hv, ?_⟩
  rcases hc with rfl | rfl
  · exact q _ _ fr b1 (.inl rfl)
  · exact q _ _ fr b1 (.inr rfl)
theorem scCondL : FnScope ["_law_bag_here"] ["_law_bag_here"] (defScope sCondL) := ⟨rfl, rfl, rfl, by decide +kernel, rfl, by decide +kernel, by decide +kernel⟩
theorem ok_condL {f : Addr} {fd : FuncData} (F : Fun K "_law_condition" "_law_condition" sCondL f fd) (CD : Cal P w K mg base 1 "_law_draw" ["_law_bag_here", "_law_many"] spDraw) (CT : Cal P w K mg base 2 "_law_term" ["_law_bag_here"] (spTermL K)) :
    FnOk P w K mg base CX0 3 f fd ["_law_bag_here"] (spCondL K) := by
  refine F.ok scCondL (fun vs H Q E h => ?_) (fun cdv A outer s H vs Q E hr h => ?_)
  · obtain ⟨b, rfl, _⟩ := h
    rfl
  obtain ⟨b, rfl, hb, q⟩ := h
  have hr1 : Room 1 _ := hr.mono (by decide)
  refine ⟨_, pss_one (ps_ret (pe_tup (pa_cons (pe_ix ix_str pe_str (pe_call CD.G hr1 rfl CD.m CD.kp CD.b .nil pass0 (pa_cons (pv 0) (pa_cons pe_int pa_nil))) (fun _ _ => rfl))
    (pa_cons (pe_ix ix_list (pe_lst (pa_cons pe_str (pa_cons pe_str (pa_cons pe_str pa_nil)))) (pe_call CD.G hr1 rfl CD.m CD.kp CD.b .nil pass0 (pa_cons (pv 0) (pa_cons pe_int pa_nil))) (fun _ _ => rfl))
    (pa_cons (pe_call CT.G hr rfl CT.m CT.kp CT.b .nil pass0 (pa_cons (pv 0) pa_nil)) pa_nil))))), ?_⟩
  refine ⟨_, rfl, b, 2, rfl, hb, by decide, by decide, fun H1 r f1 b1 r0 r1 => ?_⟩
  obtain ⟨ch, hc, hv, ho⟩ := ab_at r0 r1
  refine ⟨_, _, _, rfl, rfl, by decide +kernel, hc, (by show 3 ≤ sizeLine; decide), fun p np => ⟨_, rfl, b, 3, rfl, b1.keep (same_new np _), by decide, by decide, fun H2 r2 f2 b2 r20 r21 => ?_⟩⟩
  have hp := f2 p _ (b1.ne np).symm upd_same
  obtain ⟨v, hv2, hc2⟩ := at3 (x := V.str "==") (y := V.str "!=") (z := V.str "<") r20 r21
  refine ⟨p, _, _, _, rfl, rfl, SqL.of hp, hv2, _, rfl, b, rfl, b2, fun H3 v3 d3 f3 b3 hd3 ht3 l3 => ⟨(by show 3 ≤ sizeLine; decide), fun t nt => ?_⟩⟩
  have fr : Fr b H (upd H3 t (.tup [.str ⟨#[ch]⟩, v, v3])) := f1.trans ((Fr.of (same_new np _)).trans (f2.trans (f3.trans (Fr.of (same_new nt _)))))
  have key : ∀ z : Str, v = .str z → inS (.str z) signs = true → PyData.strOk z = true → Q (.ref t) (upd H3 t (.tup [.str ⟨#[ch]⟩, v, v3])) := fun z e hz oz => by
    subst e
    refine q _ _ (.tuple [.str ⟨#[ch]⟩, .str z, d3]) fr (b3.keep (same_new nt _)) (da_tup (b3.ne nt).symm upd_same (.cons (.str _) (.cons (.str _) (.cons (hd3 _) .nil)))) ?_ (lay3 (lay_str ho) (lay_str oz) l3)
    show (inS (.str ⟨#[ch]⟩) vars && inS (.str z) signs && isTerm d3) = true
    rw [hv, hz, ht3]
    rfl
  rcases hc2 with e | e | e
  · exact key _ e (by decide +kernel) (by decide +kernel)
  · exact key _ e (by decide +kernel) (by decide +kernel)
  · exact key _ e (by decide +kernel) (by decide +kernel)
theorem scSimple : FnScope ["_law_bag_here", "_law_kind_here", "_law_way", "_law_variable"] ["_law_bag_here", "_law_kind_here"] (defScope sSimple) := ⟨rfl, rfl, rfl, by decide +kernel, rfl, by decide +kernel, by decide +kernel⟩
theorem ok_simple {f : Addr} {fd : FuncData} (F : Fun K "_law_simple" "_law_simple" sSimple f fd) (CD : Cal P w K mg base 1 "_law_draw" ["_law_bag_here", "_law_many"] spDraw) (CT : Cal P w K mg base 2 "_law_term" ["_law_bag_here"] (spTermL K)) (CS : Cal P w K mg base 3 "_law_steps" ["_law_bag_here"] spSteps) :
    FnOk P w K mg base CX0 4 f fd ["_law_bag_here", "_law_kind_here"] (spSimple K) := by
  refine F.ok scSimple (fun vs H Q E h => ?_) (fun cdv A outer s H vs Q E hr h => ?_)
  · obtain ⟨b, k, rfl, _⟩ := h
    rfl
  obtain ⟨b, k, rfl, hb, hk, q⟩ := h
  have hr1 : Room 1 _ := hr.mono (by decide)
  have hr2 : Room 2 _ := hr.mono (by decide)
  refine ⟨_, pss_cons (ps_set (i := 2) scSimple.nd rfl (.inl rfl) (pe_call CD.G hr1 rfl CD.m CD.kp CD.b .nil pass0 (pa_cons (pv 0) (pa_cons pe_int pa_nil))))
    (pss_cons (ps_set (i := 3) scSimple.nd rfl (.inl rfl) (pe_ix ix_str pe_str (pe_call CD.G hr1 rfl CD.m CD.kp CD.b .nil pass0 (pa_cons (pv 0) (pa_cons pe_int pa_nil))) (fun _ _ => rfl)))
    (pss_cons (ps_if (pt_cmpR op_eq (pv 2) pe_int (nomark _)) (pss_one (ps_ret (pe_tup (pa_cons pe_str (pa_cons (pe_call CS.G hr rfl CS.m CS.kp CS.b .nil pass0 (pa_cons (pv 0) pa_nil)) pa_nil))))) pss_nil)
    (pss_cons (ps_if (pt_cmpR op_lt (pv 2) pe_int (nomark _)) (pss_one (ps_ret (pe_tup (pa_cons pe_str (pa_cons (pv 3) (pa_cons (pe_call CD.G hr1 rfl CD.m CD.kp CD.b .nil pass0 (pa_cons (pv 0) (pa_cons pe_int pa_nil))) pa_nil)))))) pss_nil)
    (pss_cons (ps_if (pt_cmpR op_lt (pv 2) pe_int (nomark _)) (pss_one (ps_ret (pe_tup (pa_cons pe_str (pa_cons (pv 3) (pa_cons (pe_call CT.G hr2 rfl CT.m CT.kp CT.b .nil pass0 (pa_cons (pv 0) pa_nil)) pa_nil)))))) pss_nil)
    (pss_cons (ps_if (pt_cmpR op_eq (pv 1) pe_str (nomark _)) (pss_one (ps_ret (pe_tup (pa_cons (pe_ix ix_list (pe_lst (pa_cons pe_str (pa_cons pe_str pa_nil))) (pe_op op_mod (pv 2) pe_int) (fun _ _ => rfl)) (pa_cons (pe_call CT.G hr2 rfl CT.m CT.kp CT.b .nil pass0 (pa_cons (pv 0) pa_nil)) pa_nil))))) pss_nil)
    (pss_cons (ps_if (PW.pt (pw_and (pt_cmpR op_eq (pv 2) pe_int (nomark _)) (pw_and1 (pt_cmpR op_eq (pe_call CD.G hr1 rfl CD.m CD.kp CD.b .nil pass0 (pa_cons (pv 0) (pa_cons pe_int pa_nil))) pe_int (nomark _)))))
      (pss_one (ps_ret (pe_tup (pa_cons pe_str (pa_cons (pe_call CD.G hr1 rfl CD.m CD.kp CD.b .nil pass0 (pa_cons (pv 0) (pa_cons pe_int pa_nil))) pa_nil))))) pss_nil)
    (pss_one (ps_ret (pe_tup (pa_cons pe_str (pa_cons (pe_ix ix_str pe_str (pe_call CD.G hr1 rfl CD.m CD.kp CD.b .nil pass0 (pa_cons (pv 0) (pa_cons pe_int pa_nil))) (fun _ _ => rfl)) (pa_cons (pe_call CT.G hr2 rfl CT.m CT.kp CT.b .nil pass0 (pa_cons (pv 0) pa_nil)) (pa_cons (pv 3) pa_nil))))))))))))), ?_⟩
  refine ⟨_, rfl, b, 8, rfl, hb, by decide, by decide, fun H1 r f1 b1 r0 r1 => ⟨_, rfl, b, 2, rfl, b1, by decide, by decide, fun H2 r2 f2 b2 r20 r21 => ?_⟩⟩
  obtain ⟨ch, hc, hv, ho⟩ := ab_at r20 r21
  have f12 := f1.trans f2
  refine ⟨_, _, _, rfl, rfl, by decide +kernel, hc, ?_⟩
  refine ⟨_, rfl, rfl, _, rfl, ite2 (fun c => ?_) (fun c => ?_)⟩
  · refine ⟨_, rfl, b, rfl, b2, fun H3 x f3 b3 x0 x1 => ⟨(by show 2 ≤ sizeLine; decide), fun t nt => ?_⟩⟩
    refine q _ _ (.tuple [.str "wait", .int x]) (f12.trans (f3.trans (Fr.of (same_new nt _)))) (b3.keep (same_new nt _)) (da_tup (b3.ne nt).symm upd_same (.cons (.str _) (.cons (.int _) .nil))) (plain1 (roles_wait k) ?_) (lay2 (lay_str (by decide +kernel)) (lay_int _))
    rw [part_steps]; simp [intIn, x0, x1]
  refine ⟨_, rfl, _, _, rfl, rfl, _, rfl, ite2 (fun c => ?_) (fun c => ?_)⟩
  · refine ⟨_, rfl, _, rfl, b, 16, rfl, b2, by decide, by decide, fun H3 x f3 b3 x0 x1 => ⟨(by show 3 ≤ sizeLine; decide), fun t nt => ?_⟩⟩
    refine q _ _ (.tuple [.str "set", .str ⟨#[ch]⟩, .int x]) (f12.trans (f3.trans (Fr.of (same_new nt _)))) (b3.keep (same_new nt _)) (da_tup (b3.ne nt).symm upd_same (.cons (.str _) (.cons (.str _) (.cons (.int _) .nil)))) (plain2 (roles_set k) (by rw [part_variable]; exact hv) ?_) (lay3 (lay_str (by decide +kernel)) (lay_str ho) (lay_int _))
    rw [part_value]; simp [intIn, x0]; omega
  refine ⟨_, rfl, _, _, rfl, rfl, _, rfl, ite2 (fun c => ?_) (fun c => ?_)⟩
  · refine ⟨_, rfl, _, rfl, b, rfl, b2, fun H3 x d3 f3 b3 hd3 t3 l3 => ⟨(by show 3 ≤ sizeLine; decide), fun t nt => ?_⟩⟩
    exact q _ _ (.tuple [.str "add", .str ⟨#[ch]⟩, d3]) (f12.trans (f3.trans (Fr.of (same_new nt _)))) (b3.keep (same_new nt _)) (da_tup (b3.ne nt).symm upd_same (.cons (.str _) (.cons (.str _) (.cons (hd3 _) .nil)))) (plain2 (roles_add k) (by rw [part_variable]; exact hv) (by rw [part_term]; exact t3)) (lay3 (lay_str (by decide +kernel)) (lay_str ho) l3)
  refine ⟨_, rfl, rfl, _, rfl, ite2 (fun c => ?_) (fun c => ?_)⟩
  · have ek : k = "collector" := by
      have c' := of_decide_eq_true c
      injection c'
    subst ek
    refine ⟨(by show 2 ≤ sizeLine; decide), fun p np => ?_⟩
    obtain ⟨v, hv2, hc2⟩ := at2 (x := V.str "grow") (y := V.str "list") (r := r % 2) (by omega) (by omega)
    refine ⟨_, rfl, _, _, rfl, rfl, (by show (0 : Int) < 2; decide), p, _, _, _, rfl, rfl, SqL.of upd_same, hv2, _, rfl, b, rfl, b2.keep (same_new np _), fun H3 x d3 f3 b3 hd3 t3 l3 => ⟨(by show 2 ≤ sizeLine; decide), fun t nt => ?_⟩⟩
    have fr : Fr b H (upd H3 t (.tup [v, x])) := f12.trans ((Fr.of (same_new np _)).trans (f3.trans (Fr.of (same_new nt _))))
    rcases hc2 with rfl | rfl
    · exact q _ _ (.tuple [.str "grow", d3]) fr (b3.keep (same_new nt _)) (da_tup (b3.ne nt).symm upd_same (.cons (.str _) (.cons (hd3 _) .nil))) (plain1 roles_grow (by rw [part_term]; exact t3)) (lay2 (lay_str (by decide +kernel)) l3)
    · exact q _ _ (.tuple [.str "list", d3]) fr (b3.keep (same_new nt _)) (da_tup (b3.ne nt).symm upd_same (.cons (.str _) (.cons (hd3 _) .nil))) (plain1 roles_list (by rw [part_term]; exact t3)) (lay2 (lay_str (by decide +kernel)) l3)
  have ek : k = "teller" := by
    rcases hk with e | e
    · exact e
    · exact absurd (decide_eq_true (by rw [e])) c
  subst ek
  have ask : ∀ (H3 : Hp), Fr b H H3 → Bag H3 b → ∀ (H4 : Hp) (r4 : Int) (f4 : Fr b H3 H4) (b4 : Bag H4 b) (r40 : 0 ≤ r4) (r41 : r4 < 3) (c4 : Nat), atI ("+-=" : Str).cps.toList r4 = some c4 → inS (.str ⟨#[c4]⟩) asks = true → PyData.strOk ⟨#[c4]⟩ = true →
      ∀ (H5 : Hp) (x : V) (d5 : PyData) (f5 : Fr b H4 H5) (b5 : Bag H5 b) (hd5 : ∀ H0, Dp K H0 x d5) (t5 : isTerm d5 = true) (l5 : Lay d5) (t : Addr) (nt : H5 t = none), Q (.ref t) (upd H5 t (.tup [.str "ask", .str ⟨#[c4]⟩, x, .str ⟨#[ch]⟩])) := by
    intro H3 f3 b3 H4 r4 f4 b4 r40 r41 c4 hc4 hi4 ho4 H5 x d5 f5 b5 hd5 t5 l5 t nt
    exact q _ _ (.tuple [.str "ask", .str ⟨#[c4]⟩, d5, .str ⟨#[ch]⟩]) (f3.trans (f4.trans (f5.trans (Fr.of (same_new nt _))))) (b5.keep (same_new nt _)) (da_tup (b5.ne nt).symm upd_same (.cons (.str _) (.cons (.str _) (.cons (hd5 _) (.cons (.str _) .nil)))))
      (plain3 roles_ask (by rw [part_sign]; exact hi4) (by rw [part_term]; exact t5) (by rw [part_variable]; exact hv)) (lay4 (lay_str (by decide +kernel)) (lay_str ho4) l5 (lay_str ho))
  refine ⟨_, rfl, rfl, _, rfl, ite2 (fun c => ?_) (fun c => ?_)⟩
  · refine ⟨_, rfl, b, 3, rfl, b2, by decide, by decide, fun H3 x f3 b3 x0 x1 => ⟨rfl, _, rfl, ite2 (fun c => ?_) (fun c => ?_)⟩⟩
    · refine ⟨_, rfl, b, 2, rfl, b3, by decide, by decide, fun H4 y f4 b4 y0 y1 => ⟨(by show 2 ≤ sizeLine; decide), fun t nt => ?_⟩⟩
      refine q _ _ (.tuple [.str "answer", .int y]) (f12.trans (f3.trans (f4.trans (Fr.of (same_new nt _))))) (b4.keep (same_new nt _)) (da_tup (b4.ne nt).symm upd_same (.cons (.str _) (.cons (.int _) .nil))) (plain1 roles_answer ?_) (lay2 (lay_str (by decide +kernel)) (lay_int _))
      rw [part_answer]; simp [intIn, y0]; omega
    · refine ⟨_, rfl, b, 3, rfl, b3, by decide, by decide, fun H4 r4 f4 b4 r40 r41 => ?_⟩
      obtain ⟨c4, hc4, hi4, ho4⟩ := asks_at r40 r41
      exact ⟨_, _, _, rfl, rfl, by decide +kernel, hc4, _, rfl, b, rfl, b4, fun H5 x d5 f5 b5 hd5 t5 l5 => ⟨_, rfl, (by show 4 ≤ sizeLine; decide), fun t nt => ask H3 (f12.trans f3) b3 H4 r4 f4 b4 r40 r41 c4 hc4 hi4 ho4 H5 x d5 f5 b5 hd5 t5 l5 t nt⟩⟩
  · refine iteF ⟨_, rfl, b, 3, rfl, b2, by decide, by decide, fun H4 r4 f4 b4 r40 r41 => ?_⟩
    obtain ⟨c4, hc4, hi4, ho4⟩ := asks_at r40 r41
    exact ⟨_, _, _, rfl, rfl, by decide +kernel, hc4, _, rfl, b, rfl, b4, fun H5 x d5 f5 b5 hd5 t5 l5 => ⟨_, rfl, (by show 4 ≤ sizeLine; decide), fun t nt => ask H2 f12 b2 H4 r4 f4 b4 r40 r41 c4 hc4 hi4 ho4 H5 x d5 f5 b5 hd5 t5 l5 t nt⟩⟩
end
theorem lay1 {a : PyData} (ha : Lay a) : Lay (.tuple [a]) := lay_tuple (by intro d m; simp at m; rcases m with rfl; assumption)
theorem body_nil (k : Str) (r : Nat) : bodyN k r (.tuple []) = some 0 := by cases r <;> rfl
theorem bods_if {ps : List PyData} : bodsOf (.tuple (.str "if" :: ps)) = ps.drop 1 := by
  show (if ("if" : Str) = "if" ∨ ("if" : Str) = "while" then ps.drop 1 else []) = _
  rw [if_pos (.inl rfl)]
theorem bods_while {ps : List PyData} : bodsOf (.tuple (.str "while" :: ps)) = ps.drop 1 := by
  show (if ("while" : Str) = "if" ∨ ("while" : Str) = "while" then ps.drop 1 else []) = _
  rw [if_pos (.inr rfl)]
theorem body_one (k : Str) (r : Nat) (s : PyData) : bodyN k (r + 1) (.tuple [s]) = stN k r s := by
  rw [bodyN_tup]
  simp only [List.map_cons, List.map_nil, sumO, addO_zero]
theorem bods_else {z : Str} {ps : List PyData} (h1 : ¬ z = "if") (h2 : ¬ z = "while") : bodsOf (.tuple (.str z :: ps)) = [] := by
  show (if z = "if" ∨ z = "while" then ps.drop 1 else []) = _
  rw [if_neg (by rintro (e | e); exact h1 e; exact h2 e)]
theorem roles_if (k : Str) : rolesZ "if" k = none := by
  unfold rolesZ
  rw [if_neg (by decide +kernel), if_neg (by decide +kernel), if_neg (by decide +kernel)]
  split
  · rw [if_neg (by decide +kernel), if_neg (by decide +kernel)]
  · rw [if_neg (by decide +kernel), if_neg (by decide +kernel)]
theorem roles_while (k : Str) : rolesZ "while" k = none := by
  unfold rolesZ
  rw [if_neg (by decide +kernel), if_neg (by decide +kernel), if_neg (by decide +kernel)]
  split
  · rw [if_neg (by decide +kernel), if_neg (by decide +kernel)]
  · rw [if_neg (by decide +kernel), if_neg (by decide +kernel)]
theorem plain_inv {d : PyData} {k : Str} (h : isPlain d k = true) : ∃ z ps rs, d = .tuple (.str z :: ps) ∧ rolesZ z k = some rs ∧ ps.length = rs.length ∧ allParts ps rs = true := by
  cases hw : wordOf d with
  | none =>
    have e : rolesOf (wordOf d) k = none := by rw [hw]; rfl
    rw [plain_none e] at h
    cases h
  | some z =>
    obtain ⟨ps, rfl⟩ := word_inv hw
    cases hz : rolesZ z k with
    | none =>
      have e : rolesOf (wordOf (.tuple (.str z :: ps))) k = none := hz
      rw [plain_none e] at h
      cases h
    | some rs =>
      rw [plain_some hz, Bool.and_eq_true] at h
      exact ⟨z, ps, rs, rfl, hz, of_decide_eq_true h.1, h.2⟩
theorem plain_st {d : PyData} {k : Str} (h : isPlain d k = true) : isOut d k = true ∧ bodsOf d = [] := by
  obtain ⟨z, ps, rs, rfl, hz, _⟩ := plain_inv h
  have n1 : ¬ z = "if" := fun e => by rw [e, roles_if] at hz; cases hz
  have n2 : ¬ z = "while" := fun e => by rw [e, roles_while] at hz; cases hz
  exact ⟨(out_else n1 n2).trans h, bods_else n1 n2⟩
theorem stN_plain {d : PyData} {k : Str} {r : Nat} (h : isPlain d k = true) : stN k r d = some 1 := by
  obtain ⟨h1, h2⟩ := plain_st h
  unfold stN
  rw [if_pos h1, h2]
  rfl
theorem sum_plain {k : Str} {r : Nat} : ∀ {ds : List PyData}, (∀ d ∈ ds, isPlain d k = true) → sumO (ds.map (stN k r)) = some ds.length
  | [], _ => rfl
  | d :: t, h => by
    simp only [List.map_cons, sumO]
    rw [stN_plain (h d (by simp)), sum_plain fun x m => h x (List.mem_cons_of_mem _ m)]
    simp only [addO, List.length_cons]
    congr 1
    omega
theorem kinds_in {k : Str} (h : k = "teller" ∨ k = "collector") : inS (.str k) kinds = true := by
  rcases h with rfl | rfl <;> decide +kernel
theorem strOk_kind {k : Str} (h : k = "teller" ∨ k = "collector") : PyData.strOk k = true := by
  rcases h with rfl | rfl <;> decide +kernel
/-! ### data without lists -/
mutual
def noL : PyData → Bool
  | .list _ => false
  | .tuple xs => noLAll xs
  | .none | .bool _ | .int _ | .str _ | .dict _ => true
def noLAll : List PyData → Bool
  | [] => true
  | x :: xs => noL x && noLAll xs
end
mutual
theorem dp_keepL {K : PySem.W.Frag} {H H' : Hp} {D : Addr} {ys : List V} (e : ∀ a o, a ≠ D → H a = some o → H' a = some o) (hD : H D = some (.lst ys)) : ∀ (d : PyData) (v : V), noL d = true → Dp K H v d → Dp K H' v d
  | .none, _, _, h => by cases h; exact .non
  | .bool b, _, _, h => by cases h; exact .bl b
  | .int i, _, _, h => by cases h; exact .int i
  | .str x, _, _, h => by cases h; exact .str x
  | .list ds, _, n, h => by simp [noL] at n
  | .tuple ds, _, n, h => by
    cases h with
    | tup hs ha =>
      refine .tup ?_ (dpAll_keepL e hD ds _ (by simpa [noL] using n) ha)
      rcases hs with (h | ⟨o, h⟩) | h
      · exact .inl (.inl (e _ _ (ne_of h hD (by intro z; cases z)) h))
      · exact .inl (.inr ⟨o, e _ _ (ne_of h hD (by intro z; cases z)) h⟩)
      · exact .inr h
  | .dict _, _, _, h => by cases h
theorem dpAll_keepL {K : PySem.W.Frag} {H H' : Hp} {D : Addr} {ys : List V} (e : ∀ a o, a ≠ D → H a = some o → H' a = some o) (hD : H D = some (.lst ys)) : ∀ (ds : List PyData) (vs : List V), noLAll ds = true → DpAll K H vs ds → DpAll K H' vs ds
  | [], _, _, h => by cases h; exact .nil
  | d :: ds, _, n, h => by
    simp only [noLAll, Bool.and_eq_true] at n
    cases h with
    | cons hd ht => exact .cons (dp_keepL e hD d _ n.1 hd) (dpAll_keepL e hD ds _ n.2 ht)
end
theorem part_noL {p : PyData} {r : Str} (h : isPart p r = true) : noL p = true := by
  cases p with
  | list xs => unfold isPart at h; repeat' split at h
               all_goals simp [inS, isTerm, intIn] at h
  | tuple xs => unfold isPart at h; repeat' split at h
                all_goals simp [inS, isTerm, intIn] at h
  | _ => rfl
theorem parts_noL : ∀ {ps : List PyData} {rs : List Str}, ps.length = rs.length → allParts ps rs = true → noLAll ps = true
  | [], _, _, _ => rfl
  | p :: ps, [], l, _ => by simp at l
  | p :: ps, r :: rs, l, h => by
    have h' : isPart p r = true ∧ allParts ps rs = true := by
      simpa [allParts] using h
    simp only [noLAll, Bool.and_eq_true]
    exact ⟨part_noL h'.1, parts_noL (by simpa using l) h'.2⟩
theorem plain_noL {d : PyData} {k : Str} (h : isPlain d k = true) : noL d = true := by
  obtain ⟨z, ps, rs, rfl, hz, hl, hp⟩ := plain_inv h
  simp only [noL, noLAll, Bool.true_and]
  exact parts_noL hl hp
theorem all_noL {k : Str} : ∀ {ds : List PyData}, (∀ d ∈ ds, isPlain d k = true ∧ Lay d) → noLAll ds = true
  | [], _ => rfl
  | d :: t, h => by
    simp only [noLAll, Bool.and_eq_true]
    exact ⟨plain_noL (h d (by simp)).1, all_noL fun x m => h x (List.mem_cons_of_mem _ m)⟩
theorem dpAll_append {K : PySem.W.Frag} {H : Hp} : ∀ {xs ys : List V} {ds es : List PyData}, DpAll K H xs ds → DpAll K H ys es → DpAll K H (xs ++ ys) (ds ++ es)
  | _, _, _, _, .nil, h => h
  | _, _, _, _, .cons a t, h => .cons a (dpAll_append t h)
theorem dpAll_take {K : PySem.W.Frag} {H : Hp} : ∀ (n : Nat) {xs : List V} {ds : List PyData}, DpAll K H xs ds → DpAll K H (xs.take n) (ds.take n)
  | 0, _, _, _ => .nil
  | n + 1, _, _, .nil => .nil
  | n + 1, _, _, .cons a t => .cons a (dpAll_take n t)
theorem cut_lo (xs : List V) (n : Nat) : cutV xs none (some (n : Int)) = xs.take n := by
  unfold cutV
  rw [HT.sIx_nat, HT.sIx_none, List.drop_zero, Nat.sub_zero, List.take_eq_take_iff]
  omega
theorem cut_hi (xs : List V) (n : Nat) : cutV xs (some (n : Int)) none = xs.drop n := by
  unfold cutV
  rw [HT.sIx_nat, HT.sIx_none]
  by_cases h : n ≤ xs.length
  · rw [Nat.min_eq_left h, List.take_of_length_le (by rw [List.length_drop]; omega)]
  · rw [Nat.min_eq_right (by omega), List.drop_of_length_le (Nat.le_refl _), List.drop_of_length_le (by omega)]
    simp
theorem and_one {c e : Bool} {tb : TE} {σ : L2.St} {H : Hp} {Q : VK} (h : ∀ Q' : VK, Q' (.bl e) H → tb σ H Q') (q : Q (.bl (c && e)) H) : if c = true then tb σ H Q else Q (.bl false) H := by
  cases c with
  | true => exact iteT (h _ q)
  | false => exact iteF q
theorem Bag.upd {H : Hp} {b D : Addr} {o : HO} (h : Bag H b) (n : D ≠ b) : Bag (upd H D o) b := by
  obtain ⟨c, s, e, r⟩ := h
  exact ⟨c, s, by rw [upd_ne n.symm]; exact e, r⟩
theorem hide_upd {b D : Addr} {H : Hp} {o : HO} : ∀ a u, a ≠ D → hide b H a = some u → hide b (L2.upd H D o) a = some u := fun a u n h => by
  unfold hide at h ⊢
  split at h
  · cases h
  · rename_i nb
    rw [if_neg nb, upd_ne n]
    exact h
theorem fr_upd {b D : Addr} {H H' : Hp} (f : Fr b H H') (n : H D = none) (o : HO) : Fr b H (upd H' D o) := fun x u nx h => by
  rw [upd_ne (ne_of_none h n)]
  exact f _ _ nx h
abbrev sStmt : Stmt := top 50
abbrev sBody : Stmt := top 51
abbrev sProgL : Stmt := top 52
def Fr2 (b m : Addr) (H H' : Hp) : Prop := ∀ a o, a ≠ b → a ≠ m → H a = some o → H' a = some o
theorem Fr2.refl (b m : Addr) (H : Hp) : Fr2 b m H H := fun _ _ _ _ h => h
theorem Fr2.trans {b m : Addr} {H H1 H2 : Hp} (x : Fr2 b m H H1) (y : Fr2 b m H1 H2) : Fr2 b m H H2 := fun a o n1 n2 h => y a o n1 n2 (x a o n1 n2 h)
theorem Fr.two {b m : Addr} {H H' : Hp} (x : Fr b H H') : Fr2 b m H H' := fun a o n _ h => x a o n h
theorem Same.two {b m : Addr} {H H' : Hp} (x : Same H H') : Fr2 b m H H' := fun a o _ _ h => x a o h
theorem Fr2.updm {b m : Addr} {H : Hp} (o : HO) : Fr2 b m H (upd H m o) := fun a u _ n h => by rw [upd_ne n]; exact h
def Rm (H : Hp) (m : Addr) (r : Nat) : Prop := H m = some (.lst [.int (r : Nat)])
theorem da_fr2 {K : PySem.W.Frag} {b m : Addr} {H H' : Hp} {v : V} {d : PyData} {ys : List V} (n : noL d = true) (h : Da K b H v d) (f : Fr2 b m H H') (hm : H m = some (.lst ys)) (nm : m ≠ b) : Da K b H' v d := by
  refine dp_keepL (D := m) (ys := ys) (fun a o na ha => ?_) (hide_get nm hm) d v n h
  unfold hide at ha ⊢
  split at ha
  · cases ha
  · rename_i nb
    rw [if_neg nb]
    exact f a o nb na ha
theorem daAll_fr2 {K : PySem.W.Frag} {b m : Addr} {H H' : Hp} {vs : List V} {ds : List PyData} {ys : List V} (n : noLAll ds = true) (h : DpAll K (hide b H) vs ds) (f : Fr2 b m H H') (hm : H m = some (.lst ys)) (nm : m ≠ b) : DpAll K (hide b H') vs ds := by
  refine dpAll_keepL (D := m) (ys := ys) (fun a o na ha => ?_) (hide_get nm hm) ds vs n h
  unfold hide at ha ⊢
  split at ha
  · cases ha
  · rename_i nb
    rw [if_neg nb]
    exact f a o nb na ha
theorem term_noL {d : PyData} (h : isTerm d = true) : noL d = true := by
  cases d with
  | list xs => simp [isTerm, inS, intIn] at h
  | tuple xs => simp [isTerm, inS, intIn] at h
  | _ => rfl
theorem inS_noL {d : PyData} {zs : List Str} (h : inS d zs = true) : noL d = true := by
  cases d with
  | list xs => simp [inS] at h
  | tuple xs => simp [inS] at h
  | _ => rfl
theorem cond_noL {d : PyData} (h : isCond d = true) : noL d = true := by
  match d, h with
  | .tuple [x, y, z], h =>
    have h' : (inS x vars && inS y signs && isTerm z) = true := h
    rw [Bool.and_eq_true, Bool.and_eq_true] at h'
    simp only [noL, noLAll, inS_noL h'.1.1, inS_noL h'.1.2, term_noL h'.2]
    rfl
def spBody (K : PySem.W.Frag) (n : Nat) : Sp := fun vs H Q _ => ∃ (b m : Addr) (k : Str) (r : Nat) (dep mo : Int), vs = [.ref b, .str k, .ref m, .int dep, .int mo] ∧ dep = 5 - (n : Int) ∧ n ≤ 4 ∧ Bag H b ∧ Rm H m r ∧ m ≠ b ∧ (k = "teller" ∨ k = "collector") ∧ mo < 1000 ∧
  ∀ H' v d r' c, Fr2 b m H H' → Bag H' b → Rm H' m r' → Da K b H' v d → noL d = true → Lay d → bodyN k n d = some c → r' + c = r → Q v H'
def spStmt (K : PySem.W.Frag) (n : Nat) : Sp := fun vs H Q _ => ∃ (b m : Addr) (k : Str) (r : Nat) (dep : Int), vs = [.ref b, .str k, .ref m, .int dep] ∧ dep = 4 - (n : Int) ∧ n ≤ 3 ∧ Bag H b ∧ Rm H m r ∧ m ≠ b ∧ (k = "teller" ∨ k = "collector") ∧
  ∀ H' v d r' c, Fr2 b m H H' → Bag H' b → Rm H' m r' → Da K b H' v d → noL d = true → Lay d → stN k n d = some (1 + c) → r' + c = r → Q v H'
theorem sumO_snoc (xs : List (Option Nat)) (x : Option Nat) : sumO (xs ++ [x]) = addO (sumO xs) x := by
  rw [sumO_append]
  simp only [sumO, addO_zero]
theorem noLAll_snoc : ∀ {ds : List PyData} {d : PyData}, noLAll ds = true → noL d = true → noLAll (ds ++ [d]) = true
  | [], d, _, h => by simp [noLAll, h]
  | x :: r, d, h, h2 => by
    simp only [noLAll, Bool.and_eq_true] at h
    rw [List.cons_append]
    simp only [noLAll, Bool.and_eq_true]
    exact ⟨h.1, noLAll_snoc h.2 h2⟩
section
variable {P : Program} {w : World} {K : PySem.W.Frag} {mg : Str → Option Value} {base : Heap}
theorem scBody : FnScope ["_law_bag_here", "_law_kind_here", "_law_room", "_law_depth", "_law_most", "_law_body_here", "_law_turn"] ["_law_bag_here", "_law_kind_here", "_law_room", "_law_depth", "_law_most"] (defScope sBody) := ⟨rfl, rfl, rfl, by decide +kernel, rfl, by decide +kernel, by decide +kernel⟩
theorem ok_body {f : Addr} {fd : FuncData} {lv n : Nat} (hlv : 1 ≤ lv) (F : Fun K "_law_body" "_law_body" sBody f fd) (T : Gs K mg) (T2 : G2 mg) (CD : Cal P w K mg base 1 "_law_draw" ["_law_bag_here", "_law_many"] spDraw)
    (CS : Cal P w K mg base lv "_law_statement" ["_law_bag_here", "_law_kind_here", "_law_room", "_law_depth"] (fun vs H Q E => n ≠ 0 ∧ spStmt K (n - 1) vs H Q E)) :
    FnOk P w K mg base CX0 (lv + 1) f fd ["_law_bag_here", "_law_kind_here", "_law_room", "_law_depth", "_law_most"] (spBody K n) := by
  refine F.ok scBody (fun vs H Q E h => ?_) (fun cdv A outer s H vs Q E hr h => ?_)
  · obtain ⟨b, m, k, r, dep, mo, rfl, _⟩ := h
    rfl
  obtain ⟨b, m, k, r, dep, mo, rfl, hdep, hn, hb, hm, nmb, hk, hmo, q⟩ := h
  have hr1 : Room 1 _ := hr.mono hlv
  refine ⟨_, pss_cons (ps_set (i := 5) scBody.nd rfl (.inl rfl) (pe_lst pa_nil))
    (pss_cons (ps_for PassesOwn.never rfl (pi_range1 (by rfl) T2.range (pa_cons (pe_call CD.G hr1 rfl CD.m CD.kp CD.b .nil pass0 (pa_cons (pv 0) (pa_cons (pe_callB (call_max2 rfl) (by rfl) T2.max (by decide +kernel) (pa_cons pe_int (pa_cons (pv 4) pa_nil))) pa_nil))) pa_nil)) (pg_name (i := 6) scBody.nd rfl (.inl rfl))
      (pss_one (ps_if (PW.pt (pw_and (pt_cmpR op_gt (pe_ix ix_list (pv 2) pe_int (fun _ _ => rfl)) pe_int (nomark _)) (pw_and1 (pt_cmpR op_lt (pv 3) pe_int (nomark _)))))
        (pss_cons (ps_asg (pe_op op_sub (pe_ix ix_list (pv 2) pe_int (fun _ _ => rfl)) pe_int) (pg_sub (pv 2) pe_int set_list))
        (pss_one (ps_expr (pe_bm PySem.F.plainAttrs_list PySem.F.slot_list_append PySem.F.type_list_append mt_append (pv 5) (pa_cons (pe_call CS.G hr rfl CS.m CS.kp CS.b .nil pass0 (pa_cons (pv 0) (pa_cons (pv 1) (pa_cons (pv 2) (pa_cons (pv 3) pa_nil))))) pa_nil))))) pss_nil)))
    (pss_one (ps_ret (pe_callTy call_tuple_of (by rfl) T.tup (by decide +kernel) (pa_cons (pv 5) pa_nil))))), ?_⟩
  refine ⟨(by show 0 ≤ sizeLine; decide), fun l nl => ?_⟩
  have nlb : l ≠ b := (hb.ne nl).symm
  have nlm : l ≠ m := fun e => by rw [e, hm] at nl; cases nl
  refine ⟨_, rfl, _, rfl, _, _, rfl, b, _, rfl, hb.keep (same_new nl _), ?_, ?_, fun H1 t f1 b1 t0 t1 => ?_⟩
  · split <;> omega
  · split <;> omega
  have hm1 : Rm H1 m r := f1 m _ nmb (by rw [upd_ne nlm.symm]; exact hm)
  have hl1 : H1 l = some (.lst []) := f1 l _ nlb upd_same
  have t1000 : t < 1000 := by split at t1 <;> omega
  refine ⟨_, rfl, by omega, by omega, for_range (lo := 0) (n := t.toNat) (fun i σ H' => ∃ (xs : List V) (ds : List PyData) (r1 c1 : Nat) (s6 : Option V), σ = [some (.ref b), some (.str k), some (.ref m), some (.int dep), some (.int mo), some (.ref l), s6] ∧
      Fr2 b m H H' ∧ Bag H' b ∧ Rm H' m r1 ∧ H' l = some (.lst xs) ∧ DpAll K (hide b H') xs ds ∧ noLAll ds = true ∧ (∀ d ∈ ds, Lay d) ∧ bodyN k n (.tuple ds) = some c1 ∧ r1 + c1 = r ∧ xs.length ≤ i)
    ⟨[], [], r, 0, none, rfl, ((Fr.of (same_new nl _)).two).trans f1.two, b1, hm1, hl1, .nil, rfl, by simp, body_nil k n, rfl, Nat.le_refl 0⟩ ?_ ?_⟩
  · rintro i σ H2 hi ⟨xs, ds, r1, c1, s6, rfl, f2, b2, hm2, hl2, hds, hno, hly, hc1, hrc, hxl⟩
    refine ⟨_, rfl, m, _, _, _, rfl, rfl, SqL.of hm2, atI_nat (j := 0) rfl, _, _, rfl, rfl, _, rfl, ?_⟩
    have keep : ∃ (xs : List V) (ds : List PyData) (r1 c1 : Nat) (s6' : Option V), ([some (.ref b), some (.str k), some (.ref m), some (.int dep), some (.int mo), some (.ref l), some (.int (0 + (i : Nat)))] : L2.St) = [some (.ref b), some (.str k), some (.ref m), some (.int dep), some (.int mo), some (.ref l), s6'] ∧
      Fr2 b m H H2 ∧ Bag H2 b ∧ Rm H2 m r1 ∧ H2 l = some (.lst xs) ∧ DpAll K (hide b H2) xs ds ∧ noLAll ds = true ∧ (∀ d ∈ ds, Lay d) ∧ bodyN k n (.tuple ds) = some c1 ∧ r1 + c1 = r ∧ xs.length ≤ i + 1 := ⟨xs, ds, r1, c1, _, rfl, f2, b2, hm2, hl2, hds, hno, hly, hc1, hrc, by omega⟩
    by_cases c0 : (0 : Int) < (r1 : Nat)
    · rw [decide_eq_true c0]
      refine iteT ⟨_, rfl, _, _, rfl, rfl, _, rfl, ?_⟩
      by_cases c5 : dep < 5
      · rw [decide_eq_true c5]
        refine iteT ⟨_, rfl, m, _, _, _, rfl, rfl, SqL.of hm2, atI_nat (j := 0) rfl, _, _, rfl, rfl, _, rfl, m, _, _, 0, rfl, rfl, hm2, rfl, ?_⟩
        obtain ⟨r2, rfl⟩ : ∃ r2, r1 = r2 + 1 := ⟨r1 - 1, by omega⟩
        have hm3 : Rm (upd H2 m (.lst ([V.int ((r2 + 1 : Nat) : Int)].set 0 (V.int (((r2 + 1 : Nat) : Int) - 1))))) m r2 := by
          show _ = some (HO.lst [V.int (r2 : Nat)])
          rw [upd_same]
          show some (HO.lst [V.int (((r2 + 1 : Nat) : Int) - 1)]) = _
          rw [show (((r2 + 1 : Nat) : Int) - 1) = ((r2 : Nat) : Int) by omega]
        have b3 : Bag (upd H2 m (.lst ([V.int ((r2 + 1 : Nat) : Int)].set 0 (V.int (((r2 + 1 : Nat) : Int) - 1))))) b := b2.upd nmb
        have f3 : Fr2 b m H2 (upd H2 m (.lst ([V.int ((r2 + 1 : Nat) : Int)].set 0 (V.int (((r2 + 1 : Nat) : Int) - 1))))) := Fr2.updm _
        have hl3 : (upd H2 m (.lst ([V.int ((r2 + 1 : Nat) : Int)].set 0 (V.int (((r2 + 1 : Nat) : Int) - 1))))) l = some (.lst xs) := by rw [upd_ne nlm]; exact hl2
        have hds3 := daAll_fr2 hno hds f3 hm2 nmb
        generalize upd H2 m (.lst ([V.int ((r2 + 1 : Nat) : Int)].set 0 (V.int (((r2 + 1 : Nat) : Int) - 1)))) = H3 at hm3 b3 f3 hl3 hds3 ⊢
        refine ⟨_, rfl, .inl ⟨rfl, _, SqL.of hl3⟩, _, rfl, _, rfl, _, rfl, _, rfl, by omega, b, m, k, r2, dep, rfl, by omega, by omega, b3, hm3, nmb, hk, fun H4 v d r4 c4 f4 b4 hm4 hd4 no4 ly4 hc4 hr4 => ?_⟩
        have hl4 := f4 l _ nlb nlm hl3
        have hds4 := daAll_fr2 hno hds3 f4 hm3 nmb
        refine ⟨l, _, _, rfl, rfl, hl4, ?_, xs ++ [v], ds ++ [d], r4, c1 + (1 + c4), _, rfl, ?_, b4.upd nlb, ?_, upd_same, ?_, noLAll_snoc hno no4, ?_, ?_, by omega, by rw [List.length_append]; show xs.length + 1 ≤ _; omega⟩
        · exact Nat.lt_of_le_of_lt (by omega : _ ≤ 1000) (by decide)
        · intro a o n1 n2 ha
          have nal : a ≠ l := ne_of_none ha nl
          rw [upd_ne nal]
          exact (f2.trans (f3.trans f4)) a o n1 n2 ha
        · show _ = _
          rw [upd_ne nlm.symm]
          exact hm4
        · have eD : hide b H4 l = some (.lst xs) := hide_get nlb hl4
          exact dpAll_append (dpAll_keepL hide_upd eD _ _ hno hds4) (.cons (dp_keepL hide_upd eD _ _ no4 hd4) .nil)
        · intro x mx
          rcases List.mem_append.mp mx with mx | mx
          · exact hly x mx
          · rw [List.mem_singleton.mp mx]; exact ly4
        · obtain ⟨n', rfl⟩ : ∃ n', n = n' + 1 := ⟨n - 1, by omega⟩
          rw [bodyN_tup] at hc1 ⊢
          rw [List.map_append]
          show sumO (ds.map (stN k n') ++ [stN k n' d]) = _
          rw [sumO_snoc, hc1]
          have e4 : stN k n' d = some (1 + c4) := hc4
          rw [e4]
          rfl
      · rw [decide_eq_false c5]
        exact iteF keep
    · rw [decide_eq_false c0]
      exact iteF (iteF keep)
  · rintro σ H2 ⟨xs, ds, r1, c1, s6, rfl, f2, b2, hm2, hl2, hds, hno, hly, hc1, hrc, hxl⟩
    refine ⟨_, rfl, l, _, rfl, .inl ⟨SqL.of hl2, fun t nt => ?_⟩⟩
    have g : Fr b H2 (upd H2 t (.tup xs)) := Fr.of (same_new nt _)
    refine q _ _ (.tuple ds) r1 c1 (f2.trans g.two) (b2.keep (same_new nt _)) (same_new nt _ _ _ hm2) (da_tup (b2.ne nt).symm upd_same (dpAll_mono (hide_mono g) _ _ hds)) ?_ (lay_tuple hly) hc1 hrc
    simp only [noL]
    exact hno
theorem scStmt : FnScope ["_law_bag_here", "_law_kind_here", "_law_room", "_law_depth", "_law_way", "_law_condition_here", "_law_first"] ["_law_bag_here", "_law_kind_here", "_law_room", "_law_depth"] (defScope sStmt) := ⟨rfl, rfl, rfl, by decide +kernel, rfl, by decide +kernel, by decide +kernel⟩
theorem ok_stmt {f : Addr} {fd : FuncData} {lv n : Nat} (hlv : 4 ≤ lv) (F : Fun K "_law_statement" "_law_statement" sStmt f fd) (CD : Cal P w K mg base 1 "_law_draw" ["_law_bag_here", "_law_many"] spDraw) (CM : Cal P w K mg base 4 "_law_simple" ["_law_bag_here", "_law_kind_here"] (spSimple K)) (CC : Cal P w K mg base 3 "_law_condition" ["_law_bag_here"] (spCondL K))
    (CB : Cal P w K mg base lv "_law_body" ["_law_bag_here", "_law_kind_here", "_law_room", "_law_depth", "_law_most"] (spBody K n)) :
    FnOk P w K mg base CX0 (lv + 1) f fd ["_law_bag_here", "_law_kind_here", "_law_room", "_law_depth"] (spStmt K n) := by
  refine F.ok scStmt (fun vs H Q E h => ?_) (fun cdv A outer s H vs Q E hr h => ?_)
  · obtain ⟨b, m, k, r, dep, rfl, _⟩ := h
    rfl
  obtain ⟨b, m, k, r, dep, rfl, hdep, hn, hb, hm, nmb, hk, q⟩ := h
  have hr1 : Room 1 _ := hr.mono (by omega)
  have hr3 : Room 3 _ := hr.mono (by omega)
  have hr4 : Room 4 _ := hr.mono (by omega)
  refine ⟨_, pss_cons (ps_set (i := 4) scStmt.nd rfl (.inl rfl) (pe_call CD.G hr1 rfl CD.m CD.kp CD.b .nil pass0 (pa_cons (pv 0) (pa_cons pe_int pa_nil))))
    (pss_cons (ps_if (pt_cmpR op_gt (pv 4) pe_int (nomark _)) (pss_one (ps_ret (pe_call CM.G hr4 rfl CM.m CM.kp CM.b .nil pass0 (pa_cons (pv 0) (pa_cons (pv 1) pa_nil))))) pss_nil)
    (pss_cons (ps_set (i := 5) scStmt.nd rfl (.inl rfl) (pe_call CC.G hr3 rfl CC.m CC.kp CC.b .nil pass0 (pa_cons (pv 0) pa_nil)))
    (pss_cons (ps_set (i := 6) scStmt.nd rfl (.inl rfl) (pe_call CB.G hr rfl CB.m CB.kp CB.b .nil pass0 (pa_cons (pv 0) (pa_cons (pv 1) (pa_cons (pv 2) (pa_cons (pe_op op_add (pv 3) pe_int) (pa_cons pe_int pa_nil)))))))
    (pss_cons (ps_if (pt_cmpR op_eq (pv 4) pe_int (nomark _)) (pss_one (ps_ret (pe_tup (pa_cons pe_str (pa_cons (pv 5) (pa_cons (pv 6) pa_nil)))))) pss_nil)
    (pss_one (ps_ret (pe_tup (pa_cons pe_str (pa_cons (pv 5) (pa_cons (pv 6) (pa_cons (pe_call CB.G hr rfl CB.m CB.kp CB.b .nil pass0 (pa_cons (pv 0) (pa_cons (pv 1) (pa_cons (pv 2) (pa_cons (pe_op op_add (pv 3) pe_int) (pa_cons (pe_op op_mul pe_int (pe_op op_sub (pv 4) pe_int)) pa_nil)))))) pa_nil))))))))))), ?_⟩
  refine ⟨_, rfl, b, 7, rfl, hb, by decide, by decide, fun H1 wy f1 b1 w0 w1 => ⟨_, rfl, _, _, rfl, rfl, _, rfl, ?_⟩⟩
  have hm1 : Rm H1 m r := f1 m _ nmb hm
  refine ite2 (fun c => ?_) (fun c => ?_)
  · refine ⟨_, rfl, _, rfl, b, k, rfl, b1, hk, fun H2 v d f2 b2 hd hp hl => ?_⟩
    exact q _ _ d r 0 (f1.trans f2).two b2 (f2 m _ nmb hm1) hd (plain_noL hp) hl (by rw [stN_plain hp]) rfl
  have c' : ¬ (2 : Int) < wy := of_decide_eq_false (Bool.eq_false_iff.mpr c)
  refine ⟨_, rfl, b, rfl, b1, fun H2 v2 d2 f2 b2 hd2 hc2 l2 => ?_⟩
  have hm2 : Rm H2 m r := f2 m _ nmb hm1
  refine ⟨_, rfl, _, rfl, _, rfl, _, rfl, _, _, rfl, rfl, b, m, k, r, _, _, rfl, by omega, by omega, b2, hm2, nmb, hk, by decide, fun H3 v3 d3 r3 c3 f3 b3 hm3 hd3 no3 l3 hb3 hr3' => ?_⟩
  have hd2' : Da K b H3 v2 d2 := da_fr2 (cond_noL hc2) hd2 f3 hm2 nmb
  have f13 : Fr2 b m H H3 := (f1.two).trans ((f2.two).trans f3)
  refine ⟨_, rfl, rfl, _, rfl, ite2 (fun c => ?_) (fun c => ?_)⟩
  · refine ⟨_, rfl, _, rfl, (by show 3 ≤ sizeLine; decide), fun t nt => ?_⟩
    have g : Fr b H3 (upd H3 t (.tup [.str "while", v2, v3])) := Fr.of (same_new nt _)
    refine q _ _ (.tuple [.str "while", d2, d3]) r3 c3 (f13.trans g.two) (b3.keep (same_new nt _)) (same_new nt _ _ _ hm3) (da_tup (b3.ne nt).symm upd_same (.cons (.str _) (.cons (hd2'.fr g) (.cons (hd3.fr g) .nil)))) ?_ (lay3 (lay_str (by decide +kernel)) l2 l3) ?_ hr3'
    · simp only [noL, noLAll, cond_noL hc2, no3]
      rfl
    · unfold stN
      have e : isOut (.tuple (.str "while" :: [d2, d3])) k = true := out_while.trans hc2
      rw [if_pos e, bods_while]
      simp only [List.drop_succ_cons, List.drop_zero, List.map_cons, List.map_nil, sumO, addO_zero, hb3]
      rfl
  · refine ⟨_, rfl, _, rfl, _, rfl, _, rfl, _, rfl, _, rfl, _, _, rfl, rfl, _, rfl, _, _, rfl, rfl, _, _, rfl, rfl, .inl (by decide), b, m, k, r3, _, _, rfl, by omega, by omega, b3, hm3, nmb, hk, by omega, fun H4 v4 d4 r4 c4 f4 b4 hm4 hd4 no4 l4 hb4 hr4' => ⟨(by show 4 ≤ sizeLine; decide), fun t nt => ?_⟩⟩
    have hd2'' : Da K b H4 v2 d2 := da_fr2 (cond_noL hc2) hd2' f4 hm3 nmb
    have hd3' : Da K b H4 v3 d3 := da_fr2 no3 hd3 f4 hm3 nmb
    have g : Fr b H4 (upd H4 t (.tup [.str "if", v2, v3, v4])) := Fr.of (same_new nt _)
    refine q _ _ (.tuple [.str "if", d2, d3, d4]) r4 (c3 + c4) (f13.trans (f4.trans g.two)) (b4.keep (same_new nt _)) (same_new nt _ _ _ hm4) (da_tup (b4.ne nt).symm upd_same (.cons (.str _) (.cons (hd2''.fr g) (.cons (hd3'.fr g) (.cons (hd4.fr g) .nil))))) ?_ (lay4 (lay_str (by decide +kernel)) l2 l3 l4) ?_ (by omega)
    · simp only [noL, noLAll, cond_noL hc2, no3, no4]
      rfl
    · unfold stN
      have e : isOut (.tuple (.str "if" :: [d2, d3, d4])) k = true := out_if.trans hc2
      rw [if_pos e, bods_if]
      simp only [List.drop_succ_cons, List.drop_zero, List.map_cons, List.map_nil, sumO, addO_zero, hb3, hb4]
      rfl
theorem none_stmt {f : Addr} {fd : FuncData} (lv : Nat) : FnOk P w K mg base CX0 lv f fd ["_law_bag_here", "_law_kind_here", "_law_room", "_law_depth"] (fun vs H Q E => 0 ≠ 0 ∧ spStmt K (0 - 1) vs H Q E) :=
  ⟨fun vs H Q E h => absurd rfl h.1, fun A outer s H args us vs Q E _ _ _ _ h => absurd rfl h.1⟩
theorem both {f g : Addr} {fd gd : FuncData} (FB : Fun K "_law_body" "_law_body" sBody f fd) (bB : Binds K fd ["_law_bag_here", "_law_kind_here", "_law_room", "_law_depth", "_law_most"] []) (mB : mg "_law_body" = some (.ref f))
    (FS : Fun K "_law_statement" "_law_statement" sStmt g gd) (bS : Binds K gd ["_law_bag_here", "_law_kind_here", "_law_room", "_law_depth"] []) (mS : mg "_law_statement" = some (.ref g)) (T : Gs K mg) (T2 : G2 mg)
    (CD : Cal P w K mg base 1 "_law_draw" ["_law_bag_here", "_law_many"] spDraw) (CM : Cal P w K mg base 4 "_law_simple" ["_law_bag_here", "_law_kind_here"] (spSimple K)) (CC : Cal P w K mg base 3 "_law_condition" ["_law_bag_here"] (spCondL K)) :
    ∀ n : Nat, FnOk P w K mg base CX0 (5 + 2 * n) f fd ["_law_bag_here", "_law_kind_here", "_law_room", "_law_depth", "_law_most"] (spBody K n)
  | 0 => ok_body (lv := 4) (by decide) FB T T2 CD ⟨g, gd, none_stmt 4, bS, FS.kp, mS⟩
  | n + 1 => by
    have ih := both FB bB mB FS bS mS T T2 CD CM CC n
    have st := ok_stmt (lv := 5 + 2 * n) (n := n) (by omega) FS CD CM CC ⟨f, fd, ih, bB, FB.kp, mB⟩
    have st2 : FnOk P w K mg base CX0 (5 + 2 * n + 1) g gd ["_law_bag_here", "_law_kind_here", "_law_room", "_law_depth"] (fun vs H Q E => n + 1 ≠ 0 ∧ spStmt K (n + 1 - 1) vs H Q E) :=
      ⟨fun vs H Q E h => st.len vs H Q E h.2, fun A outer s H args us vs Q E h1 h2 h3 h4 h => st.run A outer s H args us vs Q E h1 h2 h3 h4 h.2⟩
    exact ok_body (lv := 5 + 2 * n + 1) (n := n + 1) (by omega) FB T T2 CD ⟨g, gd, st2, bS, FS.kp, mS⟩
def spProgL (K : PySem.W.Frag) : Sp := fun vs H Q _ => ∃ (b : Addr) (k : Str), vs = [.ref b, .str k, .int 24] ∧ Bag H b ∧ (k = "teller" ∨ k = "collector") ∧
  ∀ H' t v d, Fr b H H' → Bag H' b → H' t = some (.tup [.str k, v]) → t ≠ b → Da K b H' v d → isProg (.tuple [.str k, d]) = true → Lay d → noL d = true → Q (.ref t) H'
theorem scProgL : FnScope ["_law_bag_here", "_law_kind_here", "_law_most", "_law_room"] ["_law_bag_here", "_law_kind_here", "_law_most"] (defScope sProgL) := ⟨rfl, rfl, rfl, by decide +kernel, rfl, by decide +kernel, by decide +kernel⟩
theorem ok_progL {f : Addr} {fd : FuncData} (F : Fun K "_law_program" "_law_program" sProgL f fd) (CD : Cal P w K mg base 1 "_law_draw" ["_law_bag_here", "_law_many"] spDraw) (CB : Cal P w K mg base 13 "_law_body" ["_law_bag_here", "_law_kind_here", "_law_room", "_law_depth", "_law_most"] (spBody K 4)) :
    FnOk P w K mg base CX0 14 f fd ["_law_bag_here", "_law_kind_here", "_law_most"] (spProgL K) := by
  refine F.ok scProgL (fun vs H Q E h => ?_) (fun cdv A outer s H vs Q E hr h => ?_)
  · obtain ⟨b, k, rfl, _⟩ := h
    rfl
  obtain ⟨b, k, rfl, hb, hk, q⟩ := h
  have hr1 : Room 1 _ := hr.mono (by decide)
  refine ⟨_, pss_cons (ps_set (i := 3) scProgL.nd rfl (.inl rfl) (pe_lst (pa_cons (pe_call CD.G hr1 rfl CD.m CD.kp CD.b .nil pass0 (pa_cons (pv 0) (pa_cons (pe_op op_add (pv 2) pe_int) pa_nil))) pa_nil)))
    (pss_one (ps_ret (pe_tup (pa_cons (pv 1) (pa_cons (pe_call CB.G hr rfl CB.m CB.kp CB.b .nil pass0 (pa_cons (pv 0) (pa_cons (pv 1) (pa_cons (pv 3) (pa_cons pe_int (pa_cons (pe_ix ix_list (pe_lst (pa_cons pe_int (pa_cons (pe_op op_add (pv 2) pe_int) pa_nil))) (pe_call CD.G hr1 rfl CD.m CD.kp CD.b .nil pass0 (pa_cons (pv 0) (pa_cons pe_int pa_nil))) (fun _ _ => rfl)) pa_nil)))))) pa_nil))))), ?_⟩
  refine ⟨_, rfl, _, rfl, _, _, rfl, rfl, b, _, rfl, hb, by decide, by decide, fun H1 r f1 b1 r0 r1 => ⟨(by show 1 ≤ sizeLine; decide), fun m nm => ?_⟩⟩
  obtain ⟨rn, rfl⟩ : ∃ rn : Nat, r = rn := ⟨r.toNat, by omega⟩
  have nmb : m ≠ b := (b1.ne nm).symm
  have b2 := b1.keep (same_new nm (.lst [.int (rn : Nat)]))
  have g2 : Fr b H1 (upd H1 m (.lst [.int (rn : Nat)])) := Fr.of (same_new nm _)
  have hm2 : Rm (upd H1 m (.lst [.int (rn : Nat)])) m rn := upd_same
  generalize upd H1 m (.lst [.int (rn : Nat)]) = H2 at b2 g2 hm2 ⊢
  refine ⟨_, rfl, _, rfl, _, rfl, _, rfl, _, rfl, _, _, rfl, rfl, (by show 2 ≤ sizeLine; decide), fun l nl => ?_⟩
  have nlb : l ≠ b := (b2.ne nl).symm
  have b3 := b2.keep (same_new nl (.lst [.int 7, .int (24 + 1)]))
  refine ⟨_, rfl, b, 2, rfl, b3, by decide, by decide, fun H4 r4 f4 b4 r40 r41 => ?_⟩
  have hm4 : Rm H4 m rn := f4 m _ nmb (same_new nl _ _ _ hm2)
  obtain ⟨x, hx, hc⟩ := at2 (x := V.int 7) (y := V.int (24 + 1)) r40 r41
  refine ⟨l, _, _, _, rfl, rfl, SqL.of (f4 l _ nlb upd_same), hx, ?_⟩
  obtain ⟨mo, rfl, hmo⟩ : ∃ mo : Int, x = .int mo ∧ mo < 1000 := by
    rcases hc with rfl | rfl
    · exact ⟨_, rfl, by decide⟩
    · exact ⟨_, rfl, by decide⟩
  refine ⟨b, m, k, rn, 1, mo, rfl, by decide, by decide, b4, hm4, nmb, hk, hmo, fun H5 v d r5 c5 f5 b5 hm5 hd5 no5 ly5 hc5 hr5 => ⟨(by show 2 ≤ sizeLine; decide), fun t nt => ?_⟩⟩
  have g6 : Fr b H5 (upd H5 t (.tup [.str k, v])) := Fr.of (same_new nt _)
  have fr : Fr b H (upd H5 t (.tup [.str k, v])) := by
    intro a o n1 ha
    have ha1 := f1 a o n1 ha
    have nam : a ≠ m := ne_of_none ha1 nm
    exact g6 a o n1 (f5 a o n1 nam (f4 a o n1 (same_new nl _ _ _ (g2 a o n1 ha1))))
  refine q _ _ _ d fr (b5.keep (same_new nt _)) upd_same (b5.ne nt).symm (hd5.fr g6) ?_ ly5 no5
  show (inS (.str k) kinds && okN 0 (bodyN k 4 d)) = true
  rw [kinds_in hk, hc5]
  exact decide_eq_true (by omega)
end
abbrev sWhole : Stmt := top 54
section
variable {X : Cx}
def rInSL (K : PySem.W.Frag) (neg : Bool) : R2 := fun x y H Q => ∃ (d : PyData) (zs : List Str) (p : Addr), y = .ref p ∧ Dp K H x d ∧ d.canLay0 = true ∧ H p = some (.lst (zs.map V.str)) ∧ zs.all PyData.strOk = true ∧
  Q (.bl (if neg then !inS d zs else inS d zs)) H
theorem op_inSL (hu : X.A.units + 65 < cLine) : OpR X (compareOp .In) (rInSL X.K false) := by
  intro pins s σ H x y v u Q I rx ry h
  obtain ⟨d, zs, p, rfl, hd, ld, hz, oz, q⟩ := h
  obtain ⟨as, r1⟩ := Dp.reads I d x v hd rx
  obtain ⟨bs, r2⟩ := Dp.reads I (.list (zs.map PyData.str)) (.ref p) u (.lst (SqL.of hz) (dp_strs zs)) ry
  refine SeqAt.in_list_reads r2 r1 (lay_strs zs oz) ld ?_ ⟨.bl _, H, I, rfl, ?_⟩
  · rw [depth_strs]
    have := Nat.min_le_left 0 d.depth
    omega
  · rw [any_strs]; exact q
theorem op_notInSL (hu : X.A.units + 65 < cLine) : OpR X (compareOp .NotIn) (rInSL X.K true) := by
  intro pins s σ H x y v u Q I rx ry h
  obtain ⟨d, zs, p, rfl, hd, ld, hz, oz, q⟩ := h
  obtain ⟨as, r1⟩ := Dp.reads I d x v hd rx
  obtain ⟨bs, r2⟩ := Dp.reads I (.list (zs.map PyData.str)) (.ref p) u (.lst (SqL.of hz) (dp_strs zs)) ry
  refine SeqAt.notIn_list_reads r2 r1 (lay_strs zs oz) ld ?_ ⟨.bl _, H, I, rfl, ?_⟩
  · rw [depth_strs]
    have := Nat.min_le_left 0 d.depth
    omega
  · rw [any_strs]; exact q
end
def isInt (d : PyData) : Bool := match d with | .int _ => true | _ => false
def spL1 (f : PyData → Bool) (K : PySem.W.Frag) : Sp := fun vs H Q _ => ∃ (v : V) (d : PyData), vs = [v] ∧ Dp K H v d ∧ Lay d ∧ ∀ H', Same H H' → Q (.bl (f d)) H'
theorem isT_int {d : PyData} : (isT d "int" && !isT d "bool") = isInt d := by cases d <;> rfl
section
variable {P : Program} {w : World} {K : PySem.W.Frag} {mg : Str → Option Value} {base : Heap}
theorem scWhole : FnScope ["_law_thing"] ["_law_thing"] (defScope sWhole) := ⟨rfl, rfl, rfl, by decide +kernel, rfl, by decide +kernel, by decide +kernel⟩
theorem ok_whole {f : Addr} {fd : FuncData} (F : Fun K "_law_whole" "_law_whole" sWhole f fd) (T : Gs K mg) : FnOk P w K mg base CX0 1 f fd ["_law_thing"] (spL1 isInt K) := by
  refine F.ok scWhole (fun vs H Q E h => ?_) (fun cdv A outer s H vs Q E hr h => ?_)
  · obtain ⟨v, d, rfl, _⟩ := h
    rfl
  obtain ⟨v, d, rfl, hd, ld, q⟩ := h
  refine ⟨_, pss_one (ps_ret (pe_and (pe_callB call_isi (by rfl) T.isi (by decide +kernel) (pa_cons (pv 0) (pa_cons (pe_bltn (v := .ty "int") (by rfl) T.int (by decide +kernel) rfl) pa_nil)))
    (pe_one (pe_not (pe_callB call_isi (by rfl) T.isi (by decide +kernel) (pa_cons (pv 0) (pa_cons (pe_bltn (v := .ty "bool") (by rfl) T.bool (by decide +kernel) rfl) pa_nil))))))), ?_⟩
  refine ⟨_, rfl, v, .ty "int", _, _, _, rfl, .ty _, dp_ty hd, kit_isT d (by simp) (dp_nd hd), _, rfl, ?_⟩
  refine and_one (e := !isT d "bool") (fun Q' q' => ⟨_, rfl, v, .ty "bool", _, _, _, rfl, .ty _, dp_ty hd, kit_isT d (by simp) (dp_nd hd), _, rfl, q'⟩) ?_
  rw [isT_int]
  exact q H (Same.refl H)
def isVar (d : PyData) : Bool := inS d vars
theorem dp_three {H : Hp} {xs : List V} {ds : List PyData} (h : DpAll K H xs ds) (l : ds.length = 3) : ∃ x0 x1 x2 d0 d1 d2, xs = [x0, x1, x2] ∧ ds = [d0, d1, d2] ∧ Dp K H x0 d0 ∧ Dp K H x1 d1 ∧ Dp K H x2 d2 := by
  match ds, l, h with
  | [d0, d1, d2], _, .cons (v := x0) h0 (.cons (v := x1) h1 (.cons (v := x2) h2 .nil)) => exact ⟨x0, x1, x2, d0, d1, d2, rfl, rfl, h0, h1, h2⟩
end
theorem strT {z : Str} {A B : Prop} (h : A) : if decide (V.str z = V.str z) = true then A else B := by
  rw [if_pos (decide_eq_true rfl)]; exact h
theorem strF {z y : Str} {A B : Prop} (n : ¬ z = y) (h : B) : if decide (V.str z = V.str y) = true then A else B := by
  rw [if_neg (by intro c; have c' := of_decide_eq_true c; injection c' with c''; exact n c'')]; exact h
def lenOf (z : Str) : Int := if z = "set" then 2 else if z = "add" then 2 else if z = "wait" then 1 else if z = "ask" then 3 else if z = "answer" then 1 else if z = "grow" then 1 else if z = "list" then 1 else -1
def kv7 : List (Key × V) := [(.inr "set", .int 2), (.inr "add", .int 2), (.inr "wait", .int 1), (.inr "ask", .int 3), (.inr "answer", .int 1), (.inr "grow", .int 1), (.inr "list", .int 1)]
theorem merge7 : mergeK [] kv7 = kv7 := by decide +kernel
theorem valV_eq {k : Key} {v : V} {r : List (Key × V)} : valV ((k, v) :: r) k = some v := by
  unfold valV; rw [List.find?_cons_of_pos (by exact decide_eq_true rfl)]; rfl
theorem valV_ne {z x : Str} {v : V} {r : List (Key × V)} (n : ¬ z = x) : valV (((Sum.inr x : Key), v) :: r) (Sum.inr z) = valV r (Sum.inr z) := by
  unfold valV; rw [List.find?_cons_of_neg (by intro c; have c' := of_decide_eq_true c; injection c' with c''; exact n c''.symm)]
theorem get7 (z : Str) : (valV kv7 (.inr z)).getD (.int (-1)) = .int (lenOf z) := by
  unfold kv7 lenOf
  by_cases h1 : z = "set"
  · subst h1; rw [valV_eq, if_pos rfl]; rfl
  rw [valV_ne h1, if_neg h1]
  by_cases h2 : z = "add"
  · subst h2; rw [valV_eq, if_pos rfl]; rfl
  rw [valV_ne h2, if_neg h2]
  by_cases h3 : z = "wait"
  · subst h3; rw [valV_eq, if_pos rfl]; rfl
  rw [valV_ne h3, if_neg h3]
  by_cases h4 : z = "ask"
  · subst h4; rw [valV_eq, if_pos rfl]; rfl
  rw [valV_ne h4, if_neg h4]
  by_cases h5 : z = "answer"
  · subst h5; rw [valV_eq, if_pos rfl]; rfl
  rw [valV_ne h5, if_neg h5]
  by_cases h6 : z = "grow"
  · subst h6; rw [valV_eq, if_pos rfl]; rfl
  rw [valV_ne h6, if_neg h6]
  by_cases h7 : z = "list"
  · subst h7; rw [valV_eq, if_pos rfl]; rfl
  rw [valV_ne h7, if_neg h7]
  rfl
theorem l_set : lenOf "set" = 2 := by decide +kernel
theorem l_add : lenOf "add" = 2 := by decide +kernel
theorem l_wait : lenOf "wait" = 1 := by decide +kernel
theorem l_answer : lenOf "answer" = 1 := by decide +kernel
theorem l_ask : lenOf "ask" = 3 := by decide +kernel
theorem dp_one {K : PySem.W.Frag} {H : Hp} {xs : List V} {ds : List PyData} (h : DpAll K H xs ds) (l : ds.length = 1) : ∃ x0 d0, xs = [x0] ∧ ds = [d0] ∧ Dp K H x0 d0 := by
  match ds, l, h with
  | [d0], _, .cons (v := x0) h0 .nil => exact ⟨x0, d0, rfl, rfl, h0⟩
theorem plain_len {z k : Str} {ps : List PyData} (hk : k = "teller" ∨ k = "collector") (h : isPlain (.tuple (.str z :: ps)) k = true) : (ps.length : Int) = lenOf z := by
  obtain ⟨z', ps', rs, e, hz, hl, _⟩ := plain_inv h
  injection e with e
  injection e with e1 e2
  injection e1 with e1
  subst e1 e2
  rw [hl]
  unfold rolesZ at hz
  unfold lenOf
  rcases hk with rfl | rfl
  all_goals
    repeat' split at hz
    all_goals first | cases hz | skip
    all_goals (subst_vars; first | decide +kernel | (rename_i h1; revert h1; decide +kernel))
def spSimpleL (K : PySem.W.Frag) : Sp := fun vs H Q _ => ∃ (v : V) (k z : Str) (ps : List PyData), vs = [.str k, v] ∧ Dp K H v (.tuple (.str z :: ps)) ∧ Lay (.tuple (.str z :: ps)) ∧ (k = "teller" ∨ k = "collector") ∧ ∀ H', Same H H' → Q (.bl (isPlain (.tuple (.str z :: ps)) k)) H'
theorem plainE1 {z k r : Str} {p : PyData} (h : rolesZ z k = some [r]) : isPlain (.tuple [.str z, p]) k = isPart p r := by rw [plain_some h]; simp [allParts]
theorem plainE2 {z k r1 r2 : Str} {p1 p2 : PyData} (h : rolesZ z k = some [r1, r2]) : isPlain (.tuple [.str z, p1, p2]) k = (isPart p1 r1 && isPart p2 r2) := by rw [plain_some h]; simp [allParts]
theorem plainE3 {z k r1 r2 r3 : Str} {p1 p2 p3 : PyData} (h : rolesZ z k = some [r1, r2, r3]) : isPlain (.tuple [.str z, p1, p2, p3]) k = (isPart p1 r1 && (isPart p2 r2 && isPart p3 r3)) := by rw [plain_some h]; simp [allParts]
theorem plainE0 {z k : Str} {ps : List PyData} (h : rolesZ z k = none) : isPlain (.tuple (.str z :: ps)) k = false := plain_none (d := .tuple (.str z :: ps)) h
/-- an integer within bounds, asked by the law's words -/
theorem within {lo hi : Int} {K : PySem.W.Frag} {H : Hp} {v : V} {d : PyData} (hd : Dp K H v d) : (isInt d = true → ∃ i, v = .int i ∧ d = .int i) ∧ (isInt d = false → intIn d lo hi = false) := by
  cases hd with
  | int i => exact ⟨fun _ => ⟨i, rfl, rfl⟩, fun h => (nomatch h)⟩
  | _ => exact ⟨fun h => (nomatch h), fun _ => rfl⟩
section
variable {P : Program} {w : World} {K : PySem.W.Frag} {mg : Str → Option Value} {base : Heap}
end
def oV : Option Nat → V
  | some n => .int (n : Nat)
  | none => .non
def oneN (k : Str) : Nat → PyData → Option Nat
  | 0, _ => none
  | n + 1, d => stN k n d
theorem body_oneN (k : Str) (n : Nat) (ss : List PyData) : bodyN k n (.tuple ss) = sumO (ss.map (oneN k n)) := by
  cases n with
  | zero =>
    cases ss with
    | nil => rfl
    | cons s t =>
      show none = _
      simp only [List.map_cons, sumO, oneN, none_addO]
  | succ n => exact bodyN_tup k n ss
theorem flat_oV : ∀ os : List (Option Nat), (os.map oV).all flatV = true
  | [] => rfl
  | o :: r => by
    rw [List.map_cons, List.all_cons, flat_oV r, Bool.and_true]
    cases o <;> rfl
theorem inV_oV : ∀ os : List (Option Nat), inV .non (os.map oV) = os.any (·.isNone)
  | [] => rfl
  | o :: r => by
    have ih := inV_oV r
    unfold inV at ih ⊢
    rw [List.map_cons, List.any_cons, List.any_cons, ih]
    cases o <;> rfl
theorem sumO_any : ∀ {os : List (Option Nat)}, os.any (·.isNone) = true → sumO os = none
  | o :: r, h => by
    rw [List.any_cons, Bool.or_eq_true] at h
    simp only [sumO]
    rcases h with h | h
    · cases o with
      | none => exact none_addO _
      | some _ => cases h
    · rw [sumO_any h, addO_none]
theorem sumO_some : ∀ {os : List (Option Nat)}, os.any (·.isNone) = false → ∃ ns : List Nat, os.map oV = (ns.map (fun n : Nat => (n : Int))).map V.int ∧ sumO os = some ns.sum
  | [], _ => ⟨[], rfl, rfl⟩
  | o :: r, h => by
    rw [List.any_cons, Bool.or_eq_false_iff] at h
    obtain ⟨ns, e1, e2⟩ := sumO_some h.2
    cases o with
    | none => cases h.1
    | some n =>
      refine ⟨n :: ns, ?_, ?_⟩
      · rw [List.map_cons, e1]; rfl
      · simp only [sumO, e2, addO, List.sum_cons]
theorem sum_cast (ns : List Nat) : (ns.map (fun n : Nat => (n : Int))).sum = ((ns.sum : Nat) : Int) := by
  induction ns with
  | nil => rfl
  | cons n r ih => rw [List.map_cons, List.sum_cons, ih, List.sum_cons]; omega
mutual
def wd (m : Nat) : PyData → Bool
  | .tuple xs => decide (xs.length ≤ m) && wdAll m xs
  | .list xs => decide (xs.length ≤ m) && wdAll m xs
  | .none | .bool _ | .int _ | .str _ | .dict _ => true
def wdAll (m : Nat) : List PyData → Bool
  | [] => true
  | x :: xs => wd m x && wdAll m xs
end
mutual
theorem wd_mono {m m' : Nat} (h : m ≤ m') : ∀ d : PyData, wd m d = true → wd m' d = true
  | .none, _ => by simp only [wd]
  | .bool _, _ => by simp only [wd]
  | .int _, _ => by simp only [wd]
  | .str _, _ => by simp only [wd]
  | .dict _, _ => by simp only [wd]
  | .tuple xs, e => by
    simp only [wd, Bool.and_eq_true, decide_eq_true_eq] at e ⊢
    exact ⟨by omega, wdAll_mono h xs e.2⟩
  | .list xs, e => by
    simp only [wd, Bool.and_eq_true, decide_eq_true_eq] at e ⊢
    exact ⟨by omega, wdAll_mono h xs e.2⟩
theorem wdAll_mono {m m' : Nat} (h : m ≤ m') : ∀ ds : List PyData, wdAll m ds = true → wdAll m' ds = true
  | [], _ => by simp only [wdAll]
  | x :: xs, e => by
    simp only [wdAll, Bool.and_eq_true] at e ⊢
    exact ⟨wd_mono h x e.1, wdAll_mono h xs e.2⟩
end
theorem wdAll_iff {m : Nat} : ∀ {ds : List PyData}, wdAll m ds = true ↔ ∀ d ∈ ds, wd m d = true
  | [] => by simp [wdAll]
  | x :: xs => by
    simp only [wdAll, Bool.and_eq_true, wdAll_iff (ds := xs)]
    constructor
    · intro h d md
      rcases List.mem_cons.mp md with e | md
      · rw [e]; exact h.1
      · exact h.2 d md
    · intro h
      exact ⟨h x (by simp), fun d md => h d (List.mem_cons_of_mem _ md)⟩
theorem wd_tup {m : Nat} {ds : List PyData} : wd m (.tuple ds) = true ↔ ds.length ≤ m ∧ ∀ d ∈ ds, wd m d = true := by
  simp only [wd, Bool.and_eq_true, decide_eq_true_eq, wdAll_iff]
theorem wd_of_noDeep {m : Nat} {d : PyData} (h : isT d "tuple" = false) (h2 : noL d = true) : wd m d = true := by
  cases d with
  | tuple xs => cases h
  | list xs => simp [noL] at h2
  | _ => simp only [wd]
theorem part_wd {m : Nat} {p : PyData} {r : Str} (h : isPart p r = true) : wd m p = true := by
  cases p with
  | list xs => unfold isPart at h; repeat' split at h
               all_goals simp [inS, isTerm, intIn] at h
  | tuple xs => unfold isPart at h; repeat' split at h
                all_goals simp [inS, isTerm, intIn] at h
  | _ => simp only [wd]
theorem parts_wd {m : Nat} : ∀ {ps : List PyData} {rs : List Str}, ps.length = rs.length → allParts ps rs = true → wdAll m ps = true
  | [], _, _, _ => by simp only [wdAll]
  | p :: ps, [], l, _ => by simp at l
  | p :: ps, r :: rs, l, h => by
    have h' : isPart p r = true ∧ allParts ps rs = true := by
      simpa [allParts] using h
    simp only [wdAll, Bool.and_eq_true]
    exact ⟨part_wd h'.1, parts_wd (by simpa using l) h'.2⟩
theorem plain_wd {d : PyData} {k : Str} (h : isPlain d k = true) : wd 30 d = true := by
  obtain ⟨z, ps, rs, rfl, hz, hl, hp⟩ := plain_inv h
  have h3 := roles_short hz
  simp only [wd, wdAll, Bool.true_and, Bool.and_eq_true, decide_eq_true_eq, List.length_cons]
  exact ⟨by omega, parts_wd hl hp⟩
theorem cond_wd {d : PyData} (h : isCond d = true) : wd 30 d = true := by
  match d, h with
  | .tuple [x, y, z], h =>
    have h' : (inS x vars && inS y signs && isTerm z) = true := h
    rw [Bool.and_eq_true, Bool.and_eq_true] at h'
    have a1 : wd 30 x = true := part_wd (r := "variable") (by rw [part_variable]; exact h'.1.1)
    have a2 : wd 30 y = true := by
      cases y with
      | list _ => simp [inS] at h'
      | tuple _ => simp [inS] at h'
      | _ => simp only [wd]
    have a3 : wd 30 z = true := part_wd (r := "term") (by rw [part_term]; exact h'.2)
    simp only [wd, wdAll, a1, a2, a3]
    rfl
theorem addO_le {x y : Option Nat} {c : Nat} (h : addO x y = some c) : ∃ a b, x = some a ∧ y = some b ∧ a ≤ c ∧ b ≤ c := by
  cases x with
  | none => rw [none_addO] at h; cases h
  | some a =>
    cases y with
    | none => cases h
    | some b =>
      have e : a + b = c := by injection h
      exact ⟨a, b, rfl, rfl, by omega, by omega⟩
theorem sumO_mem {xs : List (Option Nat)} : ∀ {c : Nat}, sumO xs = some c → ∀ x ∈ xs, ∃ a, x = some a ∧ a ≤ c := by
  induction xs with
  | nil => intro c _ x m; cases m
  | cons y r ih =>
    intro c h x m
    obtain ⟨a, b, e1, e2, l1, l2⟩ := addO_le (show addO y (sumO r) = some c from h)
    rcases List.mem_cons.mp m with rfl | m
    · exact ⟨a, e1, l1⟩
    · obtain ⟨a', e, l⟩ := ih e2 x m
      exact ⟨a', e, by omega⟩
theorem body_wd {k : Str} : ∀ {n c : Nat} {d : PyData}, c ≤ 24 → bodyN k n d = some c → wd 30 d = true
  | 0, c, d, hc, h => by
    match d, h with
    | .tuple [], _ => rfl
  | n + 1, c, d, hc, h => by
    cases ht : isT d "tuple" with
    | false => rw [bodyN_no k _ ht] at h; cases h
    | true =>
      obtain ⟨ss, rfl⟩ := isT_tup ht
      rw [bodyN_tup] at h
      have hl := sumO_ge h
      rw [wd_tup]
      refine ⟨by omega, fun s ms => ?_⟩
      obtain ⟨a, ea, la⟩ := sumO_mem h (stN k n s) (List.mem_map_of_mem ms)
      unfold stN at ea
      split at ea
      · rename_i ho
        obtain ⟨a1, b1, _, e2, _, l2⟩ := addO_le ea
        obtain ⟨z, ps, rfl⟩ := out_word ho
        have hb : ∀ b ∈ bodsOf (.tuple (.str z :: ps)), wd 30 b = true := fun b mb => by
          obtain ⟨x, ex, lx⟩ := sumO_mem e2 _ (List.mem_map_of_mem mb)
          exact body_wd (n := n) (c := x) (by omega) ex
        by_cases h1 : z = "if"
        · subst h1
          rw [out_if] at ho
          rw [bods_if] at hb
          match ps, ho, hb with
          | [c0, b1, b2], ho, hb =>
            have w1 := cond_wd (d := c0) ho
            have w2 := hb b1 (by simp)
            have w3 := hb b2 (by simp)
            simp only [wd, wdAll, w1, w2, w3]
            rfl
        by_cases h2 : z = "while"
        · subst h2
          rw [out_while] at ho
          rw [bods_while] at hb
          match ps, ho, hb with
          | [c0, b1], ho, hb =>
            have w1 := cond_wd (d := c0) ho
            have w2 := hb b1 (by simp)
            simp only [wd, wdAll, w1, w2]
            rfl
        · rw [out_else h1 h2] at ho
          exact plain_wd ho
      · cases ea
theorem prog_wd {d : PyData} (h : isProg d = true) : wd 30 d = true := by
  match d, h with
  | .tuple [.str k, b], h =>
    have h' : (inS (.str k) kinds && okN 0 (bodyN k 4 b)) = true := h
    rw [Bool.and_eq_true] at h'
    cases e : bodyN k 4 b with
    | none => rw [e] at h'; cases h'.2
    | some c =>
      rw [e] at h'
      have hc : 0 + c ≤ 24 := of_decide_eq_true h'.2
      have w := body_wd (by omega) e
      simp only [wd, wdAll, w]
      rfl
def spOne (K : PySem.W.Frag) (n : Nat) : Sp := fun vs H Q _ => ∃ (v : V) (d : PyData) (k : Str) (dep : Int), vs = [.str k, v, .int dep] ∧ dep = 5 - (n : Int) ∧ n ≤ 4 ∧ Dp K H v d ∧ Lay d ∧ wd 31 d = true ∧ (k = "teller" ∨ k = "collector") ∧ ∀ H', Same H H' → Q (oV (oneN k n d)) H'
def spCnt (K : PySem.W.Frag) (n : Nat) : Sp := fun vs H Q _ => ∃ (v : V) (d : PyData) (k : Str) (dep : Int), vs = [.str k, v, .int dep] ∧ dep = 5 - (n : Int) ∧ n ≤ 4 ∧ Dp K H v d ∧ Lay d ∧ wd 31 d = true ∧ (k = "teller" ∨ k = "collector") ∧ ∀ H', Same H H' → Q (oV (bodyN k n d)) H'
section
variable {P : Program} {w : World} {K : PySem.W.Frag} {mg : Str → Option Value} {base : Heap}
theorem oneN_no {k : Str} {n : Nat} {d : PyData} (h : isOut d k = false) : oneN k n d = none := by
  cases n with
  | zero => rfl
  | succ n => show stN k n d = none; unfold stN; rw [if_neg (by rw [h]; decide)]
theorem none_cnt {f : Addr} {fd : FuncData} (lv : Nat) : FnOk P w K mg base CX0 lv f fd ["_law_kind_here", "_law_body_here", "_law_depth"] (fun vs H Q E => 0 ≠ 0 ∧ spCnt K (0 - 1) vs H Q E) :=
  ⟨fun vs H Q E h => absurd rfl h.1, fun A outer s H args us vs Q E _ _ _ _ h => absurd rfl h.1⟩
def spProgC (K : PySem.W.Frag) : Sp := fun vs H Q _ => ∃ (v : V) (d : PyData), vs = [v] ∧ Dp K H v d ∧ Lay d ∧ wd 31 d = true ∧ ∀ H', Same H H' → Q (.bl (isProg d)) H'
end
theorem alloc_tup {K : PySem.W.Frag} {b p : Addr} {H : Hp} {xs : List V} {ds : List PyData} (hb : Bag H b) (np : H p = none) (ha : DpAll K (hide b H) xs ds) :
    Bag (upd H p (.tup xs)) b ∧ Fr b H (upd H p (.tup xs)) ∧ Da K b (upd H p (.tup xs)) (.ref p) (.tuple ds) :=
  ⟨hb.keep (same_new np _), Fr.of (same_new np _), da_tup (hb.ne np).symm upd_same (dpAll_mono (hide_mono (Fr.of (same_new np _))) _ _ ha)⟩
theorem alloc_lst {K : PySem.W.Frag} {b p : Addr} {H : Hp} {xs : List V} {ds : List PyData} (hb : Bag H b) (np : H p = none) (ha : DpAll K (hide b H) xs ds) :
    Bag (upd H p (.lst xs)) b ∧ Fr b H (upd H p (.lst xs)) ∧ Da K b (upd H p (.lst xs)) (.ref p) (.list ds) :=
  ⟨hb.keep (same_new np _), Fr.of (same_new np _), .lst (SqL.of (hide_get (hb.ne np).symm upd_same)) (dpAll_mono (hide_mono (Fr.of (same_new np _))) _ _ ha)⟩
def odd1 : List PyData := [.none, .bool true, .bool false, .int 0, .int 1, .int 2, .int 15, .int 16, .int (-1), .int longest, .int (longest + 1), .str "", .str "a", .str "b", .str "c", .str "==", .str "<=", .str "x", .str "3"]
def odd2 : List PyData := [.tuple [], .list [], .tuple [.str "a"], .tuple [.str "a", .str "==", .int 3], .list [.str "a", .str "==", .int 3], .tuple [.str "set", .str "a", .int 3], .tuple [.str "answer", .int 1], .tuple [.str "list", .str "b"]]
def odd3 : List PyData := [.tuple [.str "wait", .int 0], .tuple [.str "while", .tuple [.str "a", .str "<", .int 3], .tuple []], .tuple [.str "if", .tuple [.str "a", .str "<", .int 3], .tuple []], .str "teller", .str "collector", .str "set"]
theorem odd_ok : (odd1 ++ odd2 ++ odd3).all (fun d => d.canLay0 && wd 30 d) = true := by decide +kernel
theorem odd_mem {d : PyData} (h : d ∈ odd1 ++ odd2 ++ odd3) : Lay d ∧ wd 30 d = true := by
  have e := List.all_eq_true.mp odd_ok d h
  rw [Bool.and_eq_true] at e
  exact e
def vals1 : List V := [.non, .bl true, .bl false, .int 0, .int 1, .int 2, .int 15, .int 16, .int (-1), .int longest, .int (longest + 1), .str "", .str "a", .str "b", .str "c", .str "==", .str "<=", .str "x", .str "3"]
theorem dp_odd1 {K : PySem.W.Frag} {H : Hp} : DpAll K H vals1 odd1 :=
  .cons .non (.cons (.bl _) (.cons (.bl _) (.cons (.int _) (.cons (.int _) (.cons (.int _) (.cons (.int _) (.cons (.int _) (.cons (.int _) (.cons (.int _) (.cons (.int _) (.cons (.str _) (.cons (.str _) (.cons (.str _) (.cons (.str _) (.cons (.str _) (.cons (.str _) (.cons (.str _) (.cons (.str _) .nil))))))))))))))))))
theorem sq_keep {b p : Addr} {H H' : Hp} {o : HO} (f : Fr b H H') (n : p ≠ b) (h : H p = some o) : H' p = some o := f p o n h
def spOdd (K : PySem.W.Frag) : Sp := fun vs H Q _ => ∃ (b : Addr), vs = [.ref b] ∧ Bag H b ∧ ∀ H' v d, Fr b H H' → Bag H' b → Da K b H' v d → Lay d → wd 30 d = true → Q v H'
theorem Da.lift {K : PySem.W.Frag} {b : Addr} {H H' : Hp} {vs : List V} {ds : List PyData} (h : DpAll K (hide b H) vs ds) (x : Fr b H H') : DpAll K (hide b H') vs ds := dpAll_mono (hide_mono x) _ _ h
section
variable {P : Program} {w : World} {K : PySem.W.Frag} {mg : Str → Option Value} {base : Heap}
end
theorem cut_whole {xs : List V} {lo hi : Option Int} (h : HT.sIx xs.length 0 lo = 0 ∧ HT.sIx xs.length xs.length hi = xs.length) : cutV xs lo hi = xs := by
  unfold cutV
  rw [h.1, h.2, List.drop_zero, Nat.sub_zero, List.take_length]
section
variable {X : Cx}
def rSlE (K : PySem.W.Frag) : V → Option Int → Option Int → Hp → VK → Prop := fun x lo hi H Q => ∃ bg a xs, x = .ref a ∧ SqT K (hide bg H) a xs ∧ Bag H bg ∧ ∀ w H', Same H H' → SqT K (hide bg H') w (cutV xs lo hi) → Q (.ref w) H'
theorem sl_tupE : SlR X (rSlE X.K) := by
  intro pins s σ H x v vl vu lo hi sl Q I rx hs pl pu h
  obtain ⟨bg, a, xs, rfl, ha, hB, q⟩ := h
  refine sl_tupA pins s σ H _ v vl vu lo hi sl Q I rx hs pl pu ⟨a, xs, rfl, Same.tup (hide_same _ _) ha, fun hw => ?_, fun _ p np => ?_⟩
  · exact q a H (Same.refl H) (by rw [cut_whole hw]; exact ha)
  · exact q p _ (same_new np _) (SqT.of (hide_get (hB.ne np).symm upd_same))
def rCatH (K : PySem.W.Frag) (bg : Addr) : R2 := fun x y H Q => ∃ a b xs ys, x = .ref a ∧ y = .ref b ∧ SqT K (hide bg H) a xs ∧ SqT K (hide bg H) b ys ∧ xs.length + ys.length ≤ sizeLine ∧ Bag H bg ∧ ∀ w H', Same H H' → SqT K (hide bg H') w (xs ++ ys) → Q (.ref w) H'
theorem op_catH (bg : Addr) : OpR X (binaryOp .Add) (rCatH X.K bg) := by
  intro pins s σ H x y v u Q I rx ry h
  obtain ⟨a, b, xs, ys, rfl, rfl, ha, hb, hz, hB, q⟩ := h
  refine op_catA pins s σ H _ _ v u Q I rx ry ⟨a, b, xs, ys, rfl, rfl, Same.tup (hide_same _ _) ha, Same.tup (hide_same _ _) hb, hz, fun e => ?_, fun _ e => ?_, fun _ _ p np => ?_⟩
  · exact q b H (Same.refl H) (by rw [e]; exact hb)
  · exact q a H (Same.refl H) (by rw [e, List.append_nil]; exact ha)
  · exact q p _ (same_new np _) (SqT.of (hide_get (hB.ne np).symm upd_same))
def rCatE (K : PySem.W.Frag) : R2 := fun x y H Q => ∃ bg, rCatH K bg x y H Q
theorem op_catE : OpR X (binaryOp .Add) (rCatE X.K) := by
  intro pins s σ H x y v u Q I rx ry h
  obtain ⟨bg, h⟩ := h
  exact op_catH bg pins s σ H x y v u Q I rx ry h
end
def spSpoilt (K : PySem.W.Frag) (n : Nat) : Sp := fun vs H Q _ => ∃ (b : Addr) (v : V) (d : PyData), vs = [.ref b, v] ∧ Bag H b ∧ Da K b H v d ∧ Lay d ∧ wd 30 d = true ∧ d.depth ≤ n ∧ ∀ H' v' d', Fr b H H' → Bag H' b → Da K b H' v' d' → Lay d' → wd 31 d' = true → Q v' H'
theorem depth_mem {ds : List PyData} : ∀ {d : PyData}, d ∈ ds → d.depth ≤ PyData.depthAll ds := by
  induction ds with
  | nil => intro d m; cases m
  | cons x r ih =>
    intro d m
    simp only [PyData.depthAll]
    rcases List.mem_cons.mp m with rfl | m
    · omega
    · have := ih m
      omega
theorem depth_tup (ds : List PyData) : (PyData.tuple ds).depth = PyData.depthAll ds + 1 := by simp only [PyData.depth]
theorem depth_all {ds : List PyData} {n : Nat} (h : ∀ d ∈ ds, d.depth ≤ n) : PyData.depthAll ds ≤ n := by
  induction ds with
  | nil => exact Nat.zero_le _
  | cons x r ih =>
    simp only [PyData.depthAll]
    have h1 := h x (by simp)
    have h2 := ih fun d m => h d (List.mem_cons_of_mem _ m)
    omega
section
variable {P : Program} {w : World} {K : PySem.W.Frag} {mg : Str → Option Value} {base : Heap}
theorem none_spoilt {f : Addr} {fd : FuncData} (lv : Nat) : FnOk P w K mg base CX0 lv f fd ["_law_bag_here", "_law_thing"] (fun vs H Q E => 0 ≠ 0 ∧ spSpoilt K (0 - 1) vs H Q E) :=
  ⟨fun vs H Q E h => absurd rfl h.1, fun A outer s H args us vs Q E _ _ _ _ h => absurd rfl h.1⟩
end
theorem part_flat {p : PyData} {r : Str} (h : isPart p r = true) : p.depth = 0 := by
  cases p with
  | list xs => unfold isPart at h; repeat' split at h
               all_goals simp [inS, isTerm, intIn] at h
  | tuple xs => unfold isPart at h; repeat' split at h
                all_goals simp [inS, isTerm, intIn] at h
  | dict xs => unfold isPart at h; repeat' split at h
               all_goals simp [inS, isTerm, intIn] at h
  | _ => simp only [PyData.depth]
theorem inS_flat {d : PyData} {zs : List Str} (h : inS d zs = true) : d.depth = 0 := by
  cases d with
  | list xs => simp [inS] at h
  | tuple xs => simp [inS] at h
  | dict xs => simp [inS] at h
  | _ => simp only [PyData.depth]
theorem parts_flat : ∀ {ps : List PyData} {rs : List Str}, ps.length = rs.length → allParts ps rs = true → PyData.depthAll ps = 0
  | [], _, _, _ => by simp only [PyData.depthAll]
  | p :: ps, [], l, _ => by simp at l
  | p :: ps, r :: rs, l, h => by
    have h' : isPart p r = true ∧ allParts ps rs = true := by
      simpa [allParts] using h
    simp only [PyData.depthAll, part_flat h'.1, parts_flat (by simpa using l) h'.2]
    rfl
theorem plain_depth {d : PyData} {k : Str} (h : isPlain d k = true) : d.depth ≤ 1 := by
  obtain ⟨z, ps, rs, rfl, hz, hl, hp⟩ := plain_inv h
  simp only [PyData.depth, PyData.depthAll, parts_flat hl hp]
  decide
theorem cond_depth {d : PyData} (h : isCond d = true) : d.depth ≤ 1 := by
  match d, h with
  | .tuple [x, y, z], h =>
    have h' : (inS x vars && inS y signs && isTerm z) = true := h
    rw [Bool.and_eq_true, Bool.and_eq_true] at h'
    have a3 : z.depth = 0 := part_flat (r := "term") (by rw [part_term]; exact h'.2)
    simp only [PyData.depth, PyData.depthAll, inS_flat h'.1.1, inS_flat h'.1.2, a3]
    decide
def isNil : PyData → Bool
  | .tuple [] => true
  | _ => false
/-- the three shapes of a statement -/
theorem st_shape {k : Str} {n c : Nat} {s : PyData} (h : stN k n s = some c) :
    (∃ z ps, s = .tuple (.str z :: ps) ∧ ¬ z = "if" ∧ ¬ z = "while" ∧ isPlain s k = true ∧ c = 1) ∨
    (∃ co b c', s = .tuple [.str "while", co, b] ∧ isCond co = true ∧ bodyN k n b = some c' ∧ c = 1 + c') ∨
    (∃ co b1 b2 c1 c2, s = .tuple [.str "if", co, b1, b2] ∧ isCond co = true ∧ bodyN k n b1 = some c1 ∧ bodyN k n b2 = some c2 ∧ c = 1 + (c1 + c2)) := by
  unfold stN at h
  split at h
  · rename_i ho
    obtain ⟨z, ps, rfl⟩ := out_word ho
    by_cases h1 : z = "if"
    · subst h1
      rw [out_if] at ho
      rw [bods_if] at h
      match ps, ho, h with
      | [co, b1, b2], ho, h =>
        simp only [List.drop_succ_cons, List.drop_zero, List.map_cons, List.map_nil, sumO, addO_zero] at h
        cases e1 : bodyN k n b1 with
        | none => rw [e1] at h; simp [addO] at h
        | some c1 =>
          cases e2 : bodyN k n b2 with
          | none => rw [e1, e2] at h; simp [addO] at h
          | some c2 =>
            rw [e1, e2] at h
            have e : 1 + (c1 + c2) = c := by injection h
            exact .inr (.inr ⟨co, b1, b2, c1, c2, rfl, ho, e1, e2, e.symm⟩)
    by_cases h2 : z = "while"
    · subst h2
      rw [out_while] at ho
      rw [bods_while] at h
      match ps, ho, h with
      | [co, b1], ho, h =>
        simp only [List.drop_succ_cons, List.drop_zero, List.map_cons, List.map_nil, sumO, addO_zero] at h
        cases e1 : bodyN k n b1 with
        | none => rw [e1] at h; simp [addO] at h
        | some c1 =>
          rw [e1] at h
          have e : 1 + c1 = c := by injection h
          exact .inr (.inl ⟨co, b1, c1, rfl, ho, e1, e.symm⟩)
    · rw [out_else h1 h2] at ho
      have hp : isPlain (.tuple (.str z :: ps)) k = true := ho
      rw [bods_else h1 h2] at h
      have e : 1 = c := by injection h
      exact .inl ⟨z, ps, rfl, h1, h2, hp, e.symm⟩
  · cases h
theorem body_tuple {k : Str} {n c : Nat} {d : PyData} (h : bodyN k n d = some c) : ∃ ss, d = .tuple ss := by
  cases ht : isT d "tuple" with
  | false => rw [bodyN_no k n ht] at h; cases h
  | true => exact isT_tup ht
theorem sum_le {k : Str} {n c : Nat} {ss : List PyData} (h : bodyN k (n + 1) (.tuple ss) = some c) {s : PyData} (m : s ∈ ss) : ∃ a, stN k n s = some a ∧ a ≤ c := by
  rw [bodyN_tup] at h
  exact sumO_mem h _ (List.mem_map_of_mem m)
theorem noL_mem {ds : List PyData} (h : noLAll ds = true) : ∀ d ∈ ds, noL d = true := by
  induction ds with
  | nil => intro d m; cases m
  | cons x r ih =>
    simp only [noLAll, Bool.and_eq_true] at h
    intro d m
    rcases List.mem_cons.mp m with rfl | m
    · exact h.1
    · exact ih h.2 d m
theorem noL_tup {ds : List PyData} (h : noL (.tuple ds) = true) : noLAll ds = true := by simpa only [noL] using h
theorem noLAll_of {ds : List PyData} (h : ∀ d ∈ ds, noL d = true) : noLAll ds = true := by
  induction ds with
  | nil => rfl
  | cons x r ih =>
    simp only [noLAll, Bool.and_eq_true]
    exact ⟨h x (by simp), ih fun d m => h d (List.mem_cons_of_mem _ m)⟩
theorem body_depth {k : Str} : ∀ {n c : Nat} {d : PyData}, bodyN k n d = some c → d.depth ≤ 2 * n + 1
  | 0, c, d, h => by
    match d, h with
    | .tuple [], _ => simp [PyData.depth, PyData.depthAll]
  | n + 1, c, d, h => by
    cases ht : isT d "tuple" with
    | false => rw [bodyN_no k _ ht] at h; cases h
    | true =>
      obtain ⟨ss, rfl⟩ := isT_tup ht
      rw [bodyN_tup] at h
      rw [depth_tup]
      suffices hs : PyData.depthAll ss ≤ 2 * n + 2 by omega
      refine depth_all fun s ms => ?_
      obtain ⟨a, ea, la⟩ := sumO_mem h (stN k n s) (List.mem_map_of_mem ms)
      unfold stN at ea
      split at ea
      · rename_i ho
        obtain ⟨a1, b1, _, e2, _, l2⟩ := addO_le ea
        obtain ⟨z, ps, rfl⟩ := out_word ho
        have hb : ∀ b ∈ bodsOf (.tuple (.str z :: ps)), b.depth ≤ 2 * n + 1 := fun b mb => by
          obtain ⟨x, ex, lx⟩ := sumO_mem e2 _ (List.mem_map_of_mem mb)
          exact body_depth (n := n) (c := x) ex
        by_cases h1 : z = "if"
        · subst h1
          rw [out_if] at ho
          rw [bods_if] at hb
          match ps, ho, hb with
          | [c0, b1, b2], ho, hb =>
            have w1 := cond_depth (d := c0) ho
            have w2 := hb b1 (by simp)
            have w3 := hb b2 (by simp)
            simp only [PyData.depth, PyData.depthAll]
            omega
        by_cases h2 : z = "while"
        · subst h2
          rw [out_while] at ho
          rw [bods_while] at hb
          match ps, ho, hb with
          | [c0, b1], ho, hb =>
            have w1 := cond_depth (d := c0) ho
            have w2 := hb b1 (by simp)
            simp only [PyData.depth, PyData.depthAll]
            omega
        · rw [out_else h1 h2] at ho
          have := plain_depth ho
          omega
      · cases ea
theorem eqv_nil (ss : List PyData) : PyData.eqv (.tuple ss) (.tuple []) = isNil (.tuple ss) := by
  cases ss <;> simp [PyData.eqv, PyData.eqvAll, isNil]
theorem dp_four {K : PySem.W.Frag} {H : Hp} {xs : List V} {d0 d1 d2 d3 : PyData} (h : DpAll K H xs [d0, d1, d2, d3]) : ∃ x0 x1 x2 x3, xs = [x0, x1, x2, x3] ∧ Dp K H x0 d0 ∧ Dp K H x1 d1 ∧ Dp K H x2 d2 ∧ Dp K H x3 d3 := by
  match h with
  | .cons (v := x0) h0 (.cons (v := x1) h1 (.cons (v := x2) h2 (.cons (v := x3) h3 .nil))) => exact ⟨x0, x1, x2, x3, rfl, h0, h1, h2, h3⟩
abbrev sShow : Stmt := top 29
abbrev sBL : Stmt := top 30
abbrev sSL : Stmt := top 31
abbrev sPL : Stmt := top 32
abbrev sJn : Stmt := top 33
/-- a part of a line as its text -/
def strD : PyData → Str
  | .str z => z
  | .int i => Str.ofString (toString i)
  | _ => Str.empty
def okW (d : PyData) : Prop := (∃ z, d = .str z ∧ z.length ≤ 60) ∨ ∃ i : Int, d = .int i ∧ 0 ≤ i ∧ i ≤ longest
def joinD (ds : List PyData) : Str := Txt.join " " (ds.map strD)
def rStrW : List V → Hp → VK → Prop := fun xs H Q => (∃ z, xs = [.str z] ∧ Q (.str z) H) ∨ ∃ i : Int, xs = [.int i] ∧ i.natAbs.log2 < 1920 ∧ Q (.str (Str.ofString (toString i))) H
theorem call_strW {X : Cx} : CallR X (.type "str") rStrW := by
  intro pins s σ H xs us Q I r h
  rcases h with ⟨z, rfl, q⟩ | ⟨i, rfl, hi, q⟩
  · exact SkE.call_str_str pins s σ H _ us Q I r ⟨z, rfl, q⟩
  · exact call_str_int pins s σ H _ us Q I r ⟨i, rfl, hi, q⟩
theorem wait_log {i : Int} (h0 : 0 ≤ i) (h1 : i ≤ longest) : i.natAbs.log2 < 1920 := by
  have h2 : i.natAbs ≤ 10 ^ 30 := by
    have : longest = 10 ^ 30 := by decide
    omega
  by_cases e : i.natAbs = 0
  · rw [e]; decide
  · exact (Nat.log2_lt e).mpr (Nat.lt_of_le_of_lt h2 (Nat.lt_of_lt_of_le (by decide : 10 ^ 30 < 2 ^ 100) (Nat.pow_le_pow_right (by decide) (by decide))))
theorem rStrW_of {K : PySem.W.Frag} {H H' : Hp} {v : V} {d : PyData} {Q : VK} (hd : Dp K H' v d) (ho : okW d) (q : Q (.str (strD d)) H) : rStrW [v] H Q := by
  rcases ho with ⟨z, rfl, _⟩ | ⟨i, rfl, h0, h1⟩
  · cases hd
    exact .inl ⟨z, rfl, q⟩
  · cases hd
    exact .inr ⟨i, rfl, wait_log h0 h1, q⟩
theorem strD_len {d : PyData} (h : okW d) : (strD d).length ≤ 60 := by
  rcases h with ⟨z, rfl, h⟩ | ⟨i, rfl, h0, h1⟩
  · exact h
  · refine Nat.le_trans (PyProof.Rows.toString_length_le (k := 31) h0 (by decide) ?_) (by decide)
    have : longest = 10 ^ 30 := by decide
    omega
theorem sum_len : ∀ {ds : List PyData}, (∀ d ∈ ds, okW d) → ((ds.map strD).map (·.length)).sum ≤ 60 * ds.length
  | [], _ => by simp
  | d :: r, h => by
    have h1 := strD_len (h d (by simp))
    have h2 := sum_len (ds := r) fun x m => h x (List.mem_cons_of_mem _ m)
    simp only [List.map_cons, List.sum_cons, List.length_cons]
    omega
def spJn (K : PySem.W.Frag) : Sp := fun vs H Q _ => ∃ (v : V) (ds : List PyData), vs = [v] ∧ Dp K H v (.tuple ds) ∧ ds.length ≤ 8 ∧ (∀ d ∈ ds, okW d) ∧ ∀ H', Same H H' → Q (.str (joinD ds)) H'
section
variable {P : Program} {w : World} {K : PySem.W.Frag} {mg : Str → Option Value} {base : Heap}
theorem scJn : FnScope ["parts", "part"] ["parts"] (defScope sJn) := ⟨rfl, rfl, rfl, by decide +kernel, rfl, by decide +kernel, by decide +kernel⟩
theorem ok_Jn {f : Addr} {fd : FuncData} (F : Fun K "joined" "joined" sJn f fd) (T : Gs K mg) : FnOk P w K mg base CX0 1 f fd ["parts"] (spJn K) := by
  refine F.ok scJn (fun vs H Q E h => ?_) (fun cdv A outer s H vs Q E hr h => ?_)
  · obtain ⟨v, ds, rfl, _⟩ := h
    rfl
  obtain ⟨v, ds, rfl, hd, hl8, hw, q⟩ := h
  refine ⟨_, pss_one (ps_ret (pe_join pe_str (pe_lc (own := [("part", 1)]) (g := gName 1) (tt := tYes) rfl scJn.nd (pi_tup (pv 0))
    (blkOk_by (N := ["parts", "part"]) (sc := defScope sJn) (by decide +kernel))
    (fun _ _ _ _ _ => pg_name (i := 1) scJn.nd rfl (.inl rfl)) (fun _ _ _ _ _ => pts_nil)
    (fun _ _ _ _ _ => pe_callTy call_strW (by rfl) T.str (by decide +kernel) (pa_cons (pv 1) pa_nil))))), ?_⟩
  obtain ⟨a, xs, rfl, hs, ha⟩ := dp_tup_inv hd
  have hl := dpAll_len ha
  refine ⟨⟨_, rfl⟩, _, rfl, a, rfl, ⟨_, hs⟩, fun D nD => lc_tup (K := K) (a := a) (xs := xs) (fun i H' => Same H H' ∧ H' D = some (.lst (((ds.take i).map strD).map V.str))) ⟨same_new nD _, upd_same⟩ (fun i H' _ ⟨s1, _⟩ => Same.tup s1 hs) ?_ ?_⟩
  · rintro i x H1 hx ⟨s1, h1⟩
    obtain ⟨di, hdi, hxd⟩ := dpAll_get ha hx
    have mdi := List.mem_of_getElem? hdi
    refine ⟨rfl, ?_⟩
    dsimp only [tYes]
    rw [if_pos rfl]
    refine ⟨_, rfl, ?_⟩
    dsimp only [tNil]
    refine rStrW_of (K := K) hxd (hw _ mdi) ⟨_, h1, ?_, same_upd s1 nD _, ?_⟩
    · rw [List.length_map, List.length_map]
      refine Nat.lt_of_le_of_lt (m := 8) ?_ (by decide)
      exact Nat.le_trans (by rw [List.length_take]; omega) hl8
    · rw [upd_same, take_snoc hdi]
      simp
  · rintro H1 ⟨s1, h1⟩
    rw [hl, List.take_length] at h1
    refine ⟨_, D, ds.map strD, rfl, rfl, .inl (SqL.of h1), ?_, q _ s1⟩
    have := sum_len hw
    have e : (PySem.Str.ofString " ").length = 1 := by decide
    rw [e, List.length_map]
    omega
end
theorem inS_short {d : PyData} {zs : List Str} (h : inS d zs = true) (hz : ∀ z ∈ zs, z.length ≤ 9) : ∃ z, d = .str z ∧ z.length ≤ 9 := by
  cases d with
  | str z =>
    have h' : zs.any (· == z) = true := h
    obtain ⟨y, m, e⟩ := List.any_eq_true.mp h'
    have e' : y = z := by simpa using e
    exact ⟨z, rfl, hz z (e' ▸ m)⟩
  | _ => cases h
def okP (d : PyData) : Prop := (∃ z, d = .str z ∧ z.length ≤ 9) ∨ ∃ i : Int, d = .int i ∧ 0 ≤ i ∧ i ≤ longest
theorem okP_W {d : PyData} (h : okP d) : okW d := by
  rcases h with ⟨z, rfl, h⟩ | h
  · exact .inl ⟨z, rfl, by omega⟩
  · exact .inr h
theorem intIn_okP {d : PyData} {lo hi : Int} (h : intIn d lo hi = true) (h0 : 0 ≤ lo) (h1 : hi ≤ longest) : okP d := by
  cases d with
  | int i =>
    have h' : (decide (lo ≤ i) && decide (i ≤ hi)) = true := h
    rw [Bool.and_eq_true, decide_eq_true_iff, decide_eq_true_iff] at h'
    exact .inr ⟨i, rfl, by omega, by omega⟩
  | _ => cases h
theorem term_okP {d : PyData} (h : isTerm d = true) : okP d := by
  have h' : (inS d vars || intIn d 0 15) = true := h
  rcases Bool.or_eq_true _ _ ▸ h' with h | h
  · exact .inl (inS_short h (by decide))
  · exact intIn_okP h (by decide) (by decide)
theorem part_okP {d : PyData} {r : Str} (h : isPart d r = true) : okP d := by
  unfold isPart at h
  split at h
  · exact .inl (inS_short h (by decide))
  split at h
  · exact term_okP h
  split at h
  · exact .inl (inS_short h (by decide))
  split at h
  · exact intIn_okP h (by decide) (by decide)
  split at h
  · exact intIn_okP h (by decide) (by decide)
  · exact intIn_okP h (by decide) (by decide)
theorem parts_okP : ∀ {ps : List PyData} {rs : List Str}, ps.length = rs.length → allParts ps rs = true → ∀ p ∈ ps, okP p
  | [], _, _, _ => fun p m => nomatch m
  | p :: ps, [], l, _ => by simp at l
  | p :: ps, r :: rs, l, h => by
    have h' : isPart p r = true ∧ allParts ps rs = true := by
      simpa [allParts] using h
    intro x m
    rcases List.mem_cons.mp m with rfl | m
    · exact part_okP h'.1
    · exact parts_okP (by simpa using l) h'.2 x m
theorem word_short {z kind : Str} {rs : List Str} (h : rolesZ z kind = some rs) : z.length ≤ 9 := by
  unfold rolesZ at h
  repeat' split at h
  all_goals first | (subst_vars; decide) | (cases h)
theorem word_ask {kind : Str} {rs : List Str} (h : rolesZ "ask" kind = some rs) : rs = (["sign", "term", "variable"] : List Str) := by
  unfold rolesZ at h
  rw [if_neg (by decide +kernel), if_neg (by decide +kernel), if_neg (by decide +kernel)] at h
  split at h
  · rw [if_pos rfl] at h
    cases h
    rfl
  · rw [if_neg (by decide +kernel), if_neg (by decide +kernel)] at h
    cases h
/-- the middle word of an ask -/
def askW (g : Str) (t : PyData) : PyData := if g = "=" then t else .str ((("x" : Str) ++ g) ++ strD t)
/-- the line of a statement without bodies -/
def plainT (s : PyData) : Str := match s with
  | .tuple [.str z, .str g, t, x] => if z = "ask" then joinD [.str z, askW g t, x] else joinD [.str z, .str g, t, x]
  | .tuple ds => joinD ds
  | _ => Str.empty
theorem plainT_ask {g : Str} {t x : PyData} : plainT (.tuple [.str "ask", .str g, t, x]) = joinD [.str "ask", askW g t, x] := by
  simp [plainT]
theorem plainT_no {z : Str} {ps : List PyData} (h : ¬ z = "ask") : plainT (.tuple (.str z :: ps)) = joinD (.str z :: ps) := by
  unfold plainT
  split
  · rename_i z' g t x e
    injection e with e; injection e with e1 e2; injection e1 with e1
    subst e1
    rw [if_neg h, e2]
  · rename_i e
    injection e with e
    rw [e]
  · rename_i h1 h2
    exact absurd rfl (h2 _)
theorem plain_cases {s : PyData} {k : Str} (h : isPlain s k = true) : (∃ z ps, s = .tuple (.str z :: ps) ∧ ¬ z = "ask" ∧ z.length ≤ 9 ∧ ps.length ≤ 3 ∧ ∀ p ∈ ps, okP p) ∨ ∃ g t x, s = .tuple [.str "ask", .str g, t, x] ∧ g.length ≤ 9 ∧ okP t ∧ okP x := by
  obtain ⟨z, ps, rs, rfl, hz, hl, hp⟩ := plain_inv h
  by_cases c : z = "ask"
  · subst c
    have e := word_ask hz
    subst e
    match ps, hl, hp with
    | [a, b, x], _, hp =>
      have h' : isPart a "sign" = true ∧ isPart b "term" = true ∧ isPart x "variable" = true := by simpa [allParts] using hp
      rw [part_sign] at h'
      obtain ⟨g, rfl, hg⟩ := inS_short h'.1 (by decide)
      exact .inr ⟨g, b, x, rfl, hg, part_okP h'.2.1, part_okP h'.2.2⟩
  · exact .inl ⟨z, ps, rfl, c, word_short hz, by have := roles_short hz; omega, parts_okP hl hp⟩
theorem strD_short {d : PyData} (h : okP d) : (strD d).length ≤ 31 := by
  rcases h with ⟨z, rfl, h⟩ | ⟨i, rfl, h0, h1⟩
  · exact Nat.le_trans h (by decide)
  · refine PyProof.Rows.toString_length_le (k := 31) h0 (by decide) ?_
    have : longest = 10 ^ 30 := by decide
    omega
theorem len_app (a b : Str) : (a ++ b).length = a.length + b.length := by
  show (a.cps ++ b.cps).size = _
  rw [Array.size_append]
  rfl
theorem fmt_of {K : PySem.W.Frag} {H H' : Hp} {v : V} {d : PyData} {R : VK} (hd : Dp K H' v d) (ho : okP d) (q : R (.str (strD d)) H) : (∃ y : Str, v = .str y ∧ y.length ≤ sizeLine ∧ R (.str y) H) ∨ ∃ i : Int, v = .int i ∧ i.natAbs.log2 < 1920 ∧ R (.str (Str.ofString (toString i))) H := by
  rcases ho with ⟨z, rfl, h⟩ | ⟨i, rfl, h0, h1⟩
  · cases hd
    exact .inl ⟨z, rfl, Nat.le_trans h (by decide), q⟩
  · cases hd
    exact .inr ⟨i, rfl, wait_log h0 h1, q⟩
def spPL (K : PySem.W.Frag) : Sp := fun vs H Q _ => ∃ (v : V) (d : PyData) (k : Str), vs = [v] ∧ Dp K H v d ∧ isPlain d k = true ∧ ∀ H', Same H H' → Q (.str (plainT d)) H'
section
variable {P : Program} {w : World} {K : PySem.W.Frag} {mg : Str → Option Value} {base : Heap}
theorem scPL : FnScope ["statement", "word", "sign", "term", "variable"] ["statement"] (defScope sPL) := ⟨rfl, rfl, rfl, by decide +kernel, rfl, by decide +kernel, by decide +kernel⟩
theorem ok_PL {f : Addr} {fd : FuncData} (F : Fun K "plain_line" "plain_line" sPL f fd) (CJ : Cal P w K mg base 1 "joined" ["parts"] (spJn K)) : FnOk P w K mg base CX0 2 f fd ["statement"] (spPL K) := by
  refine F.ok scPL (fun vs H Q E h => ?_) (fun cdv A outer s H vs Q E hr h => ?_)
  · obtain ⟨v, d, k, rfl, _⟩ := h
    rfl
  obtain ⟨v, d, k, rfl, hd, hp, q⟩ := h
  refine ⟨_, pss_cons (ps_if (pt_cmpR op_ne (pe_ix ix_tup (pv 0) pe_int (fun _ _ => rfl)) pe_str (nomark _)) (pss_one (ps_ret (pe_call CJ.G hr rfl CJ.m CJ.kp CJ.b .nil pass0 (pa_cons (pv 0) pa_nil)))) pss_nil)
    (pss_cons (ps_asg (pv 0) (pg_tup (by rfl) (pgs_cons (pg_name (i := 1) scPL.nd rfl (.inl rfl)) (pgs_cons (pg_name (i := 2) scPL.nd rfl (.inl rfl)) (pgs_cons (pg_name (i := 3) scPL.nd rfl (.inl rfl)) (pgs_cons (pg_name (i := 4) scPL.nd rfl (.inl rfl)) pgs_nil))))))
    (pss_one (ps_ret (pe_call CJ.G hr rfl CJ.m CJ.kp CJ.b .nil pass0 (pa_cons (pe_tup (pa_cons (pv 1) (pa_cons (pe_ifExp (pt_cmpR op_eq (pv 2) pe_str (nomark _)) (pv 3) (pe_joined (.cons pe_str (.cons (pe_fmt (pv 2)) (.cons (pe_fmt (pv 3)) .nil))))) (pa_cons (pv 4) pa_nil)))) pa_nil))))), ?_⟩
  rcases plain_cases hp with ⟨z, ps, rfl, hz, lz, lp, hps⟩ | ⟨g, t, x, rfl, lg, ht, hx⟩
  · rw [plainT_no hz] at q
    have hd' := hd
    obtain ⟨a, xs, rfl, hs, ha⟩ := dp_tup_inv hd
    cases ha with
    | cons h0 hr' =>
      cases h0
      refine ⟨_, rfl, a, _, _, _, rfl, rfl, hs, atI_nat (j := 0) rfl, rfl, _, rfl, ?_⟩
      refine ite2 (fun _ => ?_) (fun c => absurd ?_ c)
      · refine ⟨_, rfl, _, _, rfl, hd', by rw [List.length_cons]; omega, ?_, q⟩
        intro d m
        rcases List.mem_cons.mp m with rfl | m
        · exact .inl ⟨z, rfl, by omega⟩
        · exact okP_W (hps d m)
      · rw [decide_eq_false (fun e => hz (by injection e))]
        rfl
  · rw [plainT_ask] at q
    obtain ⟨a, xs, rfl, hs, ha⟩ := dp_tup_inv hd
    obtain ⟨x0, x1, x2, x3, rfl, h0, h1, h2, h3⟩ := dp_four ha
    cases h0
    cases h1
    refine ⟨_, rfl, a, _, _, _, rfl, rfl, hs, atI_nat (j := 0) rfl, rfl, _, rfl, ?_⟩
    refine ite2 (fun c => absurd c ?_) (fun _ => ?_)
    · rw [decide_eq_true rfl]
      decide
    refine ⟨_, rfl, a, _, rfl, hs, rfl, ?_⟩
    refine ⟨_, _, rfl, _, _, rfl, _, _, rfl, _, _, rfl, rfl, ?_⟩
    refine ⟨_, rfl, ?_⟩
    have okA : ∀ d ∈ [PyData.str "ask", askW g t, x], okW d := by
      intro d m
      simp only [List.mem_cons, List.not_mem_nil, or_false] at m
      rcases m with rfl | rfl | rfl
      · exact .inl ⟨_, rfl, by decide⟩
      · unfold askW
        split
        · exact okP_W ht
        · refine .inl ⟨_, rfl, ?_⟩
          have e : (("x" : Str) ++ g ++ strD t).length = 1 + g.length + (strD t).length := by
            rw [len_app, len_app]
            rfl
          have := strD_short ht
          omega
      · exact okP_W hx
    by_cases c : g = "="
    · subst c
      have eA : askW "=" t = t := if_pos rfl
      rw [eA] at q okA
      refine ⟨_, rfl, rfl, _, rfl, strT ?_⟩
      refine ⟨_, rfl, _, rfl, (by show 3 ≤ sizeLine; decide), fun p np => ?_⟩
      have s1 := same_new np (HO.tup [V.str "ask", x2, x3])
      exact ⟨_, _, rfl, .tup (SqT.of upd_same) (.cons (.str _) (.cons (dp_mono s1 _ _ h2) (.cons (dp_mono s1 _ _ h3) .nil))), (by show 3 ≤ 8; decide), okA, fun H' s' => q _ (s1.trans s')⟩
    · have eA : askW g t = .str ((("x" : Str) ++ g) ++ strD t) := if_neg c
      rw [eA] at q okA
      refine ⟨_, rfl, rfl, _, rfl, strF c ?_⟩
      have big : ∀ n : Nat, n ≤ 100 → n ≤ sizeLine := fun n h => Nat.le_trans h (by decide)
      have e0 : Str.empty ++ ("x" : Str) = "x" := by decide +kernel
      have l1 : ("x" : Str).length = 1 := by decide +kernel
      have l2 := strD_short ht
      dsimp only [tJs, tC]
      refine ⟨_, rfl, ?_, ?_⟩
      · rw [e0]; decide +kernel
      rw [e0]
      refine ⟨_, rfl, .inl ⟨g, rfl, big _ (by omega), g, rfl, ?_, ?_⟩⟩
      · rw [len_app, l1]; exact big _ (by omega)
      refine ⟨_, rfl, ?_⟩
      have fin : ∀ y : Str, y = strD t → (("x" : Str) ++ g ++ y).length ≤ sizeLine := by
        rintro y rfl
        rw [len_app, len_app, l1]; exact big _ (by omega)
      have fin2 : ∀ (y : Str) (p : Addr), y = strD t → H p = none → spJn K [V.ref p] (upd H p (HO.tup [V.str "ask", V.str ("x" ++ g ++ y), x3])) Q E0 := by
        rintro y p rfl np
        have s1 := same_new np (HO.tup [V.str "ask", V.str ("x" ++ g ++ strD t), x3])
        exact ⟨_, _, rfl, .tup (SqT.of upd_same) (.cons (.str _) (.cons (.str _) (.cons (dp_mono s1 _ _ h3) .nil))), (by show 3 ≤ 8; decide), okA, fun H' s' => q _ (s1.trans s')⟩
      rcases ht with ⟨z, rfl, hz⟩ | ⟨i, rfl, hi0, hi1⟩
      · cases h2
        exact .inl ⟨z, rfl, big _ (by omega), z, rfl, fin z rfl, _, rfl, (by show 3 ≤ sizeLine; decide), fun p np => fin2 z p rfl np⟩
      · cases h2
        exact .inr ⟨i, rfl, wait_log hi0 hi1, _, rfl, fin _ rfl, _, rfl, (by show 3 ≤ sizeLine; decide), fun p np => fin2 _ p rfl np⟩
end
/-- the line that opens an if or a while -/
def condT (w : Str) (co : PyData) : Str := match co with
  | .tuple ds => joinD (.str w :: ds)
  | _ => Str.empty
def stT (g : PyData → List Str) (s : PyData) : List Str := match s with
  | .tuple [.str z, c, b] => if z = "while" then condT z c :: (g b ++ [("end" : Str)]) else [plainT s]
  | .tuple [.str z, c, b1, b2] => if z = "if" then condT z c :: (g b1 ++ (if isNil b2 = true then [] else ("else" : Str) :: g b2) ++ [("end" : Str)]) else [plainT s]
  | _ => [plainT s]
/-- the lines of a body -/
def bodyT : Nat → PyData → List Str
  | 0, _ => []
  | n + 1, .tuple ss => (ss.map (stT (bodyT n))).flatten
  | _ + 1, _ => []
theorem stT_plain {g : PyData → List Str} {z : Str} {ps : List PyData} (h1 : ¬ z = "if") (h2 : ¬ z = "while") : stT g (.tuple (.str z :: ps)) = [plainT (.tuple (.str z :: ps))] := by
  unfold stT
  split
  · rename_i z' c b e
    injection e with e; injection e with e1 e2; injection e1 with e1
    subst e1
    rw [if_neg h2]
  · rename_i z' c b1 b2 e
    injection e with e; injection e with e1 e2; injection e1 with e1
    subst e1
    rw [if_neg h1]
  · rfl
theorem stT_while {g : PyData → List Str} {c b : PyData} : stT g (.tuple [.str "while", c, b]) = condT "while" c :: (g b ++ [("end" : Str)]) := by
  simp [stT]
theorem stT_if {g : PyData → List Str} {c b1 b2 : PyData} : stT g (.tuple [.str "if", c, b1, b2]) = condT "if" c :: (g b1 ++ (if isNil b2 = true then [] else ("else" : Str) :: g b2) ++ [("end" : Str)]) := by
  simp [stT]
theorem flat_snoc {f : PyData → List Str} {ss : List PyData} {i : Nat} {s : PyData} (h : ss[i]? = some s) : ((ss.take (i + 1)).map f).flatten = ((ss.take i).map f).flatten ++ f s := by
  rw [take_snoc h]
  simp
/-- so many lines, each so long -/
def okT (c : Nat) (ys : List Str) : Prop := ys.length ≤ 3 * c ∧ ∀ y ∈ ys, y.length ≤ 600
theorem glue_len (sep : Str) (hs : sep.length ≤ 1) : ∀ (ys : List Str) (acc : Array Nat), (List.foldl (fun acc (p : Str) => acc ++ sep.cps ++ p.cps) acc ys).size ≤ acc.size + (ys.map (·.length)).sum + ys.length
  | [], acc => by simp
  | y :: r, acc => by
    have ih := glue_len sep hs r (acc ++ sep.cps ++ y.cps)
    rw [List.foldl_cons]
    refine Nat.le_trans ih ?_
    rw [Array.size_append, Array.size_append]
    have e1 : sep.cps.size = sep.length := rfl
    have e2 : y.cps.size = y.length := rfl
    simp only [List.map_cons, List.sum_cons, List.length_cons]
    omega
theorem join_len {ds : List PyData} (h : ∀ d ∈ ds, okW d) (l : ds.length ≤ 8) : (joinD ds).length ≤ 600 := by
  have hs := sum_len h
  have e : (joinD ds).length ≤ ((ds.map strD).map (·.length)).sum + ds.length := by
    show (List.foldl (fun acc (p : Str) => acc ++ (" " : Str).cps ++ p.cps) ((ds.map strD).headD Str.empty).cps (List.drop 1 (ds.map strD))).size ≤ _
    refine Nat.le_trans (glue_len " " (by decide +kernel) _ _) ?_
    cases ds with
    | nil => simp [Str.empty]
    | cons d r =>
      have e2 : (strD d).cps.size = (strD d).length := rfl
      simp only [List.map_cons, List.headD_cons, List.drop_succ_cons, List.drop_zero, List.sum_cons, List.length_cons, List.length_map]
      omega
  omega
theorem plainT_len {d : PyData} {k : Str} (h : isPlain d k = true) : (plainT d).length ≤ 600 := by
  rcases plain_cases h with ⟨z, ps, rfl, hz, lz, lp, hps⟩ | ⟨g, t, x, rfl, lg, ht, hx⟩
  · rw [plainT_no hz]
    refine join_len (fun d m => ?_) (by rw [List.length_cons]; omega)
    rcases List.mem_cons.mp m with rfl | m
    · exact .inl ⟨z, rfl, by omega⟩
    · exact okP_W (hps d m)
  · rw [plainT_ask]
    refine join_len (fun d m => ?_) (by show 3 ≤ 8; decide)
    simp only [List.mem_cons, List.not_mem_nil, or_false] at m
    rcases m with rfl | rfl | rfl
    · exact .inl ⟨_, rfl, by decide⟩
    · unfold askW
      split
      · exact okP_W ht
      · refine .inl ⟨_, rfl, ?_⟩
        have l1 : ("x" : Str).length = 1 := by decide +kernel
        have := strD_short ht
        rw [len_app, len_app, l1]
        omega
    · exact okP_W hx
theorem cond_three {co : PyData} (h : isCond co = true) : ∃ x y z, co = .tuple [x, y, z] ∧ okP x ∧ okP y ∧ okP z := by
  match co, h with
  | .tuple [x, y, z], h =>
    have h' : (inS x vars && inS y signs && isTerm z) = true := h
    rw [Bool.and_eq_true, Bool.and_eq_true] at h'
    exact ⟨x, y, z, rfl, .inl (inS_short h'.1.1 (by decide)), .inl (inS_short h'.1.2 (by decide)), term_okP h'.2⟩
theorem cond_okW {w : Str} {x y z : PyData} (hw : w.length ≤ 9) (h1 : okP x) (h2 : okP y) (h3 : okP z) : ∀ d ∈ [PyData.str w, x, y, z], okW d := by
  intro d m
  simp only [List.mem_cons, List.not_mem_nil, or_false] at m
  rcases m with rfl | rfl | rfl | rfl
  · exact .inl ⟨_, rfl, by omega⟩
  · exact okP_W h1
  · exact okP_W h2
  · exact okP_W h3
theorem condT_len {w : Str} {co : PyData} (hw : w.length ≤ 9) (h : isCond co = true) : (condT w co).length ≤ 600 := by
  obtain ⟨x, y, z, rfl, h1, h2, h3⟩ := cond_three h
  exact join_len (cond_okW hw h1 h2 h3) (by show 4 ≤ 8; decide)
theorem st_okT {k : Str} {n c : Nat} {s : PyData} {g : PyData → List Str} (hg : ∀ d c, bodyN k n d = some c → okT c (g d)) (h : stN k n s = some c) : okT c (stT g s) := by
  have l1 : ("end" : Str).length ≤ 600 := by decide +kernel
  have l2 : ("else" : Str).length ≤ 600 := by decide +kernel
  rcases st_shape h with ⟨z, ps, rfl, h1, h2, hp, rfl⟩ | ⟨co, bb, c', rfl, hco, hb, rfl⟩ | ⟨co, b1, b2, c1, c2, rfl, hco, hb1, hb2, rfl⟩
  · rw [stT_plain h1 h2]
    refine ⟨by show 1 ≤ 3; decide, fun y m => ?_⟩
    rw [List.mem_singleton] at m
    subst m
    exact plainT_len hp
  · rw [stT_while]
    obtain ⟨a1, a2⟩ := hg _ _ hb
    refine ⟨by simp only [List.length_cons, List.length_append, List.length_nil]; omega, fun y m => ?_⟩
    simp only [List.mem_cons, List.mem_append, List.not_mem_nil, or_false] at m
    rcases m with rfl | m | rfl
    · exact condT_len (by decide) hco
    · exact a2 _ m
    · exact l1
  · rw [stT_if]
    obtain ⟨a1, a2⟩ := hg _ _ hb1
    obtain ⟨b1', b2'⟩ := hg _ _ hb2
    have e : okT (c2 + 1) (if isNil b2 = true then [] else ("else" : Str) :: g b2) ∧ (if isNil b2 = true then [] else ("else" : Str) :: g b2).length ≤ 3 * c2 + 1 := by
      split
      · exact ⟨⟨by simp, fun y m => nomatch m⟩, by simp⟩
      · refine ⟨⟨by rw [List.length_cons]; omega, fun y m => ?_⟩, by rw [List.length_cons]; omega⟩
        rcases List.mem_cons.mp m with rfl | m
        · exact l2
        · exact b2' _ m
    obtain ⟨⟨_, e2⟩, e3⟩ := e
    generalize (if isNil b2 = true then [] else ("else" : Str) :: g b2) = w2 at e2 e3 ⊢
    refine ⟨by simp only [List.length_cons, List.length_append, List.length_nil]; omega, fun y m => ?_⟩
    simp only [List.mem_cons, List.mem_append, List.not_mem_nil, or_false] at m
    rcases m with rfl | (m | m) | rfl
    · exact condT_len (by decide) hco
    · exact a2 _ m
    · exact e2 _ m
    · exact l1
theorem flat_okT {k : Str} {n : Nat} {g : PyData → List Str} (hg : ∀ d c, bodyN k n d = some c → okT c (g d)) : ∀ {ss : List PyData} {c : Nat}, sumO (ss.map (stN k n)) = some c → okT c ((ss.map (stT g)).flatten)
  | [], _, _ => ⟨by simp, fun y m => by simp at m⟩
  | s :: r, c, h => by
    simp only [List.map_cons, sumO] at h
    cases e1 : stN k n s with
    | none => rw [e1, none_addO] at h; cases h
    | some a =>
      cases e2 : sumO (r.map (stN k n)) with
      | none => rw [e2, addO_none] at h; cases h
      | some b =>
        rw [e1, e2] at h
        have e : a + b = c := by injection h
        obtain ⟨a1, a2⟩ := st_okT hg e1
        obtain ⟨b1, b2⟩ := flat_okT hg e2
        rw [List.map_cons, List.flatten_cons]
        refine ⟨by rw [List.length_append]; omega, fun y m => ?_⟩
        rcases List.mem_append.mp m with m | m
        · exact a2 _ m
        · exact b2 _ m
theorem body_okT {k : Str} : ∀ (n : Nat) (d : PyData) (c : Nat), bodyN k n d = some c → okT c (bodyT n d)
  | 0, d, c, h => ⟨by simp [bodyT], fun y m => by simp [bodyT] at m⟩
  | n + 1, d, c, h => by
    obtain ⟨ss, rfl⟩ := body_tuple h
    rw [bodyN_tup] at h
    exact flat_okT (body_okT n) h
theorem body_take {k : Str} {n c : Nat} {ss : List PyData} (h : bodyN k (n + 1) (.tuple ss) = some c) (i : Nat) : okT c (bodyT (n + 1) (.tuple (ss.take i))) := by
  have e : ∃ c', bodyN k (n + 1) (.tuple (ss.take i)) = some c' ∧ c' ≤ c := by
    rw [bodyN_tup] at h ⊢
    have e2 : ss = ss.take i ++ ss.drop i := (List.take_append_drop i ss).symm
    rw [e2, List.map_append, sumO_append] at h
    cases e3 : sumO ((ss.take i).map (stN k n)) with
    | none => rw [e3, none_addO] at h; cases h
    | some a =>
      cases e4 : sumO ((ss.drop i).map (stN k n)) with
      | none => rw [e4, addO_none] at h; cases h
      | some b =>
        rw [e3, e4] at h
        have e : a + b = c := by injection h
        exact ⟨a, rfl, by omega⟩
  obtain ⟨c', h1, h2⟩ := e
  obtain ⟨a1, a2⟩ := body_okT (n + 1) _ _ h1
  exact ⟨by omega, a2⟩
def spBL (K : PySem.W.Frag) (n : Nat) : Sp := fun vs H Q _ => ∃ (v : V) (d : PyData) (k : Str) (c : Nat), vs = [v] ∧ Dp K H v d ∧ bodyN k n d = some c ∧ c ≤ 24 ∧
  ∀ H' p, Same H H' → H p = none → H' p = some (.lst ((bodyT n d).map V.str)) → Q (.ref p) H'
def spSL (K : PySem.W.Frag) (n : Nat) : Sp := fun vs H Q _ => ∃ (v : V) (d : PyData) (k : Str) (c : Nat), vs = [v] ∧ Dp K H v d ∧ stN k n d = some c ∧ c ≤ 24 ∧
  ∀ H' p, Same H H' → H p = none → H' p = some (.lst ((stT (bodyT n) d).map V.str)) → Q (.ref p) H'
section
variable {P : Program} {w : World} {K : PySem.W.Frag} {mg : Str → Option Value} {base : Heap}
theorem scBL : FnScope ["body", "lines", "statement"] ["body"] (defScope sBL) := ⟨rfl, rfl, rfl, by decide +kernel, rfl, by decide +kernel, by decide +kernel⟩
theorem ok_BL {f : Addr} {fd : FuncData} {lv n : Nat} (F : Fun K "body_lines" "body_lines" sBL f fd) (CS : Cal P w K mg base lv "statement_lines" ["statement"] (fun vs H Q E => n ≠ 0 ∧ spSL K (n - 1) vs H Q E)) :
    FnOk P w K mg base CX0 (lv + 1) f fd ["body"] (spBL K n) := by
  refine F.ok scBL (fun vs H Q E h => ?_) (fun cdv A outer s H vs Q E hr h => ?_)
  · obtain ⟨v, d, k, c, rfl, _⟩ := h
    rfl
  obtain ⟨v, d, k, c, rfl, hd, hbc, hc, q⟩ := h
  refine ⟨_, pss_cons (ps_set (i := 1) scBL.nd rfl (.inl rfl) (pe_lst pa_nil))
    (pss_cons (ps_for PassesOwn.never rfl (pi_tup (pv 0)) (pg_name (i := 2) scBL.nd rfl (.inl rfl))
      (pss_one (ps_expr (pe_bm PySem.F.plainAttrs_list PySem.F.slot_list_extend PySem.F.type_list_extend mt_extend (pv 1) (pa_cons (pe_call CS.G hr rfl CS.m CS.kp CS.b .nil pass0 (pa_cons (pv 2) pa_nil)) pa_nil)))))
    (pss_one (ps_ret (pv 1)))), ?_⟩
  obtain ⟨ss, rfl⟩ := body_tuple hbc
  obtain ⟨a, xs, rfl, hs, ha⟩ := dp_tup_inv hd
  have hl := dpAll_len ha
  refine ⟨(by show 0 ≤ sizeLine; decide), fun l nl => ?_⟩
  have s0 : Same H (upd H l (.lst [])) := same_new nl _
  refine ⟨_, rfl, a, rfl, ⟨_, Same.tup s0 hs⟩, for_tup (K := K) (a := a) (xs := xs) (fun i σ H' => ∃ (s2 : Option V), σ = [some (.ref a), some (.ref l), s2] ∧ Same H H' ∧ H' l = some (.lst ((bodyT n (.tuple (ss.take i))).map V.str)))
    ⟨none, rfl, s0, by rw [upd_same]; cases n <;> rfl⟩ (fun i σ H' _ ⟨_, _, s1, _⟩ => Same.tup s1 hs) ?_ ?_⟩
  · rintro i x σ H1 hx ⟨s2, rfl, s1, hl1⟩
    obtain ⟨si, hsi, hxd⟩ := dpAll_get ha hx
    have msi := List.mem_of_getElem? hsi
    cases n with
    | zero =>
      cases ss with
      | nil => cases msi
      | cons _ _ => cases hbc
    | succ n =>
      obtain ⟨ai, hai, lai⟩ := sum_le hbc msi
      refine ⟨_, rfl, .inl ⟨rfl, _, SqL.of hl1⟩, _, rfl, by omega, x, si, k, ai, rfl, dp_mono s1 _ _ hxd, hai, by omega, fun H2 p s2' np hp => ?_⟩
      have hp : H2 p = some (.lst ((stT (bodyT n) si).map V.str)) := hp
      have hl2 := s2' _ _ hl1
      have one := body_take hbc (i + 1)
      have esn : bodyT (n + 1) (.tuple (ss.take (i + 1))) = bodyT (n + 1) (.tuple (ss.take i)) ++ stT (bodyT n) si := flat_snoc hsi
      rw [esn] at one
      have ltot := one.1
      rw [List.length_append] at ltot
      refine ⟨l, p, _, _, rfl, rfl, hl2, hp, ?_, _, rfl, same_upd (s1.trans s2') nl _, ?_⟩
      · rw [List.length_map, List.length_map]
        exact Nat.le_of_lt (Nat.lt_of_le_of_lt (by omega : _ ≤ 1000) (by decide))
      · rw [upd_same, esn, List.map_append]
  · rintro σ H1 ⟨s2, rfl, s1, hl1⟩
    rw [hl, List.take_length] at hl1
    exact ⟨_, rfl, q _ _ s1 nl hl1⟩
end
section
variable {P : Program} {w : World} {K : PySem.W.Frag} {mg : Str → Option Value} {base : Heap}
theorem scSL : FnScope ["statement", "bodies", "word", "condition", "lines"] ["statement"] (defScope sSL) := ⟨rfl, rfl, rfl, by decide +kernel, rfl, by decide +kernel, by decide +kernel⟩
theorem ok_SL {f : Addr} {fd : FuncData} {lv n : Nat} (F : Fun K "statement_lines" "statement_lines" sSL f fd) (T : Gs K mg) (hlv : 2 ≤ lv) (CB : Cal P w K mg base 1 "bodies_of" ["statement"] (spBods K)) (CP : Cal P w K mg base 2 "plain_line" ["statement"] (spPL K)) (CJ : Cal P w K mg base 1 "joined" ["parts"] (spJn K)) (CL : Cal P w K mg base lv "body_lines" ["body"] (spBL K n)) :
    FnOk P w K mg base CX0 (lv + 1) f fd ["statement"] (spSL K n) := by
  refine F.ok scSL (fun vs H Q E h => ?_) (fun cdv A outer s H vs Q E hr h => ?_)
  · obtain ⟨v, d, k, c, rfl, _⟩ := h
    rfl
  obtain ⟨v, d, k, c, rfl, hd, hst, hc, q⟩ := h
  have hr2 : Room 2 _ := hr.mono hlv
  have hr1 : Room 1 _ := hr.mono (by omega)
  refine ⟨_, pss_cons (ps_set (i := 1) scSL.nd rfl (.inl rfl) (pe_call CB.G hr1 rfl CB.m CB.kp CB.b .nil pass0 (pa_cons (pv 0) pa_nil)))
    (pss_cons (ps_if (pt_cmpR op_eq (pe_callB call_len_seq (by rfl) T.len PySem.boot_len (pa_cons (pv 1) pa_nil)) pe_int (nomark _)) (pss_one (ps_ret (pe_lst (pa_cons (pe_call CP.G hr2 rfl CP.m CP.kp CP.b .nil pass0 (pa_cons (pv 0) pa_nil)) pa_nil)))) pss_nil)
    (pss_cons (ps_asg (pe_slice sl_tup (pv 0) po_none (po_some pe_int)) (pg_tup (by rfl) (pgs_cons (pg_name (i := 2) scSL.nd rfl (.inl rfl)) (pgs_cons (pg_name (i := 3) scSL.nd rfl (.inl rfl)) pgs_nil))))
    (pss_cons (ps_set (i := 4) scSL.nd rfl (.inl rfl) (pe_lst (pa_cons (pe_call CJ.G hr1 rfl CJ.m CJ.kp CJ.b .nil pass0 (pa_cons (pe_tup (pa_cons (pv 2) (StX.pa_star (pv 3) pa_nil))) pa_nil)) pa_nil)))
    (pss_cons (ps_expr (pe_bm PySem.F.plainAttrs_list PySem.F.slot_list_extend PySem.F.type_list_extend mt_extend (pv 4) (pa_cons (pe_call CL.G hr rfl CL.m CL.kp CL.b .nil pass0 (pa_cons (pe_ix ix_tup (pv 1) pe_int (fun _ _ => rfl)) pa_nil)) pa_nil)))
    (pss_cons (ps_if (PW.pt (pw_and (pt_cmpR op_eq (pe_callB call_len_seq (by rfl) T.len PySem.boot_len (pa_cons (pv 1) pa_nil)) pe_int (nomark _)) (pw_and1 (pt_cmpR op_gt (pe_callB call_len_seq (by rfl) T.len PySem.boot_len (pa_cons (pe_ix ix_tup (pv 1) pe_int (fun _ _ => rfl)) pa_nil)) pe_int (nomark _)))))
        (pss_cons (ps_expr (pe_bm PySem.F.plainAttrs_list PySem.F.slot_list_append PySem.F.type_list_append mt_append (pv 4) (pa_cons pe_str pa_nil)))
        (pss_one (ps_expr (pe_bm PySem.F.plainAttrs_list PySem.F.slot_list_extend PySem.F.type_list_extend mt_extend (pv 4) (pa_cons (pe_call CL.G hr rfl CL.m CL.kp CL.b .nil pass0 (pa_cons (pe_ix ix_tup (pv 1) pe_int (fun _ _ => rfl)) pa_nil)) pa_nil))))) pss_nil)
    (pss_cons (ps_expr (pe_bm PySem.F.plainAttrs_list PySem.F.slot_list_append PySem.F.type_list_append mt_append (pv 4) (pa_cons pe_str pa_nil)))
    (pss_one (ps_ret (pv 4))))))))), ?_⟩
  rcases st_shape hst with ⟨z, ps, rfl, h1, h2, hp, rfl⟩ | ⟨co, bb, c', rfl, hco, hb, rfl⟩ | ⟨co, b1, b2, c1, c2, rfl, hco, hb1, hb2, rfl⟩
  · refine ⟨_, rfl, v, z, ps, H, rfl, Same.refl H, hd, fun H1 b ys s1 hb hys => ?_⟩
    have eB : bodsOf (.tuple (.str z :: ps)) = [] := if_neg (fun e => e.elim h1 h2)
    rw [eB] at hys
    cases hys
    refine ⟨_, rfl, b, [], rfl, .inr hb, rfl, _, rfl, iteT ?_⟩
    refine ⟨_, rfl, v, _, k, rfl, dp_mono s1 _ _ hd, hp, fun H2 s2 => ⟨(by show 1 ≤ sizeLine; decide), fun p np => ?_⟩⟩
    refine q _ p ((s1.trans s2).trans (same_new np _)) ((s1.trans s2).free np) ?_
    rw [upd_same, stT_plain h1 h2]
    rfl
  · refine ⟨_, rfl, v, "while", [co, bb], H, rfl, Same.refl H, hd, fun H1 b ys s1 hbs hys => ?_⟩
    have eB : bodsOf (.tuple [.str "while", co, bb]) = [bb] := by rw [bods_while]; rfl
    rw [eB] at hys
    obtain ⟨y0, rfl, hy0⟩ : ∃ y0, ys = [y0] ∧ Dp K H y0 bb := by
      cases hys with
      | cons h t => cases t; exact ⟨_, rfl, h⟩
    obtain ⟨a, xs, rfl, hs, ha⟩ := dp_tup_inv hd
    obtain ⟨x0, x1, x2, d0, d1, d2, rfl, e3, h0, hx1, hx2⟩ := dp_three ha rfl
    injection e3 with e3 e4
    injection e4 with e4 e5
    injection e5 with e5 _
    subst e3 e4 e5
    cases h0
    obtain ⟨cx, cy, cz, rfl, o1, o2, o3⟩ := cond_three hco
    obtain ⟨ca, cxs, rfl, hcs, hca⟩ := dp_tup_inv hx1
    refine ⟨_, rfl, b, _, rfl, .inr hbs, rfl, _, rfl, ite2 (fun c => absurd (of_decide_eq_true c) (by simp)) (fun _ => ?_)⟩
    refine ⟨_, rfl, _, rfl, a, _, rfl, Same.tup s1 hs, (by show ¬ (HT.sIx 3 0 none = 0 ∧ HT.sIx 3 3 (some 2) = 3); decide), fun p np => ?_⟩
    have s2 : Same H1 (upd H1 p (.tup [.str "while", .ref ca])) := same_new np _
    have ep : (upd H1 p (.tup [.str "while", .ref ca])) p = some (.tup [.str "while", .ref ca]) := upd_same
    rw [show cutV [V.str "while", V.ref ca, x2] none (some 2) = [V.str "while", V.ref ca] from rfl]
    generalize upd H1 p (.tup [.str "while", .ref ca]) = H2 at s2 ep ⊢
    refine ⟨p, _, rfl, SqT.of ep, rfl, _, _, rfl, _, _, rfl, rfl, ?_⟩
    have s12 := s1.trans s2
    refine ⟨_, rfl, _, rfl, ca, cxs, rfl, .inl (Same.tup s12 hcs), ?_⟩
    have hcl : cxs.length = 3 := dpAll_len hca
    refine ⟨?_, fun t nt => ?_⟩
    · show ((cxs ++ []).length + 1) ≤ sizeLine
      rw [List.append_nil, hcl]
      decide
    rw [List.append_nil]
    have s3 : Same H2 (upd H2 t (.tup (.str "while" :: cxs))) := same_new nt _
    have et : (upd H2 t (.tup (.str "while" :: cxs))) t = some (.tup (.str "while" :: cxs)) := upd_same
    generalize upd H2 t (.tup (.str "while" :: cxs)) = H3 at s3 et ⊢
    have s13 := s12.trans s3
    refine ⟨_, _, rfl, .tup (SqT.of et) (.cons (.str _) (dpAll_mono s13 _ _ hca)), (by show 4 ≤ 8; decide), cond_okW (by decide) o1 o2 o3, fun H4 s4 => ?_⟩
    refine ⟨(by show 1 ≤ sizeLine; decide), fun l nl => ?_⟩
    have s14 := s13.trans s4
    have el : (upd H4 l (.lst [V.str (joinD [PyData.str "while", cx, cy, cz])])) l = some (.lst [V.str (joinD [PyData.str "while", cx, cy, cz])]) := upd_same
    have s5 : Same H4 (upd H4 l (.lst [V.str (joinD [PyData.str "while", cx, cy, cz])])) := same_new nl _
    generalize upd H4 l (.lst [V.str (joinD [PyData.str "while", cx, cy, cz])]) = H5 at s5 el ⊢
    have s15 := s14.trans s5
    have hbs5 : SqT K H5 b [y0] := Same.tup (s2.trans (s3.trans (s4.trans s5))) hbs
    refine ⟨_, rfl, .inl ⟨rfl, _, SqL.of el⟩, _, rfl, b, _, _, _, rfl, rfl, hbs5, atI_nat (j := 0) rfl, y0, bb, k, c', rfl, dp_mono s15 _ _ hy0, hb, by omega, fun H6 p6 s6 np6 hp6 => ?_⟩
    have el6 := s6 _ _ el
    obtain ⟨m1, m2⟩ := body_okT n _ _ hb
    refine ⟨l, p6, _, _, rfl, rfl, el6, hp6, ?_, ?_⟩
    · rw [List.length_map]
      exact Nat.le_of_lt (Nat.lt_of_le_of_lt (by show 1 + _ ≤ 1000; omega : _ ≤ 1000) (by decide))
    have nlH : H l = none := s14.free nl
    have s16 : Same H (upd H6 l (.lst ([V.str (joinD [PyData.str "while", cx, cy, cz])] ++ (bodyT n bb).map V.str))) := same_upd (s15.trans s6) nlH _
    have el7 : (upd H6 l (.lst ([V.str (joinD [PyData.str "while", cx, cy, cz])] ++ (bodyT n bb).map V.str))) l = some (.lst ([V.str (joinD [PyData.str "while", cx, cy, cz])] ++ (bodyT n bb).map V.str)) := upd_same
    have hbs7 : SqT K (upd H6 l (.lst ([V.str (joinD [PyData.str "while", cx, cy, cz])] ++ (bodyT n bb).map V.str))) b [y0] := Same.tup (same_upd (s2.trans (s3.trans (s4.trans (s5.trans s6)))) ((s2.trans (s3.trans s4)).free nl) _) hbs
    generalize upd H6 l (.lst ([V.str (joinD [PyData.str "while", cx, cy, cz])] ++ (bodyT n bb).map V.str)) = H7 at s16 el7 hbs7 ⊢
    refine ⟨_, rfl, b, _, rfl, .inr hbs7, rfl, _, rfl, ?_⟩
    refine ite2 (fun c => absurd (of_decide_eq_true c) (by simp)) (fun _ => iteF ?_)
    refine ⟨_, rfl, .inl ⟨rfl, _, SqL.of el7⟩, l, _, _, rfl, rfl, el7, ?_, _, rfl, q _ l (same_upd s16 nlH _) nlH ?_⟩
    · rw [List.length_append, List.length_map]
      exact Nat.lt_of_le_of_lt (by show 1 + _ ≤ 1000; omega : _ ≤ 1000) (by decide)
    · rw [upd_same, stT_while]
      simp [condT]
  · refine ⟨_, rfl, v, "if", [co, b1, b2], H, rfl, Same.refl H, hd, fun H1 b ys s1 hbs hys => ?_⟩
    have eB : bodsOf (.tuple [.str "if", co, b1, b2]) = [b1, b2] := by rw [bods_if]; rfl
    rw [eB] at hys
    obtain ⟨y0, y1, e0, e1, rfl, e2, hy0, hy1⟩ := dp_two hys rfl
    injection e2 with e2 e3
    injection e3 with e3 _
    subst e2 e3
    obtain ⟨a, xs, rfl, hs, ha⟩ := dp_tup_inv hd
    obtain ⟨x0, x1, x2, x3, rfl, h0, hx1, hx2, hx3⟩ := dp_four ha
    cases h0
    obtain ⟨cx, cy, cz, rfl, o1, o2, o3⟩ := cond_three hco
    obtain ⟨ca, cxs, rfl, hcs, hca⟩ := dp_tup_inv hx1
    refine ⟨_, rfl, b, _, rfl, .inr hbs, rfl, _, rfl, ite2 (fun c => absurd (of_decide_eq_true c) (by simp)) (fun _ => ?_)⟩
    refine ⟨_, rfl, _, rfl, a, _, rfl, Same.tup s1 hs, (by show ¬ (HT.sIx 4 0 none = 0 ∧ HT.sIx 4 4 (some 2) = 4); decide), fun p np => ?_⟩
    have s2 : Same H1 (upd H1 p (.tup [.str "if", .ref ca])) := same_new np _
    have ep : (upd H1 p (.tup [.str "if", .ref ca])) p = some (.tup [.str "if", .ref ca]) := upd_same
    rw [show cutV [V.str "if", V.ref ca, x2, x3] none (some 2) = [V.str "if", V.ref ca] from rfl]
    generalize upd H1 p (.tup [.str "if", .ref ca]) = H2 at s2 ep ⊢
    refine ⟨p, _, rfl, SqT.of ep, rfl, _, _, rfl, _, _, rfl, rfl, ?_⟩
    have s12 := s1.trans s2
    refine ⟨_, rfl, _, rfl, ca, cxs, rfl, .inl (Same.tup s12 hcs), ?_⟩
    have hcl : cxs.length = 3 := dpAll_len hca
    refine ⟨?_, fun t nt => ?_⟩
    · show ((cxs ++ []).length + 1) ≤ sizeLine
      rw [List.append_nil, hcl]
      decide
    rw [List.append_nil]
    have s3 : Same H2 (upd H2 t (.tup (.str "if" :: cxs))) := same_new nt _
    have et : (upd H2 t (.tup (.str "if" :: cxs))) t = some (.tup (.str "if" :: cxs)) := upd_same
    generalize upd H2 t (.tup (.str "if" :: cxs)) = H3 at s3 et ⊢
    have s13 := s12.trans s3
    refine ⟨_, _, rfl, .tup (SqT.of et) (.cons (.str _) (dpAll_mono s13 _ _ hca)), (by show 4 ≤ 8; decide), cond_okW (by decide) o1 o2 o3, fun H4 s4 => ?_⟩
    refine ⟨(by show 1 ≤ sizeLine; decide), fun l nl => ?_⟩
    have s14 := s13.trans s4
    have el : (upd H4 l (.lst [V.str (joinD [PyData.str "if", cx, cy, cz])])) l = some (.lst [V.str (joinD [PyData.str "if", cx, cy, cz])]) := upd_same
    have s5 : Same H4 (upd H4 l (.lst [V.str (joinD [PyData.str "if", cx, cy, cz])])) := same_new nl _
    generalize upd H4 l (.lst [V.str (joinD [PyData.str "if", cx, cy, cz])]) = H5 at s5 el ⊢
    have s15 := s14.trans s5
    have hbs5 : SqT K H5 b [y0, y1] := Same.tup (s2.trans (s3.trans (s4.trans s5))) hbs
    refine ⟨_, rfl, .inl ⟨rfl, _, SqL.of el⟩, _, rfl, b, _, _, _, rfl, rfl, hbs5, atI_nat (j := 0) rfl, y0, b1, k, c1, rfl, dp_mono s15 _ _ hy0, hb1, by omega, fun H6 p6 s6 np6 hp6 => ?_⟩
    have el6 := s6 _ _ el
    obtain ⟨m1, m2⟩ := body_okT n _ _ hb1
    refine ⟨l, p6, _, _, rfl, rfl, el6, hp6, ?_, ?_⟩
    · rw [List.length_map]
      exact Nat.le_of_lt (Nat.lt_of_le_of_lt (by show 1 + _ ≤ 1000; omega : _ ≤ 1000) (by decide))
    have nlH : H l = none := s14.free nl
    have s16 : Same H (upd H6 l (.lst ([V.str (joinD [PyData.str "if", cx, cy, cz])] ++ (bodyT n b1).map V.str))) := same_upd (s15.trans s6) nlH _
    have el7 : (upd H6 l (.lst ([V.str (joinD [PyData.str "if", cx, cy, cz])] ++ (bodyT n b1).map V.str))) l = some (.lst ([V.str (joinD [PyData.str "if", cx, cy, cz])] ++ (bodyT n b1).map V.str)) := upd_same
    have nl1 : H1 l = none := (s2.trans (s3.trans s4)).free nl
    have t17 : Same H1 (upd H6 l (.lst ([V.str (joinD [PyData.str "if", cx, cy, cz])] ++ (bodyT n b1).map V.str))) := same_upd (s2.trans (s3.trans (s4.trans (s5.trans s6)))) nl1 _
    have hbs7 : SqT K (upd H6 l (.lst ([V.str (joinD [PyData.str "if", cx, cy, cz])] ++ (bodyT n b1).map V.str))) b [y0, y1] := Same.tup (same_upd (s2.trans (s3.trans (s4.trans (s5.trans s6)))) ((s2.trans (s3.trans s4)).free nl) _) hbs
    generalize upd H6 l (.lst ([V.str (joinD [PyData.str "if", cx, cy, cz])] ++ (bodyT n b1).map V.str)) = H7 at s16 el7 hbs7 t17 ⊢
    refine ⟨_, rfl, b, _, rfl, .inr hbs7, rfl, _, rfl, ?_⟩
    refine ite2 (fun _ => ?_) (fun c => absurd (decide_eq_true (by simp)) c)
    obtain ⟨ss2, rfl⟩ := body_tuple hb2
    obtain ⟨a2, xs2, rfl, hs2, ha2⟩ := dp_tup_inv hy1
    have hl2 := dpAll_len ha2
    refine ⟨_, rfl, b, _, _, _, rfl, rfl, hbs7, atI_nat (j := 1) rfl, a2, xs2, rfl, .inr (Same.tup s16 hs2), _, _, rfl, rfl, _, rfl, ?_⟩
    by_cases z0 : ss2 = []
    · subst z0
      refine ite2 (fun c => ?_) (fun _ => ?_)
      · have c' : (0 : Int) < ((xs2.length : Nat) : Int) := of_decide_eq_true c
        have e : xs2.length = 0 := hl2
        omega
      refine ⟨_, rfl, .inl ⟨rfl, _, SqL.of el7⟩, l, _, _, rfl, rfl, el7, ?_, _, rfl, q _ l (same_upd s16 nlH _) nlH ?_⟩
      · rw [List.length_append, List.length_map]
        exact Nat.lt_of_le_of_lt (by show 1 + _ ≤ 1000; omega : _ ≤ 1000) (by decide)
      · rw [upd_same, stT_if]
        simp [condT, isNil]
    · have pos : 0 < xs2.length := by
        rw [hl2]
        exact List.length_pos_iff.mpr z0
      have hnil : isNil (.tuple ss2) = false := by
        cases ss2 with
        | nil => exact absurd rfl z0
        | cons _ _ => rfl
      obtain ⟨m3, m4⟩ := body_okT n _ _ hb2
      refine ite2 (fun _ => ?_) (fun c => absurd (decide_eq_true (by show (0 : Int) < ((xs2.length : Nat) : Int); omega)) c)
      refine ⟨_, rfl, .inl ⟨rfl, _, SqL.of el7⟩, l, _, _, rfl, rfl, el7, ?_, ?_⟩
      · rw [List.length_append, List.length_map]
        exact Nat.lt_of_le_of_lt (by show 1 + _ ≤ 1000; omega : _ ≤ 1000) (by decide)
      have s17 := same_upd s16 nlH (HO.lst (([V.str (joinD [PyData.str "if", cx, cy, cz])] ++ (bodyT n b1).map V.str) ++ [V.str "else"]))
      have el8 : (upd H7 l (.lst (([V.str (joinD [PyData.str "if", cx, cy, cz])] ++ (bodyT n b1).map V.str) ++ [V.str "else"]))) l = some (.lst (([V.str (joinD [PyData.str "if", cx, cy, cz])] ++ (bodyT n b1).map V.str) ++ [V.str "else"])) := upd_same
      have hbs8 : SqT K (upd H7 l (.lst (([V.str (joinD [PyData.str "if", cx, cy, cz])] ++ (bodyT n b1).map V.str) ++ [V.str "else"]))) b [y0, V.ref a2] := Same.tup (same_upd t17 nl1 _) hbs
      generalize upd H7 l (.lst (([V.str (joinD [PyData.str "if", cx, cy, cz])] ++ (bodyT n b1).map V.str) ++ [V.str "else"])) = H8 at s17 el8 hbs8 ⊢
      refine ⟨_, rfl, .inl ⟨rfl, _, SqL.of el8⟩, _, rfl, b, _, _, _, rfl, rfl, hbs8, atI_nat (j := 1) rfl, .ref a2, .tuple ss2, k, c2, rfl, dp_mono s17 _ _ hy1, hb2, by omega, fun H9 p9 s9 np9 hp9 => ?_⟩
      have el9 := s9 _ _ el8
      refine ⟨l, p9, _, _, rfl, rfl, el9, hp9, ?_, ?_⟩
      · rw [List.length_append, List.length_append, List.length_map, List.length_map]
        exact Nat.le_of_lt (Nat.lt_of_le_of_lt (by show 1 + _ + 1 + _ ≤ 1000; omega : _ ≤ 1000) (by decide))
      have s19 := same_upd (s17.trans s9) nlH (HO.lst ((([V.str (joinD [PyData.str "if", cx, cy, cz])] ++ (bodyT n b1).map V.str) ++ [V.str "else"]) ++ (bodyT n (.tuple ss2)).map V.str))
      refine ⟨_, rfl, .inl ⟨rfl, _, SqL.of upd_same⟩, l, _, _, rfl, rfl, upd_same, ?_, _, rfl, q _ l (same_upd s19 nlH _) nlH ?_⟩
      · rw [List.length_append, List.length_append, List.length_append, List.length_map, List.length_map]
        exact Nat.lt_of_le_of_lt (by show 1 + _ + 1 + _ ≤ 1000; omega : _ ≤ 1000) (by decide)
      · rw [upd_same, stT_if, if_neg (by rw [hnil]; decide)]
        simp [condT]
end
/-- the text of a program -/
def textT (k : Str) (d : PyData) : Str := Txt.join "\n" (k :: bodyT 4 d)
theorem lines_sum : ∀ {ys : List Str}, (∀ y ∈ ys, y.length ≤ 600) → (ys.map (·.length)).sum ≤ 600 * ys.length
  | [], _ => by simp
  | y :: r, h => by
    have h1 := h y (by simp)
    have h2 := lines_sum (ys := r) fun x m => h x (List.mem_cons_of_mem _ m)
    simp only [List.map_cons, List.sum_cons, List.length_cons]
    omega
theorem prog_body {k : Str} {d : PyData} (h : isProg (.tuple [.str k, d]) = true) : ∃ c, bodyN k 4 d = some c ∧ c ≤ 24 ∧ inS (.str k) kinds = true := by
  have h' : (inS (.str k) kinds && okN 0 (bodyN k 4 d)) = true := h
  rw [Bool.and_eq_true] at h'
  cases e : bodyN k 4 d with
  | none => rw [e] at h'; cases h'.2
  | some c =>
    rw [e] at h'
    have hc : 0 + c ≤ 24 := of_decide_eq_true h'.2
    exact ⟨c, rfl, by omega, h'.1⟩
theorem kind_len {k : Str} (h : inS (.str k) kinds = true) : k.length ≤ 9 := by
  obtain ⟨z, e, h⟩ := inS_short h (by decide)
  cases e
  exact h
theorem text_ok {k : Str} {d : PyData} {c : Nat} (hk : k.length ≤ 9) (hb : bodyN k 4 d = some c) (hc : c ≤ 24) : ((k :: bodyT 4 d).map (·.length)).sum + (k :: bodyT 4 d).length * ("\n" : Str).length ≤ 16777216 := by
  obtain ⟨m1, m2⟩ := body_okT 4 _ _ hb
  have := lines_sum m2
  have e : ("\n" : Str).length = 1 := by decide +kernel
  rw [e]
  simp only [List.map_cons, List.sum_cons, List.length_cons]
  omega
def spShow (K : PySem.W.Frag) : Sp := fun vs H Q _ => ∃ (v : V) (k : Str) (d : PyData), vs = [v] ∧ Dp K H v (.tuple [.str k, d]) ∧ Lay (.tuple [.str k, d]) ∧ isProg (.tuple [.str k, d]) = true ∧
  ∀ H', Same H H' → Q (.str (textT k d)) H'
section
variable {P : Program} {w : World} {K : PySem.W.Frag} {mg : Str → Option Value} {base : Heap}
theorem none_SL {f : Addr} {fd : FuncData} (lv : Nat) : FnOk P w K mg base CX0 lv f fd ["statement"] (fun vs H Q E => 0 ≠ 0 ∧ spSL K (0 - 1) vs H Q E) :=
  ⟨fun vs H Q E h => absurd rfl h.1, fun A outer s H args us vs Q E _ _ _ _ h => absurd rfl h.1⟩
theorem recT {fB fS : Addr} {dB dS : FuncData} (FB : Fun K "body_lines" "body_lines" sBL fB dB) (bB : Binds K dB ["body"] []) (mB : mg "body_lines" = some (.ref fB))
    (FS : Fun K "statement_lines" "statement_lines" sSL fS dS) (bS : Binds K dS ["statement"] []) (mS : mg "statement_lines" = some (.ref fS)) (T : Gs K mg)
    (CB : Cal P w K mg base 1 "bodies_of" ["statement"] (spBods K)) (CP : Cal P w K mg base 2 "plain_line" ["statement"] (spPL K)) (CJ : Cal P w K mg base 1 "joined" ["parts"] (spJn K)) :
    ∀ n : Nat, FnOk P w K mg base CX0 (2 + 2 * n) fB dB ["body"] (spBL K n)
  | 0 => ok_BL (lv := 1) FB ⟨fS, dS, none_SL 1, bS, FS.kp, mS⟩
  | n + 1 => by
    have ih := recT FB bB mB FS bS mS T CB CP CJ n
    have cb : Cal P w K mg base (2 + 2 * n) "body_lines" ["body"] (spBL K n) := ⟨fB, dB, ih, bB, FB.kp, mB⟩
    have st := ok_SL (lv := 2 + 2 * n) FS T (by omega) CB CP CJ cb
    have st2 : FnOk P w K mg base CX0 (2 + 2 * n + 1) fS dS ["statement"] (fun vs H Q E => n + 1 ≠ 0 ∧ spSL K (n + 1 - 1) vs H Q E) :=
      ⟨fun vs H Q E h => st.len vs H Q E h.2, fun A outer s H args us vs Q E h1 h2 h3 h4 h => st.run A outer s H args us vs Q E h1 h2 h3 h4 h.2⟩
    exact ok_BL (lv := 2 + 2 * n + 1) (n := n + 1) FB ⟨fS, dS, st2, bS, FS.kp, mS⟩
theorem scShow : FnScope ["program", "kind", "body"] ["program"] (defScope sShow) := ⟨rfl, rfl, rfl, by decide +kernel, rfl, by decide +kernel, by decide +kernel⟩
theorem ok_show {f : Addr} {fd : FuncData} (F : Fun K "show" "show" sShow f fd) (CP : Cal P w K mg base 7 "is_program" ["thing"] (spProg K)) (CB : Cal P w K mg base 10 "body_lines" ["body"] (spBL K 4)) : FnOk P w K mg base CX0 11 f fd ["program"] (spShow K) := by
  refine F.ok scShow (fun vs H Q E h => ?_) (fun cdv A outer s H vs Q E hr h => ?_)
  · obtain ⟨v, k, d, rfl, _⟩ := h
    rfl
  obtain ⟨v, k, d, rfl, hd, ld, hp, q⟩ := h
  have hr7 : Room 7 _ := hr.mono (by decide)
  refine ⟨_, pss_cons (ps_if (pt_not (pt_val (pe_call CP.G hr7 rfl CP.m CP.kp CP.b .nil pass0 (pa_cons (pv 0) pa_nil)))) (pss_one ps_never) pss_nil)
    (pss_cons (ps_asg (pv 0) (pg_tup (by rfl) (pgs_cons (pg_name (i := 1) scShow.nd rfl (.inl rfl)) (pgs_cons (pg_name (i := 2) scShow.nd rfl (.inl rfl)) pgs_nil))))
    (pss_one (ps_ret (pe_join pe_str (pe_op op_cat (pe_lst (pa_cons (pv 1) pa_nil)) (pe_call CB.G hr rfl CB.m CB.kp CB.b .nil pass0 (pa_cons (pv 2) pa_nil))))))), ?_⟩
  refine ⟨_, rfl, v, _, rfl, hd, ld, fun H1 s1 => ⟨_, rfl, ?_⟩⟩
  rw [hp]
  obtain ⟨a, xs, rfl, hs, ha⟩ := dp_tup_inv hd
  obtain ⟨x0, x1, d0, d1, rfl, e, hx0, hx1⟩ := dp_two ha rfl
  injection e with e0 e
  injection e with e1 e
  subst e0 e1
  cases hx0
  obtain ⟨c, hb, hc, hk⟩ := prog_body hp
  refine iteF ⟨_, rfl, a, _, rfl, Same.tup s1 hs, rfl, _, _, rfl, _, _, rfl, rfl, ?_⟩
  refine ⟨⟨_, rfl⟩, _, rfl, (by show 1 ≤ sizeLine; decide), fun l nl => ?_⟩
  have s2 : Same H1 (upd H1 l (.lst [V.str k])) := same_new nl _
  have el : (upd H1 l (.lst [V.str k])) l = some (.lst [V.str k]) := upd_same
  generalize upd H1 l (.lst [V.str k]) = H2 at s2 el ⊢
  refine ⟨_, rfl, x1, d, k, c, rfl, dp_mono (s1.trans s2) _ _ hx1, hb, hc, fun H3 p s3 np hp3 => ?_⟩
  obtain ⟨m1, m2⟩ := body_okT 4 _ _ hb
  refine ⟨l, p, _, _, rfl, rfl, s3 _ _ el, hp3, ?_, fun r nr => ?_⟩
  · rw [List.length_map]
    exact Nat.le_of_lt (Nat.lt_of_le_of_lt (by show 1 + _ ≤ 1000; omega : _ ≤ 1000) (by decide))
  refine ⟨_, r, k :: bodyT 4 d, rfl, rfl, .inl (SqL.of upd_same), text_ok (kind_len hk) hb hc, q _ (s1.trans (s2.trans (s3.trans (same_new nr _))))⟩
end
abbrev sLL : Stmt := top 55
/-- [str(part) for part in a tuple], the part in slot j -/
theorem lc_strW {K : PySem.W.Frag} {a : Addr} {xs : List V} {ds : List PyData} {j : Nat} {σ : L2.St} {H H0 : Hp} {D : Addr} {Qd : Hp → Prop} (hw : ∀ x : V, wipe ((wipe σ [j]).set j (some x)) [j] = wipe σ [j] ∧ ((wipe σ [j]).set j (some x))[j]? = some (some x))
    (hs : SqT K H a xs) (ha : DpAll K H0 xs ds) (hl8 : ds.length ≤ 8) (ho : ∀ d ∈ ds, okW d) (nD : H D = none) (hd : ∀ H', Same H H' → H' D = some (.lst ((ds.map strD).map V.str)) → Qd H') :
    ∃ W : Nat → Nat → Hp → Prop, (∃ m, W 0 m (upd H D (.lst []))) ∧ ∀ i m H, W i m H →
      ((Itt K a).stop i H ∧ Qd H) ∨ ((Itt K a).go i H ∧ ∃ Nx : Hp → Prop, (∀ H', Nx H' → ∃ m', m' < m ∧ W (i + 1) m' H') ∧ ∀ x H', (Itt K a).yld i H x H' → (gName j) x (wipe σ [j]) H' fun σ2 H2 => wipe σ2 [j] = wipe σ [j] ∧ tYes σ2 H2 fun b H3 =>
        if b = true then (tCB rStrW (tCons (tVar j) tNil)) σ2 H3 fun y H4 => ∃ acc, H4 D = some (.lst acc) ∧ acc.length < sizeLine ∧ Nx (upd H4 D (.lst (acc ++ [y]))) else Nx H3) := by
  have hl := dpAll_len ha
  refine lc_tup (K := K) (a := a) (xs := xs) (fun i H' => Same H H' ∧ H' D = some (.lst (((ds.take i).map strD).map V.str))) ⟨same_new nD _, upd_same⟩ (fun i H' _ ⟨s1, _⟩ => Same.tup s1 hs) ?_ ?_
  · rintro i x H1 hx ⟨s1, h1⟩
    obtain ⟨di, hdi, hxd⟩ := dpAll_get ha hx
    have mdi := List.mem_of_getElem? hdi
    refine ⟨(hw x).1, ?_⟩
    dsimp only [tYes]
    rw [if_pos rfl]
    refine ⟨_, (hw x).2, ?_⟩
    dsimp only [tNil]
    refine rStrW_of (K := K) hxd (ho _ mdi) ⟨_, h1, ?_, same_upd s1 nD _, ?_⟩
    · rw [List.length_map, List.length_map]
      refine Nat.lt_of_le_of_lt (m := 8) ?_ (by decide)
      exact Nat.le_trans (by rw [List.length_take]; omega) hl8
    · rw [upd_same, take_snoc hdi]
      simp
  · rintro H1 ⟨s1, h1⟩
    rw [hl, List.take_length] at h1
    exact hd _ s1 h1
theorem app_assoc (a b c : Str) : a ++ b ++ c = a ++ (b ++ c) := by
  show Str.mk ((a.cps ++ b.cps) ++ c.cps) = Str.mk (a.cps ++ (b.cps ++ c.cps))
  rw [Array.append_assoc]
theorem join3 (s a b c : Str) : Txt.join s [a, b, c] = a ++ s ++ b ++ s ++ c := rfl
theorem ask_word : ("ask " : Str) = "ask" ++ " " := by decide +kernel
theorem ask_line {g : Str} {t : PyData} {z : Str} : ("ask " : Str) ++ strD (askW g t) ++ " " ++ z = joinD [.str "ask", askW g t, .str z] := by
  show _ = Txt.join " " ["ask", strD (askW g t), z]
  rw [join3, ask_word]
theorem join_bound {ds : List PyData} (hl8 : ds.length ≤ 8) (hw : ∀ d ∈ ds, okW d) : ((ds.map strD).map (·.length)).sum + (ds.map strD).length * (PySem.Str.ofString " ").length ≤ 16777216 := by
  have := sum_len hw
  have e : (PySem.Str.ofString " ").length = 1 := by decide
  rw [e, List.length_map]
  omega
theorem small {n : Nat} (h : n ≤ 1000) : n ≤ sizeLine := Nat.le_of_lt (Nat.lt_of_le_of_lt h (by decide))
theorem small' {n : Nat} (h : n ≤ 1000) : n < sizeLine := Nat.lt_of_le_of_lt h (by decide)
theorem catTwo {H' : Hp} {p b : Addr} {ys zs : List V} {Q : VK} (hp : H' p = some (.lst ys)) (hb : H' b = some (.lst zs)) (hsz : ys.length + zs.length ≤ 1000) (q : ∀ H2 r, Same H' H2 → H' r = none → H2 r = some (.lst (ys ++ zs)) → Q (.ref r) H2) : rCat (.ref p) (.ref b) H' Q :=
  ⟨p, b, ys, zs, rfl, rfl, hp, hb, small hsz, fun r nr => q _ r (same_new nr _) nr upd_same⟩
theorem catOne {H' : Hp} {p : Addr} {ys : List V} {x : V} {Q : VK} (hp : H' p = some (.lst ys)) (hsz : ys.length + 1 ≤ 1000) (q : ∀ H2 r, Same H' H2 → H' r = none → H2 r = some (.lst (ys ++ [x])) → Q (.ref r) H2) : ∀ l, H' l = none → rCat (.ref p) (.ref l) (upd H' l (.lst [x])) Q :=
  fun l nl => catTwo (same_new nl _ _ _ hp) upd_same hsz fun H2 r s nr e => q H2 r ((same_new nl _).trans s) ((same_new nl _).free nr) e
def spLL (K : PySem.W.Frag) (n : Nat) : Sp := fun vs H Q _ => ∃ (v : V) (d : PyData) (k : Str) (c : Nat), vs = [v] ∧ n ≤ 4 ∧ Dp K H v d ∧ Lay d ∧ bodyN k n d = some c ∧ c ≤ 24 ∧
  ∀ H' p, Same H H' → H p = none → H' p = some (.lst ((bodyT n d).map V.str)) → Q (.ref p) H'
section
variable {P : Program} {w : World} {K : PySem.W.Frag} {mg : Str → Option Value} {base : Heap}
theorem scLL : FnScope ["_law_body_here", "_law_found", "_law_statement_here", "_law_place", "_law_part"] ["_law_body_here"] (defScope sLL) := ⟨rfl, rfl, rfl, by decide +kernel, rfl, by decide +kernel, by decide +kernel⟩
theorem ok_LL {f : Addr} {fd : FuncData} {lv n : Nat} (F : Fun K "_law_lines" "_law_lines" sLL f fd) (T : Gs K mg) (CC : Cal P w K mg base lv "_law_lines" ["_law_body_here"] (fun vs H Q E => n ≠ 0 ∧ spLL K (n - 1) vs H Q E)) :
    FnOk P w K mg base CX0 (lv + 1) f fd ["_law_body_here"] (spLL K n) := by
  refine F.ok scLL (fun vs H Q E h => ?_) (fun cdv A outer s H vs Q E hr h => ?_)
  · obtain ⟨v, d, k, c, rfl, _⟩ := h
    rfl
  obtain ⟨v, d, k, c, rfl, hn4, hd, ld, hbc, hc, q⟩ := h
  refine ⟨_, pss_cons (ps_set (i := 1) scLL.nd rfl (.inl rfl) (pe_lst pa_nil))
    (pss_cons (ps_for PassesOwn.never rfl (pi_tup (pv 0)) (pg_name (i := 2) scLL.nd rfl (.inl rfl))
      (pss_one (ps_if (pt_cmpR op_eq (pe_ix ix_tup (pv 2) pe_int (fun _ _ => rfl)) pe_str (nomark _))
        (pss_cons (ps_set (i := 1) scLL.nd rfl (.inl rfl) (pe_op op_cat (pv 1) (pe_lst (pa_cons (pe_join pe_str (pe_op op_cat (pe_lst (pa_cons pe_str pa_nil)) (pe_lc (own := [("_law_part", 4)]) (g := gName 4) (tt := tYes) (te := tCB rStrW (tCons (tVar 4) tNil)) rfl scLL.nd (pi_tup (pe_ix ix_tup (pv 2) pe_int (fun _ _ => rfl)))
            (blkOk_by (N := ["_law_body_here", "_law_found", "_law_statement_here", "_law_place", "_law_part"]) (sc := defScope sLL) (by decide +kernel))
            (fun _ _ _ _ _ => pg_name (i := 4) scLL.nd rfl (.inl rfl)) (fun _ _ _ _ _ => pts_nil)
            (fun _ _ _ _ _ => pe_callTy call_strW (by rfl) T.str (by decide +kernel) (pa_cons (pv 4) pa_nil))))) pa_nil))))
        (pss_one (ps_set (i := 1) scLL.nd rfl (.inl rfl) (pe_op op_cat (pe_op op_cat (pv 1) (pe_call CC.G hr rfl CC.m CC.kp CC.b .nil pass0 (pa_cons (pe_ix ix_tup (pv 2) pe_int (fun _ _ => rfl)) pa_nil))) (pe_lst (pa_cons pe_str pa_nil))))))
        (pss_one (ps_if (pt_cmpR op_eq (pe_ix ix_tup (pv 2) pe_int (fun _ _ => rfl)) pe_str (nomark _))
          (pss_cons (ps_set (i := 1) scLL.nd rfl (.inl rfl) (pe_op op_cat (pe_op op_cat (pv 1) (pe_lst (pa_cons (pe_join pe_str (pe_op op_cat (pe_lst (pa_cons pe_str pa_nil)) (pe_lc (own := [("_law_part", 4)]) (g := gName 4) (tt := tYes) (te := tCB rStrW (tCons (tVar 4) tNil)) rfl scLL.nd (pi_tup (pe_ix ix_tup (pv 2) pe_int (fun _ _ => rfl)))
            (blkOk_by (N := ["_law_body_here", "_law_found", "_law_statement_here", "_law_place", "_law_part"]) (sc := defScope sLL) (by decide +kernel))
            (fun _ _ _ _ _ => pg_name (i := 4) scLL.nd rfl (.inl rfl)) (fun _ _ _ _ _ => pts_nil)
            (fun _ _ _ _ _ => pe_callTy call_strW (by rfl) T.str (by decide +kernel) (pa_cons (pv 4) pa_nil))))) pa_nil))) (pe_call CC.G hr rfl CC.m CC.kp CC.b .nil pass0 (pa_cons (pe_ix ix_tup (pv 2) pe_int (fun _ _ => rfl)) pa_nil))))
          (pss_cons (ps_if (pt_cmpR (op_neD hr.units) (pe_ix ix_tup (pv 2) pe_int (fun _ _ => rfl)) (pe_tup pa_nil) (nomark _))
              (pss_one (ps_set (i := 1) scLL.nd rfl (.inl rfl) (pe_op op_cat (pe_op op_cat (pv 1) (pe_lst (pa_cons pe_str pa_nil))) (pe_call CC.G hr rfl CC.m CC.kp CC.b .nil pass0 (pa_cons (pe_ix ix_tup (pv 2) pe_int (fun _ _ => rfl)) pa_nil))))) pss_nil)
          (pss_one (ps_set (i := 1) scLL.nd rfl (.inl rfl) (pe_op op_cat (pv 1) (pe_lst (pa_cons pe_str pa_nil)))))))
          (pss_one (ps_if (pt_cmpR op_eq (pe_ix ix_tup (pv 2) pe_int (fun _ _ => rfl)) pe_str (nomark _))
            (pss_cons (ps_set (i := 3) scLL.nd rfl (.inl rfl) (pe_callTy call_strW (by rfl) T.str (by decide +kernel) (pa_cons (pe_ix ix_tup (pv 2) pe_int (fun _ _ => rfl)) pa_nil)))
            (pss_cons (ps_if (pt_cmpR op_ne (pe_ix ix_tup (pv 2) pe_int (fun _ _ => rfl)) pe_str (nomark _)) (pss_one (ps_set (i := 3) scLL.nd rfl (.inl rfl) (pe_op op_add_str (pe_op op_add_str pe_str (pe_ix ix_tup (pv 2) pe_int (fun _ _ => rfl))) (pv 3)))) pss_nil)
            (pss_one (ps_expr (pe_bm PySem.F.plainAttrs_list PySem.F.slot_list_append PySem.F.type_list_append mt_append (pv 1) (pa_cons (pe_op op_add_str (pe_op op_add_str (pe_op op_add_str pe_str (pv 3)) pe_str) (pe_ix ix_tup (pv 2) pe_int (fun _ _ => rfl))) pa_nil))))))
            (pss_one (ps_expr (pe_bm PySem.F.plainAttrs_list PySem.F.slot_list_append PySem.F.type_list_append mt_append (pv 1) (pa_cons (pe_join pe_str (pe_lc (own := [("_law_part", 4)]) (g := gName 4) (tt := tYes) (te := tCB rStrW (tCons (tVar 4) tNil)) rfl scLL.nd (pi_tup (pv 2))
            (blkOk_by (N := ["_law_body_here", "_law_found", "_law_statement_here", "_law_place", "_law_part"]) (sc := defScope sLL) (by decide +kernel))
            (fun _ _ _ _ _ => pg_name (i := 4) scLL.nd rfl (.inl rfl)) (fun _ _ _ _ _ => pts_nil)
            (fun _ _ _ _ _ => pe_callTy call_strW (by rfl) T.str (by decide +kernel) (pa_cons (pv 4) pa_nil)))) pa_nil)))))))))))
    (pss_one (ps_ret (pv 1)))), ?_⟩
  obtain ⟨ss, rfl⟩ := body_tuple hbc
  obtain ⟨a, xs, rfl, hs, ha⟩ := dp_tup_inv hd
  have hl := dpAll_len ha
  have lm := lay_mem (lay_tup ld)
  refine ⟨(by show 0 ≤ sizeLine; decide), fun l nl => ?_⟩
  have s0 : Same H (upd H l (.lst [])) := same_new nl _
  refine ⟨_, rfl, a, rfl, ⟨_, Same.tup s0 hs⟩, for_tup (K := K) (a := a) (xs := xs) (fun i σ H' => ∃ (p : Addr) (s2 s3 s4 : Option V), σ = [some (.ref a), some (.ref p), s2, s3, s4] ∧ Same H H' ∧ H p = none ∧ H' p = some (.lst ((bodyT n (.tuple (ss.take i))).map V.str)))
    ⟨l, none, none, none, rfl, s0, nl, by rw [upd_same]; cases n <;> rfl⟩ (fun i σ H' _ ⟨_, _, _, _, _, s1, _⟩ => Same.tup s1 hs) ?_ ?_⟩
  · rintro i x σ H1 hx ⟨p, s2, s3, s4, rfl, s1, np, hp⟩
    obtain ⟨si, hsi, hxd⟩ := dpAll_get ha hx
    have msi := List.mem_of_getElem? hsi
    cases n with
    | zero =>
      cases ss with
      | nil => cases msi
      | cons _ _ => cases hbc
    | succ n =>
      obtain ⟨ai, hai, lai⟩ := sum_le hbc msi
      have one := body_take hbc (i + 1)
      have esn : bodyT (n + 1) (.tuple (ss.take (i + 1))) = bodyT (n + 1) (.tuple (ss.take i)) ++ stT (bodyT n) si := flat_snoc hsi
      rw [esn] at one ⊢
      have ltot := one.1
      rw [List.length_append] at ltot
      generalize hX : bodyT (n + 1) (.tuple (ss.take i)) = X at hp ltot ⊢
      have xl : (X.map V.str).length = X.length := List.length_map _
      have lsi := lm _ msi
      rcases st_shape hai with ⟨z, ps, rfl, h1, h2, hpl, rfl⟩ | ⟨co, bb, c', rfl, hco, hb, rfl⟩ | ⟨co, b1, b2, c1, c2, rfl, hco, hb1, hb2, rfl⟩
      · rw [stT_plain h1 h2] at ltot ⊢
        have l1 : X.length + 1 ≤ 3 * c := ltot
        obtain ⟨ax, xx, rfl, hsx, hax⟩ := dp_tup_inv hxd
        have hsx1 := Same.tup s1 hsx
        rcases plain_cases hpl with ⟨z', ps', e, hz, lz, lp, hps⟩ | ⟨g, t, x, e, lg, ht, hx'⟩
        · injection e with e; injection e with e e2; injection e with e
          subst e e2
          obtain ⟨xr, rfl⟩ : ∃ xr, xx = .str z :: xr := by
            cases hax with
            | cons hz _ => cases hz; exact ⟨_, rfl⟩
          have okA : ∀ d ∈ PyData.str z :: ps, okW d := by
            intro d m
            rcases List.mem_cons.mp m with rfl | m
            · exact .inl ⟨z, rfl, by omega⟩
            · exact okP_W (hps d m)
          have l8 : (PyData.str z :: ps).length ≤ 8 := by rw [List.length_cons]; omega
          rw [plainT_no hz]
          refine ⟨_, rfl, ax, _, _, _, rfl, rfl, hsx1, atI_nat (j := 0) rfl, rfl, _, rfl, strF h2 ?_⟩
          refine ⟨_, rfl, ax, _, _, _, rfl, rfl, hsx1, atI_nat (j := 0) rfl, rfl, _, rfl, strF h1 ?_⟩
          refine ⟨_, rfl, ax, _, _, _, rfl, rfl, hsx1, atI_nat (j := 0) rfl, rfl, _, rfl, strF hz ?_⟩
          refine ⟨_, rfl, .inl ⟨rfl, _, SqL.of hp⟩, ⟨_, rfl⟩, _, rfl, ax, rfl, ⟨_, hsx1⟩, fun D nD => lc_strW (fun _ => ⟨rfl, rfl⟩) hsx1 hax l8 okA nD fun H2 s2' e2 => ?_⟩
          refine ⟨_, D, _, rfl, rfl, .inl (SqL.of e2), join_bound l8 okA, ?_⟩
          refine ⟨p, _, _, rfl, rfl, s2' _ _ hp, small' (by rw [xl]; omega), p, _, _, _, rfl, same_upd (s1.trans s2') np _, np, ?_⟩
          rw [upd_same, List.map_append]
          rfl
        · injection e with e; injection e with e e2; injection e with e
          subst e e2
          obtain ⟨x0, x1, x2, x3, rfl, h0, hx1, hx2, hx3⟩ := dp_four hax
          cases h0
          cases hx1
          have hxv : ∃ zx, x = .str zx := by
            obtain ⟨z9, ps9, rs9, e9, hz9, hl9, hp9⟩ := plain_inv hpl
            injection e9 with e9; injection e9 with e9 e8; injection e9 with e9
            subst e9 e8
            have e7 := word_ask hz9
            subst e7
            have h' : isPart (.str g) "sign" = true ∧ isPart t "term" = true ∧ isPart x "variable" = true := by simpa [allParts] using hp9
            have h9 : inS x vars = true := by
              have := h'.2.2
              unfold isPart at this
              rwa [if_pos rfl] at this
            obtain ⟨zx, rfl, _⟩ := inS_short h9 (by decide)
            exact ⟨zx, rfl⟩
          obtain ⟨zx, rfl⟩ := hxv
          cases hx3
          have lzx : zx.length ≤ 9 := by
            rcases hx' with ⟨z', e, h⟩ | ⟨i', e, _⟩
            · cases e; exact h
            · cases e
          rw [plainT_ask]
          have lst' := strD_short ht
          refine ⟨_, rfl, ax, _, _, _, rfl, rfl, hsx1, atI_nat (j := 0) rfl, rfl, _, rfl, strF h2 ?_⟩
          refine ⟨_, rfl, ax, _, _, _, rfl, rfl, hsx1, atI_nat (j := 0) rfl, rfl, _, rfl, strF h1 ?_⟩
          refine ⟨_, rfl, ax, _, _, _, rfl, rfl, hsx1, atI_nat (j := 0) rfl, rfl, _, rfl, strT ?_⟩
          refine ⟨_, rfl, ax, _, _, _, rfl, rfl, hsx1, atI_nat (j := 2) rfl, ?_⟩
          dsimp only [tNil]
          refine rStrW_of (K := K) hx2 (okP_W ht) ?_
          refine ⟨_, rfl, ax, _, _, _, rfl, rfl, hsx1, atI_nat (j := 1) rfl, rfl, _, rfl, ?_⟩
          have lx : ("x" : Str).length = 1 := by decide +kernel
          have la : ("ask " : Str).length = 4 := by decide +kernel
          have lb : (" " : Str).length = 1 := by decide +kernel
          by_cases hg : g = "="
          · subst hg
            refine ite2 (fun c => absurd c (by rw [decide_eq_true rfl]; decide)) (fun _ => ?_)
            refine ⟨_, rfl, .inl ⟨rfl, _, SqL.of hp⟩, _, rfl, _, _, rfl, rfl, small (by rw [la]; omega), _, _, rfl, rfl, small (by rw [len_app, la, lb]; omega), _, rfl, ax, _, _, _, rfl, rfl, hsx1, atI_nat (j := 3) rfl, _, _, rfl, rfl, small (by rw [len_app, len_app, la, lb]; omega), ?_⟩
            refine ⟨p, _, _, rfl, rfl, hp, small' (by rw [xl]; omega), p, _, _, _, rfl, same_upd s1 np _, np, ?_⟩
            have e := ask_line (g := "=") (t := t) (z := zx)
            rw [upd_same, List.map_append, ← e, show askW "=" t = t from if_pos rfl]
            rfl
          · have eA : askW g t = .str ((("x" : Str) ++ g) ++ strD t) := if_neg hg
            refine ite2 (fun _ => ?_) (fun c => absurd (by rw [decide_eq_false (fun e => hg (by injection e))]; rfl) c)
            refine ⟨_, rfl, ax, _, _, _, rfl, rfl, hsx1, atI_nat (j := 1) rfl, _, _, rfl, rfl, small (by rw [lx]; omega), _, rfl, _, _, rfl, rfl, small (by rw [len_app, lx]; omega), ?_⟩
            have l50 : ((("x" : Str) ++ g) ++ strD t).length ≤ 50 := by rw [len_app, len_app, lx]; omega
            refine ⟨_, rfl, .inl ⟨rfl, _, SqL.of hp⟩, _, rfl, _, _, rfl, rfl, small (by rw [la]; omega), _, _, rfl, rfl, small (by rw [len_app, la, lb]; omega), _, rfl, ax, _, _, _, rfl, rfl, hsx1, atI_nat (j := 3) rfl, _, _, rfl, rfl, small (by rw [len_app, len_app, la, lb]; omega), ?_⟩
            refine ⟨p, _, _, rfl, rfl, hp, small' (by rw [xl]; omega), p, _, _, _, rfl, same_upd s1 np _, np, ?_⟩
            have e := ask_line (g := g) (t := t) (z := zx)
            rw [upd_same, List.map_append, ← e, eA]
            rfl
      · rw [stT_while] at ltot ⊢
        simp only [List.length_cons, List.length_append, List.length_nil] at ltot
        obtain ⟨ax, xx, rfl, hsx, hax⟩ := dp_tup_inv hxd
        obtain ⟨x0, x1, x2, d0, d1, d2, rfl, e3, h0, hx1, hx2⟩ := dp_three hax rfl
        injection e3 with e3 e4
        injection e4 with e4 e5
        injection e5 with e5 _
        subst e3 e4 e5
        cases h0
        have hsx1 := Same.tup s1 hsx
        obtain ⟨cx, cy, cz, rfl, o1, o2, o3⟩ := cond_three hco
        obtain ⟨ca, cxs, rfl, hcs, hca⟩ := dp_tup_inv hx1
        have okC := cond_okW (w := "while") (by decide) o1 o2 o3
        have okC3 : ∀ d ∈ [cx, cy, cz], okW d := fun d m => okC d (List.mem_cons_of_mem _ m)
        refine ⟨_, rfl, ax, _, _, _, rfl, rfl, hsx1, atI_nat (j := 0) rfl, rfl, _, rfl, strT ?_⟩
        refine ⟨_, rfl, ⟨_, rfl⟩, (by show 1 ≤ sizeLine; decide), fun l2 nl2 => ?_⟩
        have sA : Same H1 (upd H1 l2 (.lst [.str "while"])) := same_new nl2 _
        have eA : (upd H1 l2 (.lst [.str "while"])) l2 = some (.lst [.str "while"]) := upd_same
        generalize upd H1 l2 (.lst [.str "while"]) = H2 at sA eA ⊢
        have s12 := s1.trans sA
        refine ⟨_, rfl, ax, _, _, _, rfl, rfl, Same.tup s12 hsx, atI_nat (j := 1) rfl, ca, rfl, ⟨_, Same.tup s12 hcs⟩, fun D nD => lc_strW (fun _ => ⟨rfl, rfl⟩) (Same.tup s12 hcs) hca (by show 3 ≤ 8; decide) okC3 nD fun H3 s3' e3 => ?_⟩
        refine catTwo (s3' _ _ eA) e3 (by show 1 + 3 ≤ 1000; decide) fun H4 r s4' nr e4 => ?_
        refine ⟨_, r, (PyData.str "while" :: [cx, cy, cz]).map strD, rfl, rfl, .inl (SqL.of e4), join_bound (by show 4 ≤ 8; decide) okC, ?_⟩
        have s14 := sA.trans (s3'.trans s4')
        refine ⟨(by show 1 ≤ sizeLine; decide), catOne (s14 _ _ hp) (by rw [xl]; omega) fun H5 r5 s5' nr5 e5 => ?_⟩
        have s15 := s1.trans (s14.trans s5')
        refine ⟨_, rfl, _, rfl, ax, _, _, _, rfl, rfl, Same.tup s15 hsx, atI_nat (j := 2) rfl, by omega, x2, bb, k, c', rfl, by omega, dp_mono s15 _ _ hx2, lay_mem (lay_tup lsi) _ (by simp), hb, by omega, fun H6 p6 s6' np6 e6 => ?_⟩
        have e6' : H6 p6 = some (.lst ((bodyT n bb).map V.str)) := e6
        refine catTwo (s6' _ _ e5) e6' (by simp only [List.length_append, List.length_map, List.length_cons, List.length_nil]; omega) fun H7 r7 s7' nr7 e7 => ?_
        refine ⟨(by show 1 ≤ sizeLine; decide), catOne e7 (by simp only [List.length_append, List.length_map, List.length_cons, List.length_nil]; omega) fun H8 r8 s8' nr8 e8 => ?_⟩
        have s18 := s15.trans (s6'.trans (s7'.trans s8'))
        refine ⟨r8, _, _, _, rfl, s18, (s15.trans (s6'.trans s7')).free nr8, ?_⟩
        rw [e8]
        simp [condT, joinD]
      · rw [stT_if] at ltot ⊢
        obtain ⟨ax, xx, rfl, hsx, hax⟩ := dp_tup_inv hxd
        obtain ⟨x0, x1, x2, x3, rfl, h0, hx1, hx2, hx3⟩ := dp_four hax
        cases h0
        have hsx1 := Same.tup s1 hsx
        obtain ⟨cx, cy, cz, rfl, o1, o2, o3⟩ := cond_three hco
        obtain ⟨ca, cxs, rfl, hcs, hca⟩ := dp_tup_inv hx1
        have okC := cond_okW (w := "if") (by decide) o1 o2 o3
        have okC3 : ∀ d ∈ [cx, cy, cz], okW d := fun d m => okC d (List.mem_cons_of_mem _ m)
        have lmm := lay_mem (lay_tup lsi)
        refine ⟨_, rfl, ax, _, _, _, rfl, rfl, hsx1, atI_nat (j := 0) rfl, rfl, _, rfl, strF (by decide +kernel) ?_⟩
        refine ⟨_, rfl, ax, _, _, _, rfl, rfl, hsx1, atI_nat (j := 0) rfl, rfl, _, rfl, strT ?_⟩
        have l1 : X.length + (1 + (bodyT n b1).length + 1) ≤ 1000 := by
          simp only [List.length_cons, List.length_append, List.length_nil] at ltot
          omega
        refine ⟨_, rfl, ⟨_, rfl⟩, (by show 1 ≤ sizeLine; decide), fun l2 nl2 => ?_⟩
        have sA : Same H1 (upd H1 l2 (.lst [.str "if"])) := same_new nl2 _
        have eA : (upd H1 l2 (.lst [.str "if"])) l2 = some (.lst [.str "if"]) := upd_same
        generalize upd H1 l2 (.lst [.str "if"]) = H2 at sA eA ⊢
        have s12 := s1.trans sA
        refine ⟨_, rfl, ax, _, _, _, rfl, rfl, Same.tup s12 hsx, atI_nat (j := 1) rfl, ca, rfl, ⟨_, Same.tup s12 hcs⟩, fun D nD => lc_strW (fun _ => ⟨rfl, rfl⟩) (Same.tup s12 hcs) hca (by show 3 ≤ 8; decide) okC3 nD fun H3 s3' e3 => ?_⟩
        refine catTwo (s3' _ _ eA) e3 (by show 1 + 3 ≤ 1000; decide) fun H4 r s4' nr e4 => ?_
        refine ⟨_, r, (PyData.str "if" :: [cx, cy, cz]).map strD, rfl, rfl, .inl (SqL.of e4), join_bound (by show 4 ≤ 8; decide) okC, ?_⟩
        have s14 := sA.trans (s3'.trans s4')
        refine ⟨(by show 1 ≤ sizeLine; decide), catOne (s14 _ _ hp) (by rw [xl]; omega) fun H5 r5 s5' nr5 e5 => ?_⟩
        have s15 := s1.trans (s14.trans s5')
        refine ⟨_, rfl, ax, _, _, _, rfl, rfl, Same.tup s15 hsx, atI_nat (j := 2) rfl, by omega, x2, b1, k, c1, rfl, by omega, dp_mono s15 _ _ hx2, lmm _ (by simp), hb1, by omega, fun H6 p6 s6' np6 e6 => ?_⟩
        have e6' : H6 p6 = some (.lst ((bodyT n b1).map V.str)) := e6
        refine catTwo (s6' _ _ e5) e6' (by simp only [List.length_append, List.length_map, List.length_cons, List.length_nil]; omega) fun H7 r7 s7' nr7 e7 => ?_
        have s17 := s15.trans (s6'.trans s7')
        have nr7H := (s15.trans s6').free nr7
        obtain ⟨ss2, rfl⟩ := body_tuple hb2
        refine ⟨_, rfl, ax, _, _, _, rfl, rfl, Same.tup s17 hsx, atI_nat (j := 3) rfl, (by show 0 ≤ sizeLine; decide), fun e0 ne0 => ?_⟩
        have sE0 := same_new ne0 (.tup [])
        have ee0 : (upd H7 e0 (.tup [])) e0 = some (.tup []) := upd_same
        generalize upd H7 e0 (.tup []) = H8 at sE0 ee0 ⊢
        have s18 := s17.trans sE0
        have e78 := sE0 _ _ e7
        have sh2 : SeqAt.shaped (.tuple ss2) = true := by
          show ((PyData.tuple ss2).canLay0 && decide ((PyData.tuple ss2).depth ≤ 64)) = true
          rw [Bool.and_eq_true]
          exact ⟨lmm _ (by simp), decide_eq_true (by have := body_depth hb2; omega)⟩
        refine ⟨.tuple ss2, .tuple [], dp_mono s18 _ _ hx3, .tup (SqT.of ee0) .nil, sh2, by decide +kernel, _, rfl, ?_⟩
        rw [eqv_nil]
        cases hnil : isNil (.tuple ss2) with
        | true =>
          refine iteF ⟨_, rfl, (by show 1 ≤ sizeLine; decide), catOne e78 (by simp only [List.length_append, List.length_map, List.length_cons, List.length_nil]; omega) fun H9 r9 s9' nr9 e9 => ?_⟩
          refine ⟨r9, _, _, _, rfl, s18.trans s9', s18.free nr9, ?_⟩
          rw [e9]
          simp [condT, joinD]
        | false =>
          rw [if_neg (by rw [hnil]; decide)] at ltot
          simp only [List.length_cons, List.length_append, List.length_nil] at ltot
          refine iteT ⟨_, rfl, (by show 1 ≤ sizeLine; decide), catOne e78 (by simp only [List.length_append, List.length_map, List.length_cons, List.length_nil]; omega) fun H9 r9 s9' nr9 e9 => ?_⟩
          have s19 := s18.trans s9'
          refine ⟨_, rfl, ax, _, _, _, rfl, rfl, Same.tup s19 hsx, atI_nat (j := 3) rfl, by omega, x3, .tuple ss2, k, c2, rfl, by omega, dp_mono s19 _ _ hx3, lmm _ (by simp), hb2, by omega, fun H10 p10 s10 np10 e10 => ?_⟩
          have e10' : H10 p10 = some (.lst ((bodyT n (.tuple ss2)).map V.str)) := e10
          refine catTwo (s10 _ _ e9) e10' (by simp only [List.length_append, List.length_map, List.length_cons, List.length_nil]; omega) fun H11 r11 s11 nr11 e11 => ?_
          refine ⟨_, rfl, (by show 1 ≤ sizeLine; decide), catOne e11 (by simp only [List.length_append, List.length_map, List.length_cons, List.length_nil]; omega) fun H12 r12 s12' nr12 e12 => ?_⟩
          refine ⟨r12, _, _, _, rfl, s19.trans (s10.trans (s11.trans s12')), (s19.trans (s10.trans s11)).free nr12, ?_⟩
          rw [e12]
          simp [condT, joinD]
  · rintro σ H1 ⟨p, s2, s3, s4, rfl, s1, np, hp⟩
    rw [hl, List.take_length] at hp
    exact ⟨_, rfl, q _ _ s1 np hp⟩
theorem none_LL {f : Addr} {fd : FuncData} (lv : Nat) : FnOk P w K mg base CX0 lv f fd ["_law_body_here"] (fun vs H Q E => 0 ≠ 0 ∧ spLL K (0 - 1) vs H Q E) :=
  ⟨fun vs H Q E h => absurd rfl h.1, fun A outer s H args us vs Q E _ _ _ _ h => absurd rfl h.1⟩
theorem recLL {f : Addr} {fd : FuncData} (F : Fun K "_law_lines" "_law_lines" sLL f fd) (bF : Binds K fd ["_law_body_here"] []) (mF : mg "_law_lines" = some (.ref f)) (T : Gs K mg) :
    ∀ n : Nat, FnOk P w K mg base CX0 (2 + n) f fd ["_law_body_here"] (spLL K n)
  | 0 => ok_LL (lv := 1) F T ⟨f, fd, none_LL 1, bF, F.kp, mF⟩
  | n + 1 => by
    have ih := recLL F bF mF T n
    have c2 : FnOk P w K mg base CX0 (2 + n) f fd ["_law_body_here"] (fun vs H Q E => n + 1 ≠ 0 ∧ spLL K (n + 1 - 1) vs H Q E) :=
      ⟨fun vs H Q E h => ih.len vs H Q E h.2, fun A outer s H args us vs Q E h1 h2 h3 h4 h => ih.run A outer s H args us vs Q E h1 h2 h3 h4 h.2⟩
    exact ok_LL (lv := 2 + n) (n := n + 1) F T ⟨f, fd, c2, bF, F.kp, mF⟩
end
end My

namespace My
open PySem L2 PySem.Spec PyProof.Rows
abbrev sText : Stmt := top 56
def spText (K : PySem.W.Frag) : Sp := fun vs H Q _ => ∃ (v : V) (k : Str) (d : PyData) (c : Nat), vs = [v] ∧ Dp K H v (.tuple [.str k, d]) ∧ Lay (.tuple [.str k, d]) ∧ k.length ≤ 9 ∧ bodyN k 4 d = some c ∧ c ≤ 24 ∧
  ∀ H', Same H H' → Q (.str (textT k d)) H'
/-- show, whatever the thing is -/
def spShowX (K : PySem.W.Frag) (C : Addr) : Sp := fun vs H Q E => ∃ (v : V) (d : PyData), vs = [v] ∧ Dp K H v d ∧ Lay d ∧ (∀ k b, d = .tuple [.str k, b] → isProg d = true → ∀ H', Same H H' → Q (.str (textT k b)) H') ∧ (isProg d = false → ∀ H', Same H H' → E (.ref C) none H')
def spSaid (K : PySem.W.Frag) : Sp := fun vs H Q _ => ∃ (v : V) (d : PyData), vs = [v] ∧ Dp K H v d ∧ Lay d ∧ (∀ k b, d = .tuple [.str k, b] → isProg d = true → ∀ H' p, Same H H' → H p = none → H' p = some (.tup [.str "text", .str (textT k b)]) → Q (.ref p) H') ∧ (isProg d = false → ∀ H' p, Same H H' → H p = none → H' p = some (.tup [.str "error", .bl true]) → Q (.ref p) H')
theorem prog_shape {d : PyData} (h : isProg d = true) : ∃ k b, d = .tuple [.str k, b] := by
  unfold isProg at h
  split at h
  · rename_i k b
    exact ⟨k, b, rfl⟩
  · cases h
section
variable {X : Cx}
theorem call_isG {a : Addr} {cls : Value} {d : Option Addr} {oe : Obj} {pn : List (Addr × Obj)} (hz : Zc cls d oe) (hf : ∃ vs, oe.data = .fields vs) :
    CallR (X.suite a ((a, oe) :: pn)) (.builtin "isinstance") (fun xs H Q => ∃ D, cls = .ref D ∧ d = none ∧ ExcC X.K D ∧ rIsE X.K D a xs H Q) := by
  intro pins s σ H xs us Q I r h
  obtain ⟨D, rfl, rfl, C, h⟩ := h
  exact call_isE C hz hf pins s σ H xs us Q I r h
def rIsET (K : PySem.W.Frag) (D a : Addr) : List V → Hp → VK → Prop := fun xs H Q => ∃ (tp : Addr) (cs : List V) (ws : List Value) (b : Bool), xs = [.ref a, .ref tp] ∧ H tp = some (.tup cs) ∧ Paired ClsV cs ws ∧ PySem.W.kitAny K (.ref D) ws = some b ∧ Q (.bl b) H
theorem call_isGT {a : Addr} {cls : Value} {d : Option Addr} {oe : Obj} {pn : List (Addr × Obj)} (hz : Zc cls d oe) (hf : ∃ vs, oe.data = .fields vs) :
    CallR (X.suite a ((a, oe) :: pn)) (.builtin "isinstance") (fun xs H Q => ∃ D, cls = .ref D ∧ d = none ∧ ExcC X.K D ∧ rIsET X.K D a xs H Q) := by
  intro pins s σ H xs us Q I r h
  obtain ⟨D, rfl, rfl, C, tp, cs, ws, b, rfl, hT, k, e, q⟩ := h
  obtain ⟨u1, u2, rfl, r1, r2⟩ := vals2 r
  cases (show u2 = Value.ref tp from r2)
  cases (show u1 = Value.ref a from r1)
  obtain ⟨hget, _⟩ := I.pin (a, oe) (List.mem_append.mpr (.inl List.mem_cons_self))
  obtain ⟨vs, hv⟩ := hf
  have J : PySem.W.InstAt s.heap a oe D none := by
    obtain ⟨oc, od, oda, osl⟩ := oe
    obtain ⟨h1, h2⟩ := hz
    dsimp only at h1 h2 hv
    subst h1 h2 hv
    exact ⟨hget, rfl, rfl, trivial⟩
  obtain ⟨_, its, rv, o, h1, h2, n, h3⟩ := (show ObjOk X.prog X.w H s.heap tp (.tup cs) from I.hok tp _ hT)
  have e3 := ClsV.all k rv
  subst e3
  obtain ⟨oc, od, dt, sl⟩ := o
  simp only at h2 h3
  subst h2 h3
  exact PySem.W.kia_tup (PySem.W.handS_kitx_exc C.hg C.hk C.hs C.hd C.ha C.hn C.ht C.hm) I.kIn J h1 e (fun z => nomatch z) fun tk => ⟨.bl b, H, I.kept (t' := tk) fun _ _ z => z, rfl, q⟩
end
/-- what the top has written of the errors -/
structure Er (K : PySem.W.Frag) (mg : Str → Option Value) where
  cP : Addr
  cH : Addr
  c1 : Addr
  c2 : Addr
  c3 : Addr
  c4 : Addr
  c5 : Addr
  gP : mg "BadProgram" = some (.ref cP)
  gH : mg "HouseError" = some (.ref cH)
  g1 : mg "BadHistory" = some (.ref c1)
  g2 : mg "BadRow" = some (.ref c2)
  g3 : mg "BadSide" = some (.ref c3)
  g4 : mg "BadSteps" = some (.ref c4)
  g5 : mg "BadText" = some (.ref c5)
  xP : PySem.W.excIn K cP [.type "ValueError", .type "Exception", .type "BaseException", .type "object"] "ValueError.__new__" = true
  kP : PySem.W.keepIn K (.ref cP) = true
  bP : PySem.W.subIn K (.ref cP) (.type "BaseException") = some true
  tP : PySem.W.typeIn K (.ref cP) = some (.type "type")
  eP : PySem.W.exmOne K (.ref cP) (.ref cH) = some true
  eC : ExcC K cP
  k1 : PySem.W.kitOne K (.ref cP) (.ref cP) = some true
  k5 : PySem.W.kitAny K (.ref cP) [.ref c1, .ref c2, .ref c3, .ref c4, .ref c5] = some false
section
variable {P : Program} {w : World} {K : PySem.W.Frag} {mg : Str → Option Value} {base : Heap}
theorem scText : FnScope ["_law_program_here"] ["_law_program_here"] (defScope sText) := ⟨rfl, rfl, rfl, by decide +kernel, rfl, by decide +kernel, by decide +kernel⟩
theorem ok_text {f : Addr} {fd : FuncData} (F : Fun K "_law_text" "_law_text" sText f fd) (CL : Cal P w K mg base 6 "_law_lines" ["_law_body_here"] (spLL K 4)) : FnOk P w K mg base CX0 7 f fd ["_law_program_here"] (spText K) := by
  refine F.ok scText (fun vs H Q E h => ?_) (fun cdv A outer s H vs Q E hr h => ?_)
  · obtain ⟨v, k, d, c, rfl, _⟩ := h
    rfl
  obtain ⟨v, k, d, c, rfl, hd, ld, hk, hb, hc, q⟩ := h
  refine ⟨_, pss_one (ps_ret (pe_join pe_str (pe_op op_cat (pe_lst (pa_cons (pe_ix ix_tup (pv 0) pe_int (fun _ _ => rfl)) pa_nil)) (pe_call CL.G hr rfl CL.m CL.kp CL.b .nil pass0 (pa_cons (pe_ix ix_tup (pv 0) pe_int (fun _ _ => rfl)) pa_nil))))), ?_⟩
  obtain ⟨a, xs, rfl, hs, ha⟩ := dp_tup_inv hd
  obtain ⟨x0, x1, d0, d1, rfl, e, hx0, hx1⟩ := dp_two ha rfl
  injection e with e0 e
  injection e with e1 e
  subst e0 e1
  cases hx0
  refine ⟨⟨_, rfl⟩, _, rfl, a, _, _, _, rfl, rfl, hs, atI_nat (j := 0) rfl, (by show 1 ≤ sizeLine; decide), fun l nl => ?_⟩
  have s2 : Same H (upd H l (.lst [V.str k])) := same_new nl _
  have el : (upd H l (.lst [V.str k])) l = some (.lst [V.str k]) := upd_same
  generalize upd H l (.lst [V.str k]) = H2 at s2 el ⊢
  refine ⟨_, rfl, a, _, _, _, rfl, rfl, Same.tup s2 hs, atI_nat (j := 1) rfl, x1, d, k, c, rfl, by decide, dp_mono s2 _ _ hx1, lay_mem (lay_tup ld) _ (by simp), hb, hc, fun H3 p s3 np hp3 => ?_⟩
  obtain ⟨m1, m2⟩ := body_okT 4 _ _ hb
  refine catTwo (s3 _ _ el) hp3 (by rw [List.length_map]; show 1 + _ ≤ 1000; omega) fun H4 r s4 nr e4 => ?_
  exact ⟨_, r, k :: bodyT 4 d, rfl, rfl, .inl (SqL.of e4), text_ok hk hb hc, q _ (s2.trans (s3.trans s4))⟩
theorem ok_showX {f : Addr} {fd : FuncData} (F : Fun K "show" "show" sShow f fd) (R : Er K mg) (CP : Cal P w K mg base 7 "is_program" ["thing"] (spProg K)) (CB : Cal P w K mg base 10 "body_lines" ["body"] (spBL K 4)) : FnOk P w K mg base (L2.CX P w) 11 f fd ["program"] (spShowX K R.cP) := by
  refine F.okX scShow (fun vs H Q E h => ?_) (fun cdv A outer s H vs Q E hr h => ?_)
  · obtain ⟨v, d, rfl, _⟩ := h
    rfl
  obtain ⟨v, d, rfl, hd, ld, q, qE⟩ := h
  have hr7 : Room 7 _ := hr.mono (by decide)
  refine ⟨_, pss_cons (ps_if (pt_not (pt_val (pe_call CP.G hr7 rfl CP.m CP.kp CP.b .nil pass0 (pa_cons (pv 0) pa_nil)))) (pss_one (ps_raise rfl (takes_of rfl rfl rfl rfl) (pmk_own PySem.F.excBase_ValueError R.xP R.gP R.kP (raises_own R.bP R.tP) rfl))) pss_nil)
    (pss_cons (ps_asg (pv 0) (pg_tup (by rfl) (pgs_cons (pg_name (i := 1) scShow.nd rfl (.inl rfl)) (pgs_cons (pg_name (i := 2) scShow.nd rfl (.inl rfl)) pgs_nil))))
    (pss_one (ps_ret (pe_join pe_str (pe_op op_cat (pe_lst (pa_cons (pv 1) pa_nil)) (pe_call CB.G hr rfl CB.m CB.kp CB.b .nil pass0 (pa_cons (pv 2) pa_nil))))))), ?_⟩
  refine ⟨_, rfl, v, _, rfl, hd, ld, fun H1 s1 => ⟨_, rfl, ?_⟩⟩
  cases hp : isProg d with
  | false => exact iteT (qE hp _ s1)
  | true =>
    obtain ⟨k, b, rfl⟩ := prog_shape hp
    obtain ⟨a, xs, rfl, hs, ha⟩ := dp_tup_inv hd
    obtain ⟨x0, x1, d0, d1, rfl, e, hx0, hx1⟩ := dp_two ha rfl
    injection e with e0 e
    injection e with e1 e
    subst e0 e1
    cases hx0
    obtain ⟨c, hb, hc, hk⟩ := prog_body hp
    refine iteF ⟨_, rfl, a, _, rfl, Same.tup s1 hs, rfl, _, _, rfl, _, _, rfl, rfl, ?_⟩
    refine ⟨⟨_, rfl⟩, _, rfl, (by show 1 ≤ sizeLine; decide), fun l nl => ?_⟩
    have s2 : Same H1 (upd H1 l (.lst [V.str k])) := same_new nl _
    have el : (upd H1 l (.lst [V.str k])) l = some (.lst [V.str k]) := upd_same
    generalize upd H1 l (.lst [V.str k]) = H2 at s2 el ⊢
    refine ⟨_, rfl, x1, b, k, c, rfl, dp_mono (s1.trans s2) _ _ hx1, hb, hc, fun H3 p s3 np hp3 => ?_⟩
    obtain ⟨m1, m2⟩ := body_okT 4 _ _ hb
    refine catTwo (s3 _ _ el) hp3 (by rw [List.length_map]; show 1 + _ ≤ 1000; omega) fun H4 r s4 nr e4 => ?_
    exact ⟨_, r, k :: bodyT 4 b, rfl, rfl, .inl (SqL.of e4), text_ok (kind_len hk) hb hc, q k b rfl hp _ (s1.trans (s2.trans (s3.trans s4)))⟩
end
abbrev okS (z : Str) : Prop := PyData.strOk z = true
theorem okS_iff {z : Str} : okS z ↔ ∀ n ∈ z.cps.toList, n < 0x110000 := by
  show z.cps.all (· < 0x110000) = true ↔ _
  rw [← Array.all_toList, List.all_eq_true]
  simp
theorem okS_app {a b : Str} (ha : okS a) (hb : okS b) : okS (a ++ b) := by
  rw [okS_iff] at ha hb ⊢
  intro n m
  have m' : n ∈ (a.cps ++ b.cps).toList := m
  rw [Array.toList_append, List.mem_append] at m'
  exact m'.elim (ha n) (hb n)
theorem okS_of (s : String) : okS (Str.ofString s) := by
  rw [okS_iff, Str.ofString_eq_toList]
  intro n m
  have m' : n ∈ s.toList.map Char.toNat := by simpa using m
  obtain ⟨c, _, rfl⟩ := List.mem_map.mp m'
  rcases c.valid with h | h
  · exact Nat.lt_trans h (by decide)
  · exact h.2
theorem okS_lit (s : String) : okS (s : Str) := okS_of s
theorem okS_glue {sep : Str} (hs : okS sep) : ∀ {ys : List Str} {acc : Array Nat}, (∀ n ∈ acc.toList, n < 0x110000) → (∀ y ∈ ys, okS y) → ∀ n ∈ (List.foldl (fun acc (p : Str) => acc ++ sep.cps ++ p.cps) acc ys).toList, n < 0x110000
  | [], acc, ha, _ => ha
  | y :: r, acc, ha, hy => by
    rw [List.foldl_cons]
    refine okS_glue hs (fun n m => ?_) (fun z m => hy z (List.mem_cons_of_mem _ m))
    rw [Array.toList_append, Array.toList_append, List.mem_append, List.mem_append] at m
    rcases m with (m | m) | m
    · exact ha n m
    · exact (okS_iff.mp hs) n m
    · exact (okS_iff.mp (hy y (by simp))) n m
theorem okS_join {sep : Str} {ys : List Str} (hs : okS sep) (hy : ∀ y ∈ ys, okS y) : okS (Txt.join sep ys) := by
  rw [okS_iff]
  show ∀ n ∈ (List.foldl (fun acc (p : Str) => acc ++ sep.cps ++ p.cps) ((ys.headD Str.empty).cps) (ys.drop 1)).toList, n < 0x110000
  refine okS_glue hs (fun n m => ?_) (fun y m => hy y (List.mem_of_mem_drop m))
  cases ys with
  | nil => simp [Str.empty] at m
  | cons y r => exact (okS_iff.mp (hy y (by simp))) n m
theorem okS_empty : okS Str.empty := by decide +kernel
theorem strD_okS {d : PyData} (h : Lay d) : okS (strD d) := by
  cases d with
  | str z =>
    unfold Lay at h
    simp only [PyData.canLay0] at h
    exact h
  | int i => exact okS_of _
  | _ => exact okS_empty
theorem joinD_okS {ds : List PyData} (h : ∀ d ∈ ds, Lay d) : okS (joinD ds) := by
  refine okS_join (okS_lit " ") fun y m => ?_
  obtain ⟨d, md, rfl⟩ := List.mem_map.mp m
  exact strD_okS (h d md)
theorem plainT_okS {s : PyData} (h : Lay s) : okS (plainT s) := by
  unfold plainT
  split
  · rename_i z g t x
    have lm := lay_mem (lay_tup h)
    split
    · refine okS_join (okS_lit " ") fun y m => ?_
      simp only [List.map_cons, List.map_nil, List.mem_cons, List.not_mem_nil, or_false] at m
      rcases m with e | e | e
      · rw [e]; exact strD_okS (lm (.str z) (by simp))
      · rw [e]
        unfold askW
        split
        · exact strD_okS (lm t (by simp))
        · exact okS_app (okS_app (okS_lit "x") (strD_okS (lm (.str g) (by simp)))) (strD_okS (lm t (by simp)))
      · rw [e]; exact strD_okS (lm x (by simp))
    · exact joinD_okS lm
  · exact joinD_okS (lay_mem (lay_tup h))
  · exact okS_empty
theorem condT_okS {w : Str} {co : PyData} (hw : okS w) (h : Lay co) : okS (condT w co) := by
  unfold condT
  split
  · refine okS_join (okS_lit " ") fun y m => ?_
    obtain ⟨d, md, rfl⟩ := List.mem_map.mp m
    rcases List.mem_cons.mp md with rfl | md
    · exact hw
    · exact strD_okS (lay_mem (lay_tup h) d md)
  · exact okS_empty
theorem stT_okS {g : PyData → List Str} (hg : ∀ d, Lay d → ∀ y ∈ g d, okS y) {s : PyData} (h : Lay s) : ∀ y ∈ stT g s, okS y := by
  have one : ∀ y ∈ [plainT s], okS y := fun y m => by rw [List.mem_singleton.mp m]; exact plainT_okS h
  unfold stT
  split
  · rename_i z c b
    have lm := lay_mem (lay_tup h)
    split
    · intro y m
      simp only [List.mem_cons, List.mem_append, List.not_mem_nil, or_false] at m
      rcases m with rfl | m | rfl
      · exact condT_okS (strD_okS (lm (.str z) (by simp))) (lm c (by simp))
      · exact hg b (lm b (by simp)) y m
      · exact okS_lit "end"
    · exact one
  · rename_i z c b1 b2
    have lm := lay_mem (lay_tup h)
    split
    · intro y m
      simp only [List.mem_cons, List.mem_append, List.not_mem_nil, or_false] at m
      rcases m with rfl | (m | m) | rfl
      · exact condT_okS (strD_okS (lm (.str z) (by simp))) (lm c (by simp))
      · exact hg b1 (lm b1 (by simp)) y m
      · split at m
        · cases m
        · rcases List.mem_cons.mp m with rfl | m
          · exact okS_lit "else"
          · exact hg b2 (lm b2 (by simp)) y m
      · exact okS_lit "end"
    · exact one
  · exact one
theorem bodyT_okS : ∀ (n : Nat) (d : PyData), Lay d → ∀ y ∈ bodyT n d, okS y
  | 0, _, _ => fun y m => nomatch m
  | n + 1, .tuple ss, h => by
    intro y m
    have m' : y ∈ (ss.map (stT (bodyT n))).flatten := m
    obtain ⟨ys, my, m2⟩ := List.mem_flatten.mp m'
    obtain ⟨s, ms, rfl⟩ := List.mem_map.mp my
    exact stT_okS (bodyT_okS n) (lay_mem (lay_tup h) s ms) y m2
  | _ + 1, .none, _ => fun y m => nomatch m
  | _ + 1, .bool _, _ => fun y m => nomatch m
  | _ + 1, .int _, _ => fun y m => nomatch m
  | _ + 1, .str _, _ => fun y m => nomatch m
  | _ + 1, .list _, _ => fun y m => nomatch m
  | _ + 1, .dict _, _ => fun y m => nomatch m
theorem textT_okS {k : Str} {d : PyData} (hk : okS k) (h : Lay d) : okS (textT k d) := by
  refine okS_join (okS_lit "\n") fun y m => ?_
  rcases List.mem_cons.mp m with rfl | m
  · exact hk
  · exact bodyT_okS 4 d h y m
/-! ### data without lists, over a heap whose lists change -/
def tupH (H : Hp) : Hp := fun a => match H a with
  | some (.tup xs) => some (.tup xs)
  | some (.frz o u) => some (.frz o u)
  | _ => none
theorem tupH_same (H : Hp) : Same (tupH H) H := fun a o h => by
  unfold tupH at h
  split at h
  · rename_i e; rw [e]; exact h
  · rename_i e; rw [e]; exact h
  · cases h
def KeepT (H H' : Hp) : Prop := (∀ a xs, H a = some (.tup xs) → H' a = some (.tup xs)) ∧ ∀ a o u, H a = some (.frz o u) → H' a = some (.frz o u)
theorem KeepT.same {H H' : Hp} (k : KeepT H H') : Same (tupH H) (tupH H') := fun a o h => by
  unfold tupH at h
  split at h
  · rename_i e
    unfold tupH
    rw [k.1 _ _ e]
    exact h
  · rename_i e
    unfold tupH
    rw [k.2 _ _ _ e]
    exact h
  · cases h
theorem KeepT.trans {H H' H'' : Hp} (a : KeepT H H') (b : KeepT H' H'') : KeepT H H'' := ⟨fun x xs e => b.1 _ _ (a.1 _ _ e), fun x o u e => b.2 _ _ _ (a.2 _ _ _ e)⟩
theorem KeepT.of {H H' : Hp} (s : Same H H') : KeepT H H' := ⟨fun x xs e => s _ _ e, fun x o u e => s _ _ e⟩
theorem KeepT.fr {b : Addr} {H H' : Hp} (hb : ∃ xs, H b = some (.lst xs)) (f : Fr b H H') : KeepT H H' := by
  obtain ⟨xs, hb⟩ := hb
  exact ⟨fun x ys e => f _ _ (fun z => by rw [z, hb] at e; cases e) e, fun x o u e => f _ _ (fun z => by rw [z, hb] at e; cases e) e⟩
theorem KeepT.upd {b : Addr} {H : Hp} {o : HO} (hb : ∃ xs, H b = some (.lst xs)) : KeepT H (upd H b o) := KeepT.fr hb (Fr.upd o)
abbrev Dt (K : PySem.W.Frag) (H : Hp) (v : V) (d : PyData) : Prop := Dp K (tupH H) v d
theorem new_tup {K : PySem.W.Frag} {H : Hp} {p : Addr} {xs : List V} {ds : List PyData} (np : H p = none) (h : DpAll K (tupH H) xs ds) : Dt K (upd H p (.tup xs)) (.ref p) (.tuple ds) := by
  have e : tupH (upd H p (.tup xs)) p = some (.tup xs) := by unfold tupH; rw [upd_same]
  exact .tup (SqT.of e) (dpAll_mono (KeepT.of (same_new np _)).same _ _ h)
theorem Bag.lst {H : Hp} {b : Addr} (h : Bag H b) : ∃ xs, H b = some (.lst xs) := by
  obtain ⟨c, s, e, _⟩ := h
  exact ⟨_, e⟩
/-! ### as in Q3 and Q7, for laws without the walks -/
def Fx (S : List Addr) (H H' : Hp) : Prop := ∀ p o, p ∉ S → H p = some o → H' p = some o
theorem Fx.of {S : List Addr} {H H' : Hp} (s : Same H H') : Fx S H H' := fun p o _ e => s p o e
theorem Fx.trans {S : List Addr} {H H' H'' : Hp} (a : Fx S H H') (b : Fx S H' H'') : Fx S H H'' := fun p o n e => b p o n (a p o n e)
theorem Fx.upd {S : List Addr} {H : Hp} {p : Addr} {o : HO} (m : p ∈ S) : Fx S H (upd H p o) := fun q x n e => by
  rw [upd_ne (fun z : q = p => n (by rw [z]; exact m))]
  exact e
theorem Fx.mono {S S' : List Addr} {H H' : Hp} (h : ∀ p ∈ S, p ∈ S') (a : Fx S H H') : Fx S' H H' := fun p o n e => a p o (fun m => n (h p m)) e
/-- what was changed was new: nothing has changed for who stood before -/
theorem Fx.same {S : List Addr} {H0 H H' : Hp} (s : Same H0 H) (n : ∀ p ∈ S, H0 p = none) (a : Fx S H H') : Same H0 H' := fun p o e => a p o (fun m => by rw [n p m] at e; cases e) (s p o e)
theorem made_same {H H' : Hp} {x dx C : Addr} (nx : H x = none) (ndx : H dx = none) (f : Fx [x] (upd (upd H dx (.own x)) x (.ins C dx [])) H') : Same H H' := fun p o e => by
  have h1 : p ≠ x := ne_of_none e nx
  refine f p o (by simp; exact h1) ?_
  rw [upd_ne h1, upd_ne (ne_of_none e ndx)]
  exact e
theorem made_same0 {H : Hp} {x dx C : Addr} (nx : H x = none) (ndx : H dx = none) : Same H (upd (upd H dx (.own x)) x (.ins C dx [])) := made_same nx ndx fun p o _ e => e
/-! ### a line of a text and its parts -/
abbrev sDec : Stmt := top 38
abbrev sNW : Stmt := top 37
abbrev sAP : Stmt := top 36
abbrev sLP : Stmt := top 35
abbrev sOpn : Stmt := top 41
def isDec (z : Str) : Bool := Txt.isascii z && Txt.isdigit z && decide (z.length ≤ 31) && (decide (z = "0") || !Txt.startswith z "0")
def numW (z : Str) : PyData := if isDec z = true then .int ((intText? z).getD 0) else .str z
def numV8 (z : Str) : V := if isDec z = true then .int ((intText? z).getD 0) else .str z
theorem numV_dp {K : PySem.W.Frag} {H : Hp} (z : Str) : Dp K H (numV8 z) (numW z) := by
  unfold numV8 numW
  split
  · exact .int _
  · exact .str _
theorem digit_ascii : ∀ c, c < 128 → Unicode.isDigit c = true → 48 ≤ c ∧ c ≤ 57 := by decide +kernel
theorem dec_int {z : Str} (h : isDec z = true) : ∃ n, intText? z = some n ∧ z.length ≤ 640 := by
  unfold isDec at h
  rw [Bool.and_eq_true, Bool.and_eq_true, Bool.and_eq_true] at h
  obtain ⟨⟨⟨h1, h2⟩, h3⟩, _⟩ := h
  have h3' := of_decide_eq_true h3
  unfold Txt.isascii at h1
  unfold Txt.isdigit at h2
  rw [Bool.and_eq_true] at h2
  obtain ⟨h4, h5⟩ := h2
  have h4' := of_decide_eq_true h4
  rw [Array.all_eq_true_iff_forall_mem] at h1 h5
  refine ⟨_, intText_digits (x := z) (fun c hc => ?_) (fun e => ?_) (by omega), by omega⟩
  · have hc' : c ∈ z.cps := Array.mem_toList_iff.mp hc
    exact digit_ascii c (of_decide_eq_true (h1 c hc')) (h5 c hc')
  · have : z.cps.toList.length = 0 := by rw [e]; rfl
    rw [Array.length_toList] at this
    have h6 : z.length = z.cps.size := rfl
    omega
/-- the sign behind x and what is written behind it -/
def askP (ws : List Str) : PyData := match ws with
  | [_, p, x] => if Txt.startswith p "x+" = true ∨ Txt.startswith p "x-" = true then .tuple [.str "ask", .str ⟨#[(p.cps.toList[1]?).getD 0]⟩, numW (cutS p (some 2) none), .str x] else .tuple [.str "ask", .str "=", numW p, .str x]
  | _ => .tuple []
def lineP (w : Str) (ws : List Str) : PyData :=
  if w = "ask" then askP (w :: ws) else if w = "if" ∨ w = "while" then .tuple [.str w, .tuple (ws.map numW)] else .tuple (.str w :: ws.map numW)
def spDec (K : PySem.W.Frag) : Sp := fun vs H Q _ => ∃ (z : Str), vs = [.str z, .int 31] ∧ z.length ≤ sizeLine ∧ Q (.bl (isDec z)) H
def spNW (K : PySem.W.Frag) : Sp := fun vs H Q _ => ∃ (z : Str), vs = [.str z] ∧ z.length ≤ sizeLine ∧ Q (numV8 z) H
def spAP (K : PySem.W.Frag) : Sp := fun vs H Q _ => ∃ (a : Addr) (ws : List Str), vs = [.ref a] ∧ H a = some (.lst (ws.map V.str)) ∧ (∀ u ∈ ws, u.length ≤ sizeLine) ∧ ∀ H' p, Same H H' → H p = none → Dt K H' (.ref p) (askP ws) → Q (.ref p) H'
def spLP (K : PySem.W.Frag) : Sp := fun vs H Q _ => ∃ (z w : Str) (ws : List Str), vs = [.str z] ∧ z.length + 2 ≤ sizeLine ∧ Txt.split z " " = w :: ws ∧ (∀ u ∈ w :: ws, u.length ≤ sizeLine) ∧ ws.length ≤ 10000 ∧ ∀ H' p, Same H H' → H p = none → Dt K H' (.ref p) (lineP w ws) → Q (.ref p) H'
/-- a line that opens an if or a while -/
def isOpen (d : PyData) : Bool := match d with
  | .tuple [.str w, c] => decide (w = "if" ∨ w = "while") && isCond c
  | _ => false
def spOpn (K : PySem.W.Frag) : Sp := fun vs H Q _ => ∃ (v : V) (ds : List PyData), vs = [v] ∧ Dp K H v (.tuple ds) ∧ Lay (.tuple ds) ∧ (ds ≠ [] → ∃ w r, ds = .str w :: r) ∧ Q (.bl (isOpen (.tuple ds))) H
section
variable {P : Program} {w : World} {K : PySem.W.Frag} {mg : Str → Option Value} {base : Heap}
theorem scDec : FnScope ["word", "most"] ["word", "most"] (defScope sDec) := ⟨rfl, rfl, rfl, by decide +kernel, rfl, by decide +kernel, by decide +kernel⟩
theorem ok_Dec {f : Addr} {fd : FuncData} (F : Fun K "is_decimal" "is_decimal" sDec f fd) (T : Gs K mg) : FnOk P w K mg base CX0 1 f fd ["word", "most"] (spDec K) := by
  refine F.ok scDec (fun vs H Q E h => ?_) (fun cdv A outer s H vs Q E hr h => ?_)
  · obtain ⟨z, rfl, _⟩ := h
    rfl
  obtain ⟨z, rfl, hz, q⟩ := h
  refine ⟨_, (pss_cons (ps_if (PW.pt (pw_or (pt_not (pt_val (pe_m0 PySem.F.slot_str_isascii PySem.F.type_str_isascii mt_isascii (pv 0)))) (pw_or (pt_not (pt_val (pe_m0 PySem.F.slot_str_isdigit PySem.F.type_str_isdigit mt_isdigit (pv 0)))) (pw_or1 (pt_cmpR op_gt (pe_callB call_len_str (by rfl) T.len PySem.boot_len (pa_cons (pv 0) pa_nil)) (pv 1) (nomark _))))))
    (pss_one (ps_ret pe_bl))
    pss_nil)
  (pss_one (ps_ret (pe_or (pe_cmpR op_eq (pv 0) pe_str (nomark _)) (pe_one (pe_not (pe_m1 PySem.F.slot_str_startswith PySem.F.type_str_startswith mt_startswith (pv 0) pe_str))))))), ?_⟩
  refine ⟨_, rfl, ⟨z, rfl⟩, z, rfl, rfl, trivial, _, rfl, ?_⟩
  cases h1 : Txt.isascii z with
  | false =>
    have : isDec z = false := by unfold isDec; rw [h1]; rfl
    rw [this] at q
    exact iteT q
  | true =>
    refine iteF ⟨_, rfl, ⟨z, rfl⟩, z, rfl, rfl, trivial, _, rfl, ?_⟩
    cases h2 : Txt.isdigit z with
    | false =>
      have : isDec z = false := by unfold isDec; rw [h1, h2]; rfl
      rw [this] at q
      exact iteT q
    | true =>
      refine iteF ⟨_, rfl, z, rfl, hz, _, rfl, _, _, rfl, rfl, _, rfl, ?_⟩
      by_cases c : 31 < z.length
      · have : isDec z = false := by unfold isDec; rw [h1, h2, decide_eq_false (show ¬ z.length ≤ 31 by omega)]; rfl
        rw [this] at q
        refine ite2 (fun _ => q) (fun n => absurd (decide_eq_true (show (31 : Int) < (z.length : Nat) by omega)) n)
      · refine ite2 (fun n => absurd (of_decide_eq_true n) (by omega)) (fun _ => ?_)
        refine ⟨_, rfl, rfl, _, rfl, ?_⟩
        by_cases c0 : z = "0"
        · have : isDec z = true := by unfold isDec; rw [h1, h2, decide_eq_true (show z.length ≤ 31 by omega), decide_eq_true c0]; rfl
          rw [this] at q
          exact ite2 (fun _ => q) (fun n => absurd (decide_eq_true (by rw [c0])) n)
        · have : isDec z = !Txt.startswith z "0" := by unfold isDec; rw [h1, h2, decide_eq_true (show z.length ≤ 31 by omega), decide_eq_false c0]; rfl
          rw [this] at q
          exact ite2 (fun n => absurd (of_decide_eq_true n) (fun e => c0 (by injection e))) (fun _ => ⟨_, rfl, ⟨z, rfl⟩, z, _, rfl, rfl, _, rfl, q⟩)
theorem scNW : FnScope ["word"] ["word"] (defScope sNW) := ⟨rfl, rfl, rfl, by decide +kernel, rfl, by decide +kernel, by decide +kernel⟩
theorem len_longest : (Str.ofString (toString longest)).length = 31 := by decide +kernel
theorem ok_NW {f : Addr} {fd : FuncData} (F : Fun K "number_or_word" "number_or_word" sNW f fd) (T : Gs K mg) (CD : Cal P w K mg base 1 "is_decimal" ["word", "most"] (spDec K)) : FnOk P w K mg base CX0 2 f fd ["word"] (spNW K) := by
  refine F.ok scNW (fun vs H Q E h => ?_) (fun cdv A outer s H vs Q E hr h => ?_)
  · obtain ⟨z, rfl, _⟩ := h
    rfl
  obtain ⟨z, rfl, hz, q⟩ := h
  refine ⟨_, (pss_one (ps_ret (pe_ifExp (pt_val (pe_call CD.G hr rfl CD.m CD.kp CD.b .nil pass0 (pa_cons (pv 0) (pa_cons (pe_callB call_len_str (by rfl) T.len PySem.boot_len (pa_cons (pe_callTy call_strW (by rfl) T.str (by decide +kernel) (pa_cons (pe_gint rfl T.mL) pa_nil)) pa_nil)) pa_nil)))) (pe_callTy call_int_str (by rfl) T.int (by decide +kernel) (pa_cons (pv 0) pa_nil)) (pv 0)))), ?_⟩
  refine ⟨_, rfl, .inr ⟨longest, rfl, wait_log (by decide +kernel) (Int.le_refl _), _, rfl, (by rw [len_longest]; decide), z, (by rw [len_longest]; rfl), hz, _, rfl, ?_⟩⟩
  cases hd : isDec z with
  | true =>
    obtain ⟨n, hn, hl⟩ := dec_int hd
    have e : numV8 z = .int n := by unfold numV8; rw [if_pos hd, hn]; rfl
    rw [e] at q
    exact iteT ⟨_, rfl, z, n, rfl, hn, hl, q⟩
  | false =>
    have e : numV8 z = .str z := by unfold numV8; rw [if_neg (by rw [hd]; decide)]
    rw [e] at q
    exact iteF ⟨_, rfl, q⟩
theorem sw_len {p y : Str} (h : Txt.startswith p y = true) : y.length ≤ p.length := by
  unfold Txt.startswith at h
  rw [Bool.and_eq_true] at h
  have := of_decide_eq_true h.1
  omega
theorem scAP : FnScope ["words", "position", "variable"] ["words"] (defScope sAP) := ⟨rfl, rfl, rfl, by decide +kernel, rfl, by decide +kernel, by decide +kernel⟩
theorem ok_AP {f : Addr} {fd : FuncData} (F : Fun K "ask_parts" "ask_parts" sAP f fd) (T : Gs K mg) (CN : Cal P w K mg base 2 "number_or_word" ["word"] (spNW K)) : FnOk P w K mg base CX0 3 f fd ["words"] (spAP K) := by
  refine F.ok scAP (fun vs H Q E h => ?_) (fun cdv A outer s H vs Q E hr h => ?_)
  · obtain ⟨a, ws, rfl, _⟩ := h
    rfl
  obtain ⟨a, ws, rfl, ha, hz, q⟩ := h
  refine ⟨_, (pss_cons (ps_if (pt_cmpR op_ne (pe_callB call_len_seq (by rfl) T.len PySem.boot_len (pa_cons (pv 0) pa_nil)) pe_int (nomark _))
    (pss_one (ps_ret (pe_tup pa_nil)))
    pss_nil)
  (pss_cons (ps_par (i := 1) (j := 2) rfl scAP.nd rfl rfl (by decide) rfl rfl (pa_cons (pe_ix ix_list (pv 0) pe_int (fun _ _ => rfl)) (pa_cons (pe_ix ix_list (pv 0) pe_int (fun _ _ => rfl)) pa_nil)) (by rfl))
  (pss_cons (ps_if (PW.pt (pw_or (pt_val (pe_m1 PySem.F.slot_str_startswith PySem.F.type_str_startswith mt_startswith (pv 1) pe_str)) (pw_or1 (pt_val (pe_m1 PySem.F.slot_str_startswith PySem.F.type_str_startswith mt_startswith (pv 1) pe_str)))))
    (pss_one (ps_ret (pe_tup (pa_cons pe_str (pa_cons (pe_ix ix_str (pv 1) pe_int (fun _ _ => rfl)) (pa_cons (pe_call CN.G hr rfl CN.m CN.kp CN.b .nil pass0 (pa_cons (pe_slice sl_str (pv 1) (po_some pe_int) po_none) pa_nil)) (pa_cons (pv 2) pa_nil)))))))
    pss_nil)
  (pss_one (ps_ret (pe_tup (pa_cons pe_str (pa_cons pe_str (pa_cons (pe_call CN.G hr rfl CN.m CN.kp CN.b .nil pass0 (pa_cons (pv 1) pa_nil)) (pa_cons (pv 2) pa_nil)))))))))), ?_⟩
  refine ⟨_, rfl, a, _, rfl, .inl (SqL.of ha), rfl, _, rfl, ?_⟩
  by_cases c : ws.length = 3
  · refine ite2 (fun n => absurd n (by rw [List.length_map, c]; decide)) (fun _ => ?_)
    match ws, c, ha, hz, q with
    | [u, p, x], _, ha, hz, q =>
    refine ⟨_, rfl, a, _, _, _, rfl, rfl, SqL.of ha, atI_nat (j := 1) rfl, _, rfl, a, _, _, _, rfl, rfl, SqL.of ha, atI_nat (j := 2) rfl, _, _, rfl, ?_⟩
    dsimp only [List.set_cons_succ, List.set_cons_zero]
    have hp : p.length ≤ sizeLine := hz p (by simp)
    by_cases cs : Txt.startswith p "x+" = true ∨ Txt.startswith p "x-" = true
    · have e : askP [u, p, x] = .tuple [.str "ask", .str ⟨#[(p.cps.toList[1]?).getD 0]⟩, numW (cutS p (some 2) none), .str x] := by show (if _ then _ else _) = _; exact if_pos cs
      rw [e] at q
      have h2 : 2 ≤ p.length := by
        rcases cs with h | h
        · exact sw_len h
        · exact sw_len h
      obtain ⟨ch, hch⟩ : ∃ ch, p.cps.toList[1]? = some ch := by
        have : 1 < p.cps.toList.length := by rw [Array.length_toList]; exact h2
        exact ⟨_, List.getElem?_eq_getElem this⟩
      rw [hch] at q
      refine ⟨_, rfl, ⟨p, rfl⟩, p, _, rfl, rfl, _, rfl, ?_⟩
      cases h1 : Txt.startswith p "x+" with
      | true =>
        refine iteT ⟨_, rfl, p, _, ch, rfl, rfl, hp, atI_nat (j := 1) hch, _, rfl, _, rfl, p, rfl, hp, cutS p (some 2) none, rfl, Nat.le_trans (cutS_length _ _ _) hp, _, rfl, (by show 4 ≤ sizeLine; decide), fun t nt => ?_⟩
        exact q _ t (same_new nt _) nt (new_tup nt (.cons (.str _) (.cons (.str _) (.cons (numV_dp _) (.cons (.str _) .nil)))))
      | false =>
        have h2' : Txt.startswith p "x-" = true := by rcases cs with h | h; · rw [h1] at h; cases h
                                                      · exact h
        refine iteF ⟨_, rfl, ⟨p, rfl⟩, p, _, rfl, rfl, _, rfl, ?_⟩
        rw [h2']
        refine iteT ⟨_, rfl, p, _, ch, rfl, rfl, hp, atI_nat (j := 1) hch, _, rfl, _, rfl, p, rfl, hp, cutS p (some 2) none, rfl, Nat.le_trans (cutS_length _ _ _) hp, _, rfl, (by show 4 ≤ sizeLine; decide), fun t nt => ?_⟩
        exact q _ t (same_new nt _) nt (new_tup nt (.cons (.str _) (.cons (.str _) (.cons (numV_dp _) (.cons (.str _) .nil)))))
    · have e : askP [u, p, x] = .tuple [.str "ask", .str "=", numW p, .str x] := by show (if _ then _ else _) = _; exact if_neg cs
      rw [e] at q
      have c1 : Txt.startswith p "x+" = false := by cases h : Txt.startswith p "x+" with | false => rfl | true => exact absurd (.inl h) cs
      have c2 : Txt.startswith p "x-" = false := by cases h : Txt.startswith p "x-" with | false => rfl | true => exact absurd (.inr h) cs
      refine ⟨_, rfl, ⟨p, rfl⟩, p, _, rfl, rfl, _, rfl, ?_⟩
      rw [c1]
      refine iteF ⟨_, rfl, ⟨p, rfl⟩, p, _, rfl, rfl, _, rfl, ?_⟩
      rw [c2]
      refine iteF ⟨_, rfl, p, rfl, hp, _, rfl, (by show 4 ≤ sizeLine; decide), fun t nt => ?_⟩
      exact q _ t (same_new nt _) nt (new_tup nt (.cons (.str _) (.cons (.str _) (.cons (numV_dp p) (.cons (.str _) .nil)))))
  · refine ite2 (fun _ => ?_) (fun n => absurd (by rw [List.length_map]; show (!decide (V.int ((ws.length : Nat) : Int) = V.int 3)) = true; rw [decide_eq_false (fun e => c (by injection e with e; omega))]; rfl) n)
    have e : askP ws = .tuple [] := by
      unfold askP
      split
      · exact absurd rfl c
      · rfl
    rw [e] at q
    exact ⟨(by show 0 ≤ sizeLine; decide), fun t nt => q _ t (same_new nt _) nt (new_tup nt .nil)⟩
theorem getB (w : Str) : (getT [("if", V.int 2), ("while", V.int 1)] (some w)).isSome = decide (w = "if" ∨ w = "while") := by
  by_cases h1 : w = "if"
  · subst h1; decide +kernel
  · by_cases h2 : w = "while"
    · subst h2; decide +kernel
    · rw [decide_eq_false (by rintro (h | h) <;> contradiction)]
      show (lookT [("if", V.int 2), ("while", V.int 1)] w).isSome = false
      unfold lookT
      have e1 : (("if" : Str) == w) = false := beq_false_of_ne (fun e => h1 e.symm)
      have e2 : (("while" : Str) == w) = false := beq_false_of_ne (fun e => h2 e.symm)
      rw [List.find?_cons_of_neg (by rw [e1]; decide), List.find?_cons_of_neg (by rw [e2]; decide)]
      rfl
abbrev nsLP : List Str := ["line", "words", "parts", "word"]
theorem scLP : FnScope nsLP ["line"] (defScope sLP) := ⟨rfl, rfl, rfl, by decide +kernel, rfl, by decide +kernel, by decide +kernel⟩
theorem numsV {K : PySem.W.Frag} {H : Hp} : ∀ ws : List Str, DpAll K H (ws.map numV8) (ws.map numW)
  | [] => .nil
  | z :: r => .cons (numV_dp z) (numsV r)
theorem ok_LP {f : Addr} {fd : FuncData} (F : Fun K "line_parts" "line_parts" sLP f fd) (T : Gs K mg) (D : Gd K w mg) (CN : Cal P w K mg base 2 "number_or_word" ["word"] (spNW K)) (CA : Cal P w K mg base 3 "ask_parts" ["words"] (spAP K)) : FnOk P w K mg base CX0 4 f fd ["line"] (spLP K) := by
  refine F.ok scLP (fun vs H Q E h => ?_) (fun cdv A outer s H vs Q E hr h => ?_)
  · obtain ⟨z, w', ws, rfl, _⟩ := h
    rfl
  obtain ⟨z, wd, ws, rfl, hz, hsp, hwl, hws, q⟩ := h
  have hr2 : Room 2 _ := hr.mono (by decide)
  refine ⟨_, (pss_cons (ps_set (i := 1) scLP.nd rfl (.inl rfl) (pe_m1 PySem.F.slot_str_split PySem.F.type_str_split mt_split (pv 0) pe_str))
  (pss_cons (ps_if (pt_cmpR op_eq (pe_ix ix_list (pv 1) pe_int (fun _ _ => rfl)) pe_str (nomark _))
    (pss_one (ps_ret (pe_call CA.G hr rfl CA.m CA.kp CA.b .nil pass0 (pa_cons (pv 1) pa_nil))))
    pss_nil)
  (pss_cons (ps_setLc (i := 2) (own := [("word", 3)]) (g := gName 3) (tt := tYes) rfl scLP.nd rfl rfl (sw_true rfl rfl rfl (by decide +kernel)) (pi_list (pe_slice sl_list (pv 1) (po_some pe_int) po_none)) (blkOk_by (N := nsLP) (sc := defScope sLP) (by decide +kernel)) (fun _ _ _ _ _ => pg_name (i := 3) scLP.nd rfl (.inl rfl)) (fun _ _ _ _ _ => pts_nil) (fun _ _ _ _ _ => pe_call CN.G hr2 rfl CN.m CN.kp CN.b .nil pass0 (pa_cons (pv 3) pa_nil)))
  (pss_cons (ps_if (pt_cmpR op_inK (pe_ix ix_list (pv 1) pe_int (fun _ _ => rfl)) (pe_gref rfl D.mB) (by rfl))
    (pss_one (ps_ret (pe_tup (pa_cons (pe_ix ix_list (pv 1) pe_int (fun _ _ => rfl)) (pa_cons (pe_callTy call_tuple_of (by rfl) T.tup (by decide +kernel) (pa_cons (pv 2) pa_nil)) pa_nil)))))
    pss_nil)
  (pss_one (ps_ret (pe_tup (pa_cons (pe_ix ix_list (pv 1) pe_int (fun _ _ => rfl)) (StX.pa_star (pv 2) pa_nil))))))))), ?_⟩
  refine ⟨_, rfl, ⟨z, rfl⟩, z, _, rfl, rfl, (by decide +kernel), hz, fun a na => ?_⟩
  rw [hsp]
  have u1 := same_new na (.lst ((wd :: ws).map V.str))
  have e1 : (upd H a (.lst ((wd :: ws).map V.str))) a = some (.lst ((wd :: ws).map V.str)) := upd_same
  generalize upd H a (.lst ((wd :: ws).map V.str)) = H1 at u1 e1 ⊢
  dsimp only [List.set_cons_succ, List.set_cons_zero]
  refine ⟨_, rfl, a, _, _, _, rfl, rfl, SqL.of e1, atI_nat (j := 0) rfl, rfl, _, rfl, ?_⟩
  by_cases ca : wd = "ask"
  · refine ite2 (fun _ => ?_) (fun n => absurd (decide_eq_true (by rw [ca])) n)
    refine ⟨_, rfl, a, wd :: ws, rfl, e1, hwl, fun H' p s' np hd => q H' p (u1.trans s') (u1.free np) ?_⟩
    unfold lineP
    rw [if_pos ca]
    exact hd
  refine ite2 (fun n => absurd (of_decide_eq_true n) (fun e => ca (by injection e))) (fun _ => ?_)
  refine ⟨_, rfl, _, rfl, a, _, rfl, SqL.of e1, fun b nb => ?_⟩
  rw [show cutV ((wd :: ws).map V.str) (some 1) none = ws.map V.str from cut_hi _ 1]
  have u2 := same_new nb (.lst (ws.map V.str))
  have e2 : (upd H1 b (.lst (ws.map V.str))) b = some (.lst (ws.map V.str)) := upd_same
  generalize upd H1 b (.lst (ws.map V.str)) = H2 at u2 e2 ⊢
  refine ⟨b, rfl, ⟨_, SqL.of e2⟩, fun G nG => lc_list (K := K) (a := b) (xs := ws.map V.str) (fun i H' => Same H2 H' ∧ H' G = some (.lst ((ws.take i).map numV8))) ⟨same_new nG _, upd_same⟩ (fun i H' _ ⟨s1, _⟩ => SqL.of (s1 _ _ e2)) ?_ ?_⟩
  · rintro i y H3 hy ⟨s1, eG⟩
    rw [List.getElem?_map] at hy
    cases hu : ws[i]? with
    | none => rw [hu] at hy; cases hy
    | some u =>
    rw [hu] at hy
    cases hy
    have hi : i < ws.length := (List.getElem?_eq_some_iff.mp hu).1
    refine ⟨rfl, ?_⟩
    dsimp only [tYes]
    rw [if_pos rfl]
    refine ⟨_, rfl, u, rfl, hwl u (List.mem_cons_of_mem _ (List.mem_of_getElem? hu)), (ws.take i).map numV8, eG, ?_, ?_⟩
    · rw [List.length_map, List.length_take]; exact Nat.lt_of_le_of_lt (by omega : _ ≤ 10000) (by decide)
    · refine ⟨same_upd s1 nG _, ?_⟩
      rw [upd_same, take_snoc hu, List.map_append]
      rfl
  rintro H3 ⟨s1, eG⟩
  rw [List.length_map, List.take_length] at eG
  have u3 := u2.trans s1
  have e3 := u3 _ _ e1
  dsimp only [List.set_cons_succ, List.set_cons_zero]
  refine ⟨_, rfl, a, _, _, _, rfl, rfl, SqL.of e3, atI_nat (j := 0) rfl, D.aB, _, some wd, rfl, D.tB, rfl, _, rfl, ?_⟩
  rw [if_neg (show ¬ (false = true) by decide), getB]
  by_cases cb : wd = "if" ∨ wd = "while"
  · refine ite2 (fun _ => ?_) (fun n => absurd (decide_eq_true cb) n)
    refine ⟨_, rfl, a, _, _, _, rfl, rfl, SqL.of e3, atI_nat (j := 0) rfl, _, rfl, G, _, rfl, .inl ⟨SqL.of eG, fun l nl => ?_⟩⟩
    have u4 := same_new nl (.tup (ws.map numV8))
    have d4 : Dt K (upd H3 l (.tup (ws.map numV8))) (.ref l) (.tuple (ws.map numW)) := new_tup nl (numsV ws)
    generalize upd H3 l (.tup (ws.map numV8)) = H4 at u4 d4 ⊢
    refine ⟨(by show 2 ≤ sizeLine; decide), fun t nt => ?_⟩
    have sA := u1.trans (u3.trans u4)
    refine q _ t (sA.trans (same_new nt _)) (sA.free nt) ?_
    unfold lineP
    rw [if_neg ca, if_pos cb]
    exact new_tup nt (.cons (.str _) (.cons d4 .nil))
  · refine ite2 (fun n => absurd (of_decide_eq_true n) cb) (fun _ => ?_)
    refine ⟨_, rfl, a, _, _, _, rfl, rfl, SqL.of e3, atI_nat (j := 0) rfl, _, rfl, G, _, rfl, .inr (SqL.of eG), ?_, fun t nt => ?_⟩
    · rw [List.append_nil, List.length_cons, List.length_map]
      exact Nat.le_trans (by omega : _ ≤ 10001) (by decide)
    · have sA := u1.trans u3
      refine q _ t (sA.trans (same_new nt _)) (sA.free nt) ?_
      unfold lineP
      rw [if_neg ca, if_neg cb]
      refine new_tup nt (.cons (.str _) ?_)
      rw [List.append_nil]
      exact numsV ws
theorem scOpn : FnScope ["parts"] ["parts"] (defScope sOpn) := ⟨rfl, rfl, rfl, by decide +kernel, rfl, by decide +kernel, by decide +kernel⟩
theorem ok_Opn {f : Addr} {fd : FuncData} (F : Fun K "is_opening" "is_opening" sOpn f fd) (T : Gs K mg) (D : Gd K w mg) (CC : Cal P w K mg base 4 "is_condition" ["thing"] (sp1 isCond K)) : FnOk P w K mg base CX0 5 f fd ["parts"] (spOpn K) := by
  refine F.ok scOpn (fun vs H Q E h => ?_) (fun cdv A outer s H vs Q E hr h => ?_)
  · obtain ⟨v, ds, rfl, _⟩ := h
    rfl
  obtain ⟨v, ds, rfl, hd, hl, hw, q⟩ := h
  refine ⟨_, (pss_one (ps_ret (pe_and (pe_cmpR op_eq (pe_callB call_len_seq (by rfl) T.len PySem.boot_len (pa_cons (pv 0) pa_nil)) pe_int (nomark _)) (pe_and (pe_cmpR op_inK (pe_ix ix_tup (pv 0) pe_int (fun _ _ => rfl)) (pe_gref rfl D.mB) (by rfl)) (pe_one (pe_call CC.G hr rfl CC.m CC.kp CC.b .nil pass0 (pa_cons (pe_ix ix_tup (pv 0) pe_int (fun _ _ => rfl)) pa_nil))))))), ?_⟩
  obtain ⟨a, xs, rfl, hs, ha⟩ := dp_tup_inv hd
  have hxl := dpAll_len ha
  refine ⟨_, rfl, a, _, rfl, .inr hs, rfl, _, rfl, ?_⟩
  by_cases c : ds.length = 2
  · refine ite2 (fun _ => ?_) (fun n => absurd (decide_eq_true (by rw [hxl, c]; rfl)) n)
    match ds, c, hw, ha, hl, q with
    | [d1, d2], _, hw, ha, hl, q =>
    obtain ⟨wd, r, e⟩ := hw (by simp)
    cases e
    obtain ⟨x1, x2, rfl, h1, h2⟩ : ∃ x1 x2, xs = [x1, x2] ∧ Dp K H x1 (.str wd) ∧ Dp K H x2 d2 := by
      cases ha with
      | cons h1 t =>
        cases t with
        | cons h2 t => cases t; exact ⟨_, _, rfl, h1, h2⟩
    cases h1
    refine ⟨_, rfl, a, _, _, _, rfl, rfl, hs, atI_nat (j := 0) rfl, D.aB, _, some wd, rfl, D.tB, rfl, _, rfl, ?_⟩
    rw [if_neg (show ¬ (false = true) by decide), getB]
    have eO : isOpen (.tuple [.str wd, d2]) = (decide (wd = "if" ∨ wd = "while") && isCond d2) := rfl
    rw [eO] at q
    by_cases cb : wd = "if" ∨ wd = "while"
    · refine ite2 (fun _ => ?_) (fun n => absurd (decide_eq_true cb) n)
      rw [decide_eq_true cb, Bool.true_and] at q
      exact ⟨_, rfl, a, _, _, _, rfl, rfl, hs, atI_nat (j := 1) rfl, _, d2, rfl, h2, lay_mem (lay_tup hl) _ (by simp), q⟩
    · refine ite2 (fun n => absurd (of_decide_eq_true n) cb) (fun _ => ?_)
      rw [decide_eq_false cb, Bool.false_and] at q
      exact q
  · refine ite2 (fun n => absurd (of_decide_eq_true n) (fun e => c (by rw [hxl] at e; injection e with e; omega))) (fun _ => ?_)
    have eO : isOpen (.tuple ds) = false := by
      unfold isOpen
      split
      · rename_i h; injection h with h; subst h; exact absurd rfl c
      · rfl
    rw [eO] at q
    exact q
end
end My

namespace My
open PySem L2 TL
/-! ### what is written is read: numbers and words -/
def goodW (d : PyData) : Prop := numW (strD d) = d ∧ 32 ∉ tl (strD d) ∧ 10 ∉ tl (strD d) ∧ (strD d).length ≤ 60 ∧ (∀ g : Nat, Txt.startswith (strD d) ⟨#[120, g]⟩ = false)
theorem sw_iff (x : Str) (c : Nat) : Txt.startswith x ⟨#[c]⟩ = true ↔ (tl x)[0]? = some c := by
  unfold Txt.startswith
  rw [Bool.and_eq_true, decide_eq_true_iff]
  exact PySem.StrLaws.subAt_one x c 0
theorem sw2_head {x : Str} {g : Nat} (h : Txt.startswith x ⟨#[120, g]⟩ = true) : (tl x)[0]? = some 120 := by
  unfold Txt.startswith at h
  rw [Bool.and_eq_true] at h
  have h2 := h.2
  rw [PySem.StrLaws.subAt_eq] at h2
  have e : ((tl x).drop 0).take 2 = [120, g] := eq_of_beq h2
  rw [List.drop_zero] at e
  have : ((tl x).take 2)[0]? = some 120 := by rw [e]; rfl
  rw [List.getElem?_take] at this
  simpa using this
theorem numL_head : ∀ n : Nat, 1 ≤ n → ∃ c r, numL n = c :: r ∧ 49 ≤ c ∧ c ≤ 57 := by
  intro n
  induction n using Nat.strongRecOn with
  | _ n ih =>
    intro h
    by_cases c : n < 10
    · exact ⟨48 + n, [], numL_lt c, by omega, by omega⟩
    · obtain ⟨d, r, e, h1, h2⟩ := ih (n / 10) (by omega) (by omega)
      exact ⟨d, r ++ [48 + n % 10], by rw [numL_step (by omega), e]; rfl, h1, h2⟩
theorem digits_ok : ∀ c, 48 ≤ c → c ≤ 57 → Unicode.isDigit c = true := by
  intro c h1 h2
  have : ∀ c, c < 58 → 48 ≤ c → Unicode.isDigit c = true := by decide +kernel
  exact this c (by omega) h1
theorem longest_31 : longest < 10 ^ 31 := by decide +kernel
theorem good_int {i : Int} (h0 : 0 ≤ i) (h1 : i ≤ longest) : goodW (.int i) := by
  obtain ⟨n, rfl⟩ : ∃ n : Nat, i = n := ⟨i.toNat, by omega⟩
  have hn : n < 10 ^ 31 := by
    have := longest_31
    have h : ((n : Nat) : Int) < 10 ^ 31 := by omega
    exact_mod_cast h
  have hl : (numL n).length ≤ 31 := numL_len (by decide) hn
  have ht : tl (Str.ofString (toString ((n : Nat) : Int))) = numL n := tl_num n
  have es : strD (.int (n : Nat)) = Str.ofString (toString ((n : Nat) : Int)) := rfl
  have hlen : (Str.ofString (toString ((n : Nat) : Int))).length = (numL n).length := by rw [len_tl, ht]
  have hne := numL_ne n
  have hdec : isDec (Str.ofString (toString ((n : Nat) : Int))) = true := by
    unfold isDec
    have a1 : Txt.isascii (Str.ofString (toString ((n : Nat) : Int))) = true := by
      unfold Txt.isascii
      rw [← Array.all_toList, show (Str.ofString (toString ((n : Nat) : Int))).cps.toList = numL n from ht, List.all_eq_true]
      intro c hc
      have := numL_digits n c hc
      exact decide_eq_true (by omega)
    have a2 : Txt.isdigit (Str.ofString (toString ((n : Nat) : Int))) = true := by
      unfold Txt.isdigit
      rw [Bool.and_eq_true]
      refine ⟨decide_eq_true ?_, ?_⟩
      · rw [hlen]; exact List.length_pos_iff.mpr hne
      · rw [← Array.all_toList, show (Str.ofString (toString ((n : Nat) : Int))).cps.toList = numL n from ht, List.all_eq_true]
        intro c hc
        have := numL_digits n c hc
        exact digits_ok c this.1 this.2
    rw [a1, a2, decide_eq_true (by rw [hlen]; exact hl)]
    by_cases c0 : n = 0
    · subst c0
      decide +kernel
    · have : Txt.startswith (Str.ofString (toString ((n : Nat) : Int))) "0" = false := by
        cases hs : Txt.startswith (Str.ofString (toString ((n : Nat) : Int))) "0" with
        | false => rfl
        | true =>
          have h2 := (sw_iff _ 48).mp hs
          obtain ⟨c, r, e, h3, h4⟩ := numL_head n (by omega)
          rw [ht, e] at h2
          have : c = 48 := by injection h2
          omega
      rw [this]
      simp
  refine ⟨?_, ?_, ?_, ?_, ?_⟩
  · rw [es]
    unfold numW
    rw [if_pos hdec, int_num (by omega)]
    rfl
  · rw [es, ht]; exact numL_free (.inl (by decide))
  · rw [es, ht]; exact numL_free (.inl (by decide))
  · rw [es, hlen]; omega
  · intro g
    cases hs : Txt.startswith (strD (.int (n : Nat))) ⟨#[120, g]⟩ with
    | false => rfl
    | true =>
      have h2 := sw2_head hs
      rw [es, ht] at h2
      have hm : 120 ∈ numL n := List.mem_of_getElem? h2
      exact absurd hm (numL_free (.inr (by decide)))
theorem good_str {z : Str} (h : z ∈ (["a", "b", "==", "!=", "<", "+", "-", "="] : List Str)) : goodW (.str z) := by
  have h2 : ∀ z ∈ (["a", "b", "==", "!=", "<", "+", "-", "="] : List Str), isDec z = false ∧ 32 ∉ tl z ∧ 10 ∉ tl z ∧ z.length ≤ 60 ∧ (tl z)[0]? ≠ some 120 := by decide +kernel
  obtain ⟨a1, a2, a3, a4, a5⟩ := h2 z h
  refine ⟨?_, a2, a3, a4, fun g => ?_⟩
  · show numW z = .str z
    unfold numW
    rw [if_neg (by rw [a1]; decide)]
  · cases hs : Txt.startswith z ⟨#[120, g]⟩ with
    | false => exact hs
    | true => exact absurd (sw2_head hs) a5
theorem inS_good {d : PyData} {zs : List Str} (h : inS d zs = true) (hz : ∀ z ∈ zs, z ∈ (["a", "b", "==", "!=", "<", "+", "-", "="] : List Str)) : goodW d := by
  cases d with
  | str z =>
    have h' : zs.any (· == z) = true := h
    obtain ⟨y, m, e⟩ := List.any_eq_true.mp h'
    have e' : y = z := by simpa using e
    exact good_str (hz z (e' ▸ m))
  | _ => cases h
theorem intIn_good {d : PyData} {lo hi : Int} (h : intIn d lo hi = true) (h0 : 0 ≤ lo) (h1 : hi ≤ longest) : goodW d := by
  cases d with
  | int i =>
    have h' : (decide (lo ≤ i) && decide (i ≤ hi)) = true := h
    rw [Bool.and_eq_true, decide_eq_true_iff, decide_eq_true_iff] at h'
    exact good_int (by omega) (by omega)
  | _ => cases h
theorem term_good {d : PyData} (h : isTerm d = true) : goodW d := by
  have h' : (inS d vars || intIn d 0 15) = true := h
  rcases Bool.or_eq_true _ _ ▸ h' with h | h
  · exact inS_good h (by decide)
  · exact intIn_good h (by decide) (by decide)
theorem part_good {d : PyData} {r : Str} (h : isPart d r = true) : goodW d := by
  unfold isPart at h
  split at h
  · exact inS_good h (by decide)
  split at h
  · exact term_good h
  split at h
  · exact inS_good h (by decide)
  split at h
  · exact intIn_good h (by decide) (by decide)
  split at h
  · exact intIn_good h (by decide) (by decide)
  · exact intIn_good h (by decide) (by decide)
theorem parts_good : ∀ {ps : List PyData} {rs : List Str}, ps.length = rs.length → allParts ps rs = true → ∀ p ∈ ps, goodW p
  | [], _, _, _ => fun p m => nomatch m
  | p :: ps, [], hl, _ => by simp at hl
  | p :: ps, r :: rs, hl, h => by
    have h' : isPart p r = true ∧ allParts ps rs = true := by simpa [allParts] using h
    intro q m
    rcases List.mem_cons.mp m with rfl | m
    · exact part_good h'.1
    · exact parts_good (by simpa using hl) h'.2 q m
/-! ### a line and its parts -/
def LineOf (y : Str) (d : PyData) : Prop := ∃ w ws, Txt.split y " " = w :: ws ∧ lineP w ws = d ∧ (∀ u ∈ w :: ws, u.length ≤ 60) ∧ ws.length ≤ 8 ∧ 10 ∉ tl y
theorem join_free {s : Nat} {sep : Str} (hs : s ∉ tl sep) : ∀ {ys : List Str}, (∀ y ∈ ys, s ∉ tl y) → s ∉ tl (Txt.join sep ys) := by
  intro ys h
  rw [join_eq, tl_join]
  have : ∀ (l : List (List Nat)), (∀ y ∈ l, s ∉ y) → s ∉ joinL (tl sep) l := by
    intro l
    induction l with
    | nil => intro _ m; cases m
    | cons p t ih =>
      intro hp
      cases t with
      | nil => exact hp p (List.mem_cons_self ..)
      | cons q r =>
        intro m
        have m' : s ∈ p ++ (tl sep ++ joinL (tl sep) (q :: r)) := m
        rw [List.mem_append, List.mem_append] at m'
        rcases m' with m' | m' | m'
        · exact hp p (List.mem_cons_self ..) m'
        · exact hs m'
        · exact ih (fun y my => hp y (List.mem_cons_of_mem _ my)) m'
  refine this _ fun y my => ?_
  obtain ⟨z, hz, rfl⟩ := List.mem_map.mp my
  exact h z hz
theorem split_words {ys : List Str} (hne : ys ≠ []) (h : ∀ y ∈ ys, 32 ∉ tl y) : Txt.split (Txt.join " " ys) " " = ys :=
  split_join (s := 32) (S := []) (by rfl) (by decide +kernel) hne h
theorem nums_back : ∀ {ps : List PyData}, (∀ p ∈ ps, goodW p) → (ps.map strD).map numW = ps
  | [], _ => rfl
  | p :: r, h => by
    rw [List.map_cons, List.map_cons, (h p (List.mem_cons_self ..)).1, nums_back fun q m => h q (List.mem_cons_of_mem _ m)]
theorem line_of {z : Str} {ps : List PyData} (hz : 32 ∉ tl z ∧ 10 ∉ tl z ∧ z.length ≤ 60) (hl : ps.length ≤ 8) (h : ∀ p ∈ ps, goodW p) : Txt.split (joinD (.str z :: ps)) " " = z :: ps.map strD ∧ (∀ u ∈ z :: ps.map strD, u.length ≤ 60) ∧ (ps.map strD).length ≤ 8 ∧ 10 ∉ tl (joinD (.str z :: ps)) := by
  have hw : ∀ y ∈ z :: ps.map strD, 32 ∉ tl y ∧ 10 ∉ tl y ∧ y.length ≤ 60 := fun y my => by
    rcases List.mem_cons.mp my with rfl | my
    · exact hz
    · obtain ⟨p, hp, rfl⟩ := List.mem_map.mp my
      have := h p hp
      exact ⟨this.2.1, this.2.2.1, this.2.2.2.1⟩
  refine ⟨split_words (by simp) fun y my => (hw y my).1, fun u mu => (hw u mu).2.2, by rw [List.length_map]; exact hl, ?_⟩
  exact join_free (by decide +kernel) fun y my => (hw y my).2.1
theorem word_clean {z kind : Str} {rs : List Str} (h : rolesZ z kind = some rs) : (32 ∉ tl z ∧ 10 ∉ tl z ∧ z.length ≤ 60) ∧ ¬ z = "if" ∧ ¬ z = "while" ∧ ¬ z = "end" ∧ ¬ z = "else" := by
  unfold rolesZ at h
  have k : ∀ z ∈ (["set", "add", "wait", "ask", "answer", "grow", "list"] : List Str), (32 ∉ tl z ∧ 10 ∉ tl z ∧ z.length ≤ 60) ∧ ¬ z = "if" ∧ ¬ z = "while" ∧ ¬ z = "end" ∧ ¬ z = "else" := by decide +kernel
  refine k z ?_
  split at h
  · rename_i e; rw [e]; decide
  split at h
  · rename_i e; rw [e]; decide
  split at h
  · rename_i e; rw [e]; decide
  split at h
  · split at h
    · rename_i e; rw [e]; decide
    split at h
    · rename_i e; rw [e]; decide
    · cases h
  · split at h
    · rename_i e; rw [e]; decide
    split at h
    · rename_i e; rw [e]; decide
    · cases h
theorem plain_line {s : PyData} {k : Str} (h : isPlain s k = true) : LineOf (plainT s) s := by
  obtain ⟨z, ps, rs, rfl, hz, hl, hp⟩ := plain_inv h
  obtain ⟨hc, n1, n2, n3, n4⟩ := word_clean hz
  have hg := parts_good hl hp
  have hl8 : ps.length ≤ 8 := by have := roles_short hz; omega
  by_cases c : z = "ask"
  · subst c
    have e := word_ask hz
    subst e
    match ps, hl, hp, hg with
    | [a, b, x], _, hp, hg =>
      have h' : isPart a "sign" = true ∧ isPart b "term" = true ∧ isPart x "variable" = true := by simpa [allParts] using hp
      rw [part_sign] at h'
      have hx := part_good h'.2.2
      have ht := term_good (show isTerm b = true from h'.2.1)
      obtain ⟨g, rfl⟩ : ∃ g, a = .str g := by
        cases a with
        | str g => exact ⟨g, rfl⟩
        | _ => exact absurd h'.1 (by intro z; cases z)
      obtain ⟨xv, rfl⟩ : ∃ v, x = .str v := by
        cases x with
        | str v => exact ⟨v, rfl⟩
        | _ => exact absurd h'.2.2 (by rw [show ∀ d, isPart d "variable" = inS d vars from fun d => by unfold isPart; rw [if_pos rfl]]; intro z; cases z)
      have hgs : g = "+" ∨ g = "-" ∨ g = "=" := by
        have h2 : asks.any (· == g) = true := h'.1
        obtain ⟨y, m, e⟩ := List.any_eq_true.mp h2
        have e' : y = g := eq_of_beq e
        subst e'
        have m' : y = ("+" : Str) ∨ y = ("-" : Str) ∨ y = ("=" : Str) := by
          unfold asks at m
          rw [List.mem_cons, List.mem_cons, List.mem_singleton] at m
          exact m
        exact m'
      rw [plainT_ask]
      have hp2 : ∀ p : PyData, (p = askW g b) → (32 ∉ tl (strD p) ∧ 10 ∉ tl (strD p) ∧ (strD p).length ≤ 60) ∧ askP ["ask", strD p, xv] = .tuple [.str "ask", .str g, b, .str xv] := by
        rintro p rfl
        by_cases ce : g = "="
        · subst ce
          have e : askW "=" b = b := by unfold askW; rw [if_pos rfl]
          rw [e]
          refine ⟨⟨ht.2.1, ht.2.2.1, ht.2.2.2.1⟩, ?_⟩
          show (if _ then _ else _) = _
          rw [if_neg (by
            rintro (z | z)
            · have := ht.2.2.2.2 43
              exact absurd z (by rw [show Txt.startswith (strD b) "x+" = false from this]; decide)
            · have := ht.2.2.2.2 45
              exact absurd z (by rw [show Txt.startswith (strD b) "x-" = false from this]; decide)), ht.1]
        · have e : askW g b = .str ((("x" : Str) ++ g) ++ strD b) := by unfold askW; rw [if_neg ce]
          rw [e]
          have hg1 : g = "+" ∨ g = "-" := by
            rcases hgs with h | h | h
            · exact .inl h
            · exact .inr h
            · exact absurd h ce
          have gl : ∃ c, tl g = [c] ∧ g = ⟨#[c]⟩ ∧ (c = 43 ∨ c = 45) := by
            rcases hg1 with rfl | rfl
            · exact ⟨43, rfl, rfl, .inl rfl⟩
            · exact ⟨45, rfl, rfl, .inr rfl⟩
          obtain ⟨c, g1, g2, g3⟩ := gl
          have et : tl ((("x" : Str) ++ g) ++ strD b) = 120 :: c :: tl (strD b) := by
            rw [tl_append, tl_append, g1]
            rfl
          have hsw : Txt.startswith ((("x" : Str) ++ g) ++ strD b) ⟨#[120, c]⟩ = true := by
            unfold Txt.startswith
            rw [Bool.and_eq_true]
            refine ⟨decide_eq_true ?_, ?_⟩
            · rw [len_tl ((("x" : Str) ++ g) ++ strD b), et]
              show 0 + 2 ≤ (tl (strD b)).length + 1 + 1
              omega
            · rw [PySem.StrLaws.subAt_eq, show ((("x" : Str) ++ g) ++ strD b).cps.toList = 120 :: c :: tl (strD b) from et]
              exact beq_self_eq_true _
          have hcut : cutS ((("x" : Str) ++ g) ++ strD b) (some 2) none = strD b := by
            apply ext_tl
            unfold cutS
            rw [show HT.sIx ((("x" : Str) ++ g) ++ strD b).length 0 (some 2) = min 2 ((("x" : Str) ++ g) ++ strD b).length from HT.sIx_nat _ _ 2, HT.sIx_none, show ((("x" : Str) ++ g) ++ strD b).cps.toList = 120 :: c :: tl (strD b) from et, len_tl, et]
            rw [Nat.min_eq_left (by simp)]
            show ((120 :: c :: tl (strD b)).drop 2).take _ = _
            rw [List.take_of_length_le (by simp)]
            rfl
          refine ⟨⟨?_, ?_, ?_⟩, ?_⟩
          · show 32 ∉ tl ((("x" : Str) ++ g) ++ strD b)
            rw [et, List.mem_cons, List.mem_cons]
            rintro (h | h | h)
            · cases h
            · omega
            · exact ht.2.1 h
          · show 10 ∉ tl ((("x" : Str) ++ g) ++ strD b)
            rw [et, List.mem_cons, List.mem_cons]
            rintro (h | h | h)
            · cases h
            · omega
            · exact ht.2.2.1 h
          · show ((("x" : Str) ++ g) ++ strD b).length ≤ 60
            have h31 := strD_short (term_okP (show isTerm b = true from h'.2.1))
            rw [len_tl] at h31
            rw [len_tl, et]
            show (tl (strD b)).length + 1 + 1 ≤ 60
            omega
          · show (if _ then _ else _) = _
            rw [if_pos (by
              rcases g3 with rfl | rfl
              · exact .inl hsw
              · exact .inr hsw)]
            show PyData.tuple [.str "ask", .str ⟨#[((tl ((("x" : Str) ++ g) ++ strD b))[1]?).getD 0]⟩, numW (cutS ((("x" : Str) ++ g) ++ strD b) (some 2) none), .str xv] = _
            rw [hcut, ht.1]
            show PyData.tuple [.str "ask", .str ⟨#[((tl ((("x" : Str) ++ g) ++ strD b))[1]?).getD 0]⟩, b, .str xv] = _
            rw [et, g2]
            rfl
      obtain ⟨hm, he⟩ := hp2 _ rfl
      have hw : ∀ y ∈ ([("ask" : Str), strD (askW g b), xv] : List Str), 32 ∉ tl y ∧ 10 ∉ tl y ∧ y.length ≤ 60 := fun y my => by
        have my' : y = "ask" ∨ y = strD (askW g b) ∨ y = xv := by simpa using my
        rcases my' with rfl | rfl | rfl
        · exact hc
        · exact hm
        · exact ⟨hx.2.1, hx.2.2.1, hx.2.2.2.1⟩
      refine ⟨"ask", [strD (askW g b), xv], split_words (by simp) fun y my => (hw y my).1, ?_, fun u mu => (hw u mu).2.2, by simp, join_free (by decide +kernel) fun y my => (hw y my).2.1⟩
      unfold lineP
      rw [if_pos rfl]
      exact he
  · rw [plainT_no c]
    obtain ⟨h1, h2, h3, h4⟩ := line_of hc hl8 hg
    refine ⟨z, ps.map strD, h1, ?_, h2, h3, h4⟩
    unfold lineP
    rw [if_neg c, if_neg (by rintro (h | h) <;> contradiction), nums_back hg]
theorem cond_line {w : Str} {co : PyData} (hw : w = "if" ∨ w = "while") (h : isCond co = true) : LineOf (condT w co) (.tuple [.str w, co]) := by
  unfold isCond at h
  split at h
  · rename_i x y z
    rw [Bool.and_eq_true, Bool.and_eq_true] at h
    obtain ⟨⟨h1, h2⟩, h3⟩ := h
    have hg : ∀ p ∈ [x, y, z], goodW p := fun p mp => by
      have mp' : p = x ∨ p = y ∨ p = z := by simpa using mp
      rcases mp' with rfl | rfl | rfl
      · exact inS_good h1 (by decide)
      · exact inS_good h2 (by decide)
      · exact term_good h3
    have hc : 32 ∉ tl w ∧ 10 ∉ tl w ∧ w.length ≤ 60 := by
      rcases hw with rfl | rfl <;> decide +kernel
    obtain ⟨a1, a2, a3, a4⟩ := line_of hc (by simp : [x, y, z].length ≤ 8) hg
    refine ⟨w, [x, y, z].map strD, a1, ?_, a2, a3, a4⟩
    unfold lineP
    rw [if_neg (by rcases hw with rfl | rfl <;> decide +kernel), if_pos hw, nums_back hg]
  · cases h
theorem end_line : LineOf "end" (.tuple [.str "end"]) := ⟨"end", [], by decide +kernel, rfl, by decide, by decide, by decide +kernel⟩
theorem else_line : LineOf "else" (.tuple [.str "else"]) := ⟨"else", [], by decide +kernel, rfl, by decide, by decide, by decide +kernel⟩
end My

namespace My
open PySem L2 TL
/-! ### the reader as a function -/
structure Blk where
  w : Str
  c : PyData
  b1 : List PyData
  b2 : Option (List PyData)
structure RS where
  many : Nat
  top : Blk
  rest : List Blk
def isW (d : PyData) (z : Str) : Bool := match d with
  | .tuple [.str w] => decide (w = z)
  | _ => false
def mayBranch (b : Blk) : Bool := decide (b.w = "if") && b.b2.isNone
def mayEnd (b : Blk) : Bool := decide (b.w = "if" ∨ b.w = "while") && (match b.b2 with
  | none => true
  | some x => decide (0 < x.length))
def asStmt (b : Blk) : PyData := .tuple ([.str b.w, b.c, .tuple b.b1] ++ (match b.b2 with
  | some x => [.tuple x]
  | none => if b.w = "if" then [.tuple []] else []))
def addL (ss : List PyData) (b : Blk) : Blk := match b.b2 with
  | none => ⟨b.w, b.c, b.b1 ++ ss, none⟩
  | some x => ⟨b.w, b.c, b.b1, some (x ++ ss)⟩
def hasRoom (S : RS) : Bool := decide (S.many < 24) && decide (S.rest.length + 1 ≤ 4)
def allowsF (k : Str) (S : RS) (d : PyData) : Bool :=
  if isW d "end" = true then mayEnd S.top else if hasRoom S = false then false else if isW d "else" = true then mayBranch S.top else isOpen d || isPlain d k
def opens (d : PyData) : Blk := match d with
  | .tuple [.str w, c] => ⟨w, c, [], none⟩
  | _ => ⟨"", .tuple [], [], none⟩
def takeF (S : RS) (d : PyData) : RS :=
  if isW d "end" = true then (match S.rest with
    | n :: r => ⟨S.many, addL [asStmt S.top] n, r⟩
    | [] => S)
  else if isW d "else" = true then ⟨S.many, ⟨S.top.w, S.top.c, S.top.b1, some []⟩, S.rest⟩
  else if isOpen d = true then ⟨S.many + 1, opens d, S.top :: S.rest⟩
  else ⟨S.many + 1, addL [d] S.top, S.rest⟩
def readF (k : Str) : RS → List PyData → Option RS
  | S, [] => some S
  | S, d :: ds => if allowsF k S d = true then readF k (takeF S d) ds else none
theorem readF_cons {k : Str} {S : RS} {d : PyData} {ds : List PyData} (h : allowsF k S d = true) : readF k S (d :: ds) = readF k (takeF S d) ds := by
  show (if _ then _ else _) = _
  rw [if_pos h]
theorem addL_nil (b : Blk) : addL [] b = b := by
  obtain ⟨w, c, b1, b2⟩ := b
  cases b2 <;> simp [addL]
theorem addL_two (s : PyData) (ss : List PyData) (b : Blk) : addL ss (addL [s] b) = addL (s :: ss) b := by
  obtain ⟨w, c, b1, b2⟩ := b
  cases b2 <;> simp [addL]
theorem paired_app {α β : Type} {R : α → β → Prop} : ∀ {as : List α} {bs : List β} {cs : List α} {ds : List β}, Paired R as bs → Paired R cs ds → Paired R (as ++ cs) (bs ++ ds)
  | _, _, _, _, .nil, h => h
  | _, _, _, _, .cons a t, h => .cons a (paired_app t h)
/-- what the reader asks of the parts of a line -/
def goodD (d : PyData) : Prop := ∃ ds, d = .tuple ds ∧ Lay d ∧ SeqAt.shaped d = true ∧ (ds ≠ [] → ∃ w r, ds = .str w :: r)
def LineG (y : Str) (d : PyData) : Prop := LineOf y d ∧ goodD d
theorem shaped_of {d : PyData} (h : Lay d) (hd : d.depth ≤ 64) : SeqAt.shaped d = true := by
  show (d.canLay0 && decide (d.depth ≤ 64)) = true
  rw [Bool.and_eq_true]
  exact ⟨h, decide_eq_true hd⟩
theorem end_good : LineG "end" (.tuple [.str "end"]) := ⟨end_line, _, rfl, by decide +kernel, by decide +kernel, fun _ => ⟨_, _, rfl⟩⟩
theorem else_good : LineG "else" (.tuple [.str "else"]) := ⟨else_line, _, rfl, by decide +kernel, by decide +kernel, fun _ => ⟨_, _, rfl⟩⟩
theorem cond_good {w : Str} {co : PyData} (hw : w = "if" ∨ w = "while") (h : isCond co = true) (hl : Lay co) : LineG (condT w co) (.tuple [.str w, co]) := by
  have hly : Lay (.tuple [.str w, co]) := lay2 (lay_str (by rcases hw with rfl | rfl <;> decide +kernel)) hl
  refine ⟨cond_line hw h, _, rfl, hly, shaped_of hly ?_, fun _ => ⟨_, _, rfl⟩⟩
  have := cond_depth h
  simp only [PyData.depth, PyData.depthAll]
  omega
theorem plain_good {s : PyData} {k : Str} (h : isPlain s k = true) (hl : Lay s) : LineG (plainT s) s := by
  refine ⟨plain_line h, ?_⟩
  have hd := plain_depth h
  obtain ⟨z, ps, rs, rfl, _⟩ := plain_inv h
  exact ⟨_, rfl, hl, shaped_of hl (by omega), fun _ => ⟨_, _, rfl⟩⟩
def ReadsB (k : Str) (ys : List Str) (c n : Nat) (ss : List PyData) : Prop := ∃ ds, Paired LineG ys ds ∧ ∀ (S : RS) more, S.rest.length + n ≤ 4 → S.many + c ≤ 24 → readF k S (ds ++ more) = readF k ⟨S.many + c, addL ss S.top, S.rest⟩ more
theorem take_open {S : RS} {w : Str} {co : PyData} (hw : w = "if" ∨ w = "while") (hc : isCond co = true) : takeF S (.tuple [.str w, co]) = ⟨S.many + 1, ⟨w, co, [], none⟩, S.top :: S.rest⟩ := by
  have ho : isOpen (.tuple [.str w, co]) = true := by
    show (decide (w = "if" ∨ w = "while") && isCond co) = true
    rw [decide_eq_true hw, hc]; rfl
  unfold takeF
  rw [if_neg (by intro z; cases z), if_neg (by intro z; cases z), if_pos ho]
  rfl
theorem allow_open {k : Str} {S : RS} {w : Str} {co : PyData} (hw : w = "if" ∨ w = "while") (hc : isCond co = true) (hr : hasRoom S = true) : allowsF k S (.tuple [.str w, co]) = true := by
  have ho : isOpen (.tuple [.str w, co]) = true := by
    show (decide (w = "if" ∨ w = "while") && isCond co) = true
    rw [decide_eq_true hw, hc]; rfl
  unfold allowsF
  rw [if_neg (by intro z; cases z), if_neg (by rw [hr]; decide), if_neg (by intro z; cases z), ho]
  rfl
theorem room_of {S : RS} (h1 : S.many < 24) (h2 : S.rest.length + 1 ≤ 4) : hasRoom S = true := by
  unfold hasRoom
  rw [decide_eq_true h1, decide_eq_true h2]; rfl
theorem st_reads {k : Str} {n c : Nat} {s : PyData} (hl : Lay s) (hB : ∀ ss c, Lay (.tuple ss) → bodyN k n (.tuple ss) = some c → ReadsB k (bodyT n (.tuple ss)) c n ss) (h : stN k n s = some c) : ReadsB k (stT (bodyT n) s) c (n + 1) [s] := by
  rcases st_shape h with ⟨z, ps, rfl, h1, h2, hp, rfl⟩ | ⟨co, b, c', rfl, hco, hb, rfl⟩ | ⟨co, b1, b2, c1, c2, rfl, hco, hb1, hb2, rfl⟩
  · rw [stT_plain h1 h2]
    refine ⟨[.tuple (.str z :: ps)], .cons (plain_good hp hl) .nil, fun S more hr hm => ?_⟩
    obtain ⟨z', ps', rs, e, hz, hl, _⟩ := plain_inv hp
    injection e with e; injection e with e1 e2; injection e1 with e1
    subst e1 e2
    obtain ⟨_, n1, n2, n3, n4⟩ := word_clean hz
    have w1 : ∀ y : Str, ¬ z = y → isW (.tuple (.str z :: ps)) y = false := fun y hy => by
      cases ps with
      | nil => exact decide_eq_false hy
      | cons _ _ => rfl
    have ho : isOpen (.tuple (.str z :: ps)) = false := by
      unfold isOpen
      split
      · rename_i e; injection e with e; injection e with e1 e2; injection e1 with e1
        subst e1
        rw [decide_eq_false (by rintro (h | h) <;> contradiction)]; rfl
      · rfl
    have hroom : hasRoom S = true := room_of (by omega) (by omega)
    show readF k S (.tuple (.str z :: ps) :: more) = _
    rw [readF_cons (by
      unfold allowsF
      rw [if_neg (by rw [w1 _ n3]; decide), if_neg (by rw [hroom]; decide), if_neg (by rw [w1 _ n4]; decide), hp, Bool.or_true])]
    unfold takeF
    rw [if_neg (by rw [w1 _ n3]; decide), if_neg (by rw [w1 _ n4]; decide), if_neg (by rw [ho]; decide)]
  · obtain ⟨ss, rfl⟩ := body_tuple hb
    rw [stT_while]
    obtain ⟨ds, hds, hrd⟩ := hB ss c' (lay_mem (lay_tup hl) _ (by simp)) hb
    refine ⟨.tuple [.str "while", co] :: (ds ++ [.tuple [.str "end"]]), .cons (cond_good (.inr rfl) hco (lay_mem (lay_tup hl) _ (by simp))) (paired_app hds (.cons end_good .nil)), fun S more hr hm => ?_⟩
    rw [List.cons_append, readF_cons (allow_open (.inr rfl) hco (room_of (by omega) (by omega))), take_open (.inr rfl) hco, List.append_assoc, hrd _ _ (by show S.rest.length + 1 + n ≤ 4; omega) (by show S.many + 1 + c' ≤ 24; omega)]
    show readF k ⟨S.many + 1 + c', ⟨"while", co, [] ++ ss, none⟩, S.top :: S.rest⟩ (.tuple [.str "end"] :: more) = _
    rw [List.nil_append, readF_cons (by rfl)]
    rw [Nat.add_assoc]
    rfl
  · obtain ⟨ss1, rfl⟩ := body_tuple hb1
    obtain ⟨ss2, rfl⟩ := body_tuple hb2
    rw [stT_if]
    obtain ⟨ds1, hds1, hrd1⟩ := hB ss1 c1 (lay_mem (lay_tup hl) _ (by simp)) hb1
    cases ss2 with
    | nil =>
      have hc2 : c2 = 0 := by
        cases n with
        | zero => exact (Option.some.inj hb2).symm
        | succ n => rw [bodyN_tup] at hb2; exact (Option.some.inj hb2).symm
      subst hc2
      rw [if_pos (show isNil (.tuple []) = true from rfl), List.append_nil]
      refine ⟨.tuple [.str "if", co] :: (ds1 ++ [.tuple [.str "end"]]), .cons (cond_good (.inl rfl) hco (lay_mem (lay_tup hl) _ (by simp))) (paired_app hds1 (.cons end_good .nil)), fun S more hr hm => ?_⟩
      rw [List.cons_append, readF_cons (allow_open (.inl rfl) hco (room_of (by omega) (by omega))), take_open (.inl rfl) hco, List.append_assoc, hrd1 _ _ (by show S.rest.length + 1 + n ≤ 4; omega) (by show S.many + 1 + c1 ≤ 24; omega)]
      show readF k ⟨S.many + 1 + c1, ⟨"if", co, [] ++ ss1, none⟩, S.top :: S.rest⟩ (.tuple [.str "end"] :: more) = _
      rw [List.nil_append, readF_cons (by rfl)]
      rw [Nat.add_assoc]
      rfl
    | cons s2 r2 =>
      have hc2 : 1 ≤ c2 ∧ 1 ≤ n := by
        cases n with
        | zero => cases hb2
        | succ n =>
          rw [bodyN_tup] at hb2
          obtain ⟨a, ha, hle⟩ := sum_le (show bodyN k (n + 1) (.tuple (s2 :: r2)) = some c2 from by rw [bodyN_tup]; exact hb2) (List.mem_cons_self ..)
          have := stN_ge ha
          omega
      obtain ⟨ds2, hds2, hrd2⟩ := hB (s2 :: r2) c2 (lay_mem (lay_tup hl) _ (by simp)) hb2
      rw [if_neg (by intro z; cases z)]
      refine ⟨.tuple [.str "if", co] :: ((ds1 ++ .tuple [.str "else"] :: ds2) ++ [.tuple [.str "end"]]), .cons (cond_good (.inl rfl) hco (lay_mem (lay_tup hl) _ (by simp))) (paired_app (paired_app hds1 (.cons else_good hds2)) (.cons end_good .nil)), fun S more hr hm => ?_⟩
      rw [List.cons_append, readF_cons (allow_open (.inl rfl) hco (room_of (by omega) (by omega))), take_open (.inl rfl) hco, List.append_assoc, List.append_assoc, hrd1 _ _ (by show S.rest.length + 1 + n ≤ 4; omega) (by show S.many + 1 + c1 ≤ 24; omega)]
      show readF k ⟨S.many + 1 + c1, ⟨"if", co, [] ++ ss1, none⟩, S.top :: S.rest⟩ (.tuple [.str "else"] :: (ds2 ++ (.tuple [.str "end"] :: more))) = _
      have hroom : hasRoom ⟨S.many + 1 + c1, ⟨"if", co, [] ++ ss1, none⟩, S.top :: S.rest⟩ = true := room_of (by show S.many + 1 + c1 < 24; omega) (by show S.rest.length + 1 + 1 ≤ 4; omega)
      rw [readF_cons (by
        unfold allowsF
        rw [if_neg (by intro z; revert z; decide +kernel), if_neg (by rw [hroom]; decide)]
        rfl)]
      rw [show takeF ⟨S.many + 1 + c1, ⟨"if", co, [] ++ ss1, none⟩, S.top :: S.rest⟩ (.tuple [.str "else"]) = ⟨S.many + 1 + c1, ⟨"if", co, [] ++ ss1, some []⟩, S.top :: S.rest⟩ from rfl]
      rw [hrd2 _ _ (by show S.rest.length + 1 + n ≤ 4; omega) (by show S.many + 1 + c1 + c2 ≤ 24; omega)]
      show readF k ⟨S.many + 1 + c1 + c2, ⟨"if", co, [] ++ ss1, some ([] ++ s2 :: r2)⟩, S.top :: S.rest⟩ (.tuple [.str "end"] :: more) = _
      rw [List.nil_append, List.nil_append, readF_cons (by rfl)]
      rw [Nat.add_assoc, Nat.add_assoc]
      rfl
theorem body_reads {k : Str} : ∀ (n : Nat) (ss : List PyData) (c : Nat), Lay (.tuple ss) → bodyN k n (.tuple ss) = some c → ReadsB k (bodyT n (.tuple ss)) c n ss
  | 0, ss, c, hl, h => by
    cases ss with
    | nil =>
      have : c = 0 := (Option.some.inj h).symm
      subst this
      exact ⟨[], .nil, fun S more _ _ => by rw [addL_nil]; rfl⟩
    | cons _ _ => cases h
  | n + 1, ss, c, hl, h => by
    rw [bodyN_tup] at h
    show ReadsB k ((ss.map (stT (bodyT n))).flatten) c (n + 1) ss
    have hall := lay_mem (lay_tup hl)
    clear hl
    revert c h hall
    induction ss with
    | nil =>
      intro c h _
      have : c = 0 := (Option.some.inj h).symm
      subst this
      exact ⟨[], .nil, fun S more _ _ => by rw [addL_nil]; rfl⟩
    | cons s r ih =>
      intro c h hall
      rw [List.map_cons] at h
      obtain ⟨c1, c2, h1, h2, rfl⟩ : ∃ c1 c2, stN k n s = some c1 ∧ sumO (r.map (stN k n)) = some c2 ∧ c = c1 + c2 := by
        cases e1 : stN k n s with
        | none => rw [e1] at h; cases h
        | some c1 =>
          cases e2 : sumO (r.map (stN k n)) with
          | none =>
            have h' : addO (stN k n s) (sumO (r.map (stN k n))) = some c := h
            rw [e1, e2] at h'
            cases h'
          | some c2 =>
            have h' : addO (stN k n s) (sumO (r.map (stN k n))) = some c := h
            rw [e1, e2] at h'
            exact ⟨c1, c2, rfl, rfl, (Option.some.inj h').symm⟩
      obtain ⟨d1, p1, q1⟩ := st_reads (hall s (by simp)) (body_reads n) h1
      obtain ⟨d2, p2, q2⟩ := ih c2 h2 (fun d m => hall d (List.mem_cons_of_mem _ m))
      rw [List.map_cons, List.flatten_cons]
      refine ⟨d1 ++ d2, paired_app p1 p2, fun S more hr hm => ?_⟩
      rw [List.append_assoc, q1 _ _ hr (by omega), q2 ⟨S.many + c1, addL [s] S.top, S.rest⟩ _ hr (by show S.many + c1 + c2 ≤ 24; omega), addL_two, Nat.add_assoc]
def R0 : RS := ⟨0, ⟨"", .tuple [], [], none⟩, []⟩
theorem text_reads {k : Str} {ss : List PyData} {c : Nat} (hl : Lay (.tuple ss)) (h : bodyN k 4 (.tuple ss) = some c) (hc : c ≤ 24) : ∃ ds, Paired LineG (bodyT 4 (.tuple ss)) ds ∧ readF k R0 ds = some ⟨c, ⟨"", .tuple [], ss, none⟩, []⟩ := by
  obtain ⟨ds, hp, hr⟩ := body_reads 4 ss c hl h
  refine ⟨ds, hp, ?_⟩
  have := hr R0 [] (by decide) (by show 0 + c ≤ 24; omega)
  rw [List.append_nil] at this
  rw [this]
  show some (RS.mk (0 + c) ⟨"", .tuple [], [] ++ ss, none⟩ []) = _
  rw [Nat.zero_add, List.nil_append]
end My

namespace My
open PySem L2 TL
/-! ### blocks on the heap -/
abbrev sBI : Stmt := inClass (top 39) 0
abbrev sMB : Stmt := inClass (top 39) 1
abbrev sME : Stmt := inClass (top 39) 2
abbrev sAS : Stmt := inClass (top 39) 3
structure BNo (K : PySem.W.Frag) (C : Addr) : Prop where
  cl : Cls K C
  nW : NoAttr K C "word"
  nC : NoAttr K C "condition"
  nB : NoAttr K C "bodies"
structure MCl (P : Program) (w : World) (K : PySem.W.Frag) (mg : Str → Option Value) (base : Heap) (k : Nat) (C : Addr) (x : Str) (ps : List Str) (sp : Sp) where
  f : Addr
  fd : FuncData
  G : FnOk P w K mg base CX0 k f fd ps sp
  b : Binds K fd ps []
  m : Meth K C x f
def bkf (w : Str) (vc : V) (bl : Addr) : List (Str × V) := [("word", .str w), ("condition", vc), ("bodies", .ref bl)]
/-- a block stands at b, its lists at o -/
def BlkA (K : PySem.W.Frag) (H : Hp) (C b : Addr) (bk : Blk) (o : List Addr) : Prop :=
  ∃ (dx : Addr) (vc : V) (bl l1 : Addr) (xs1 : List V), H b = some (.ins C dx (bkf bk.w vc bl)) ∧ Dt K H vc bk.c ∧ H l1 = some (.lst xs1) ∧ DpAll K (tupH H) xs1 bk.b1 ∧
    ((bk.b2 = none ∧ H bl = some (.lst [.ref l1]) ∧ o = [bl, l1]) ∨ ∃ s2 l2 xs2, bk.b2 = some s2 ∧ H bl = some (.lst [.ref l1, .ref l2]) ∧ H l2 = some (.lst xs2) ∧ DpAll K (tupH H) xs2 s2 ∧ o = [bl, l1, l2])
theorem BlkA.lists {K : PySem.W.Frag} {H : Hp} {C b : Addr} {bk : Blk} {o : List Addr} (h : BlkA K H C b bk o) : ∀ p ∈ o, ∃ xs, H p = some (.lst xs) := by
  obtain ⟨dx, vc, bl, l1, xs1, e1, e2, e3, e4, ⟨_, e5, rfl⟩ | ⟨s2, l2, xs2, _, e5, e6, e7, rfl⟩⟩ := h
  · intro p mp
    have mp' : p = bl ∨ p = l1 := by simpa using mp
    rcases mp' with rfl | rfl
    · exact ⟨_, e5⟩
    · exact ⟨_, e3⟩
  · intro p mp
    have mp' : p = bl ∨ p = l1 ∨ p = l2 := by simpa using mp
    rcases mp' with rfl | rfl | rfl
    · exact ⟨_, e5⟩
    · exact ⟨_, e3⟩
    · exact ⟨_, e6⟩
/-- what is written elsewhere leaves a block as it is -/
theorem BlkA.keep {K : PySem.W.Frag} {H H' : Hp} {C b : Addr} {bk : Blk} {o X : List Addr} (h : BlkA K H C b bk o) (f : Fx X H H') (k : KeepT H H') (hb : b ∉ X) (ho : ∀ p ∈ o, p ∉ X) : BlkA K H' C b bk o := by
  obtain ⟨dx, vc, bl, l1, xs1, e1, e2, e3, e4, e5⟩ := h
  have d1 : Dt K H' vc bk.c := dp_mono k.same _ _ e2
  have d2 := dpAll_mono k.same _ _ e4
  rcases e5 with ⟨e5, e6, rfl⟩ | ⟨s2, l2, xs2, e5, e6, e7, e8, rfl⟩
  · exact ⟨dx, vc, bl, l1, xs1, f _ _ hb e1, d1, f _ _ (ho l1 (by simp)) e3, d2, .inl ⟨e5, f _ _ (ho bl (by simp)) e6, rfl⟩⟩
  · exact ⟨dx, vc, bl, l1, xs1, f _ _ hb e1, d1, f _ _ (ho l1 (by simp)) e3, d2, .inr ⟨s2, l2, xs2, e5, f _ _ (ho bl (by simp)) e6, f _ _ (ho l2 (by simp)) e7, dpAll_mono k.same _ _ e8, rfl⟩⟩
theorem BlkA.same {K : PySem.W.Frag} {H H' : Hp} {C b : Addr} {bk : Blk} {o : List Addr} (h : BlkA K H C b bk o) (s : Same H H') : BlkA K H' C b bk o := h.keep (X := []) (Fx.of s) (KeepT.of s) (by simp) (by simp)
def spBI (K : PySem.W.Frag) (C : Addr) : Sp := fun vs H Q _ => ∃ (b dx : Addr) (z : Str) (vc : V) (c : PyData), vs = [.ref b, .str z, vc] ∧ H b = some (.ins C dx []) ∧ Dt K H vc c ∧
  ∀ H' bl l1, Fx [b] H H' → H bl = none → H l1 = none → bl ≠ l1 → BlkA K H' C b ⟨z, c, [], none⟩ [bl, l1] → Q .non H'
def spMB (K : PySem.W.Frag) (C : Addr) : Sp := fun vs H Q _ => ∃ (b : Addr) (bk : Blk) (o : List Addr), vs = [.ref b] ∧ BlkA K H C b bk o ∧ Q (.bl (mayBranch bk)) H
def spME (K : PySem.W.Frag) (C : Addr) : Sp := fun vs H Q _ => ∃ (b : Addr) (bk : Blk) (o : List Addr), vs = [.ref b] ∧ BlkA K H C b bk o ∧ Q (.bl (mayEnd bk)) H
def spAS (K : PySem.W.Frag) (C : Addr) : Sp := fun vs H Q _ => ∃ (b : Addr) (bk : Blk) (o : List Addr), vs = [.ref b] ∧ BlkA K H C b bk o ∧ ∀ H' p, Same H H' → H p = none → Dt K H' (.ref p) (asStmt bk) → Q (.ref p) H'
def rTupOf (K : PySem.W.Frag) : List V → Hp → VK → Prop := fun xs H Q => ∃ p ys, xs = [V.ref p] ∧ ((SqL K H p ys ∧ ∀ l, H l = none → Q (.ref l) (upd H l (.tup ys))) ∨ (SqT K H p ys ∧ Q (.ref p) H))
def bodsB (bk : Blk) : List (List PyData) := bk.b1 :: (match bk.b2 with
  | none => []
  | some x => [x])
theorem BlkA.bods {K : PySem.W.Frag} {H : Hp} {C b : Addr} {bk : Blk} {o : List Addr} (h : BlkA K H C b bk o) : ∃ (dx bl : Addr) (vc : V) (ls : List Addr), H b = some (.ins C dx (bkf bk.w vc bl)) ∧ Dt K H vc bk.c ∧ H bl = some (.lst (ls.map V.ref)) ∧ ls.length ≤ 2 ∧ ls.length = (bodsB bk).length ∧ Paired (fun l ss => ∃ xs, H l = some (.lst xs) ∧ DpAll K (tupH H) xs ss) ls (bodsB bk) := by
  obtain ⟨dx, vc, bl, l1, xs1, e1, e2, e3, e4, e5⟩ := h
  obtain ⟨bw, bc, b1, b2⟩ := bk
  rcases e5 with ⟨e5, e6, rfl⟩ | ⟨s2, l2, xs2, e5, e6, e7, e8, rfl⟩
  · cases (show b2 = none from e5)
    exact ⟨dx, bl, vc, [l1], e1, e2, e6, (by simp), rfl, .cons ⟨xs1, e3, e4⟩ .nil⟩
  · cases (show b2 = some s2 from e5)
    exact ⟨dx, bl, vc, [l1, l2], e1, e2, e6, (by simp), rfl, .cons ⟨xs1, e3, e4⟩ (.cons ⟨xs2, e7, e8⟩ .nil)⟩
theorem paired_at {α β : Type} {R : α → β → Prop} : ∀ {as : List α} {bs : List β} {i : Nat} {a : α}, Paired R as bs → as[i]? = some a → ∃ b, bs[i]? = some b ∧ R a b
  | _, _, _, _, .nil, h => by simp at h
  | _, _, 0, _, .cons r _, h => by
    cases h
    exact ⟨_, rfl, r⟩
  | _, _, i + 1, _, .cons _ t, h => by
    obtain ⟨b, hb, hr⟩ := paired_at (i := i) t (by simpa using h)
    exact ⟨b, by simpa using hb, hr⟩
theorem asStmt_eq (bk : Blk) : asStmt bk = .tuple ([.str bk.w, bk.c] ++ ((bodsB bk).map PyData.tuple ++ (if mayBranch bk = true then [.tuple []] else []))) := by
  obtain ⟨bw, bc, b1, b2⟩ := bk
  cases b2 with
  | none =>
    by_cases h : bw = "if"
    · simp [asStmt, bodsB, mayBranch, h]
    · simp [asStmt, bodsB, mayBranch, h]
  | some x => simp [asStmt, bodsB, mayBranch]
section
variable {P : Program} {w : World} {K : PySem.W.Frag} {mg : Str → Option Value} {base : Heap}
theorem scMB : FnScope ["self"] ["self"] (defScope sMB) := ⟨rfl, rfl, rfl, by decide +kernel, rfl, by decide +kernel, by decide +kernel⟩
theorem ok_MB {f C : Addr} {fd : FuncData} (F : Fun K "may_branch" "Block.may_branch" sMB f fd) (T : Gs K mg) (N : BNo K C) : FnOk P w K mg base CX0 1 f fd ["self"] (spMB K C) := by
  refine F.ok scMB (fun vs H Q E h => ?_) (fun cdv A outer s H vs Q E hr h => ?_)
  · obtain ⟨b, bk, o, rfl, _⟩ := h
    rfl
  obtain ⟨b, bk, o, rfl, ⟨dx, vc, bl, l1, xs1, e1, e2, e3, e4, e5⟩, q⟩ := h
  refine ⟨_, (pss_one (ps_ret (pe_and (pe_cmpR op_eq (pe_fld (pv 0) rfl) pe_str (nomark _)) (pe_one (pe_cmpR op_eq (pe_callB call_len_seq (by rfl) T.len PySem.boot_len (pa_cons (pe_fld (pv 0) rfl) pa_nil)) pe_int (nomark _)))))), ?_⟩
  refine ⟨_, rfl, b, C, dx, _, _, rfl, e1, N.cl, N.nW, rfl, rfl, _, rfl, ?_⟩
  unfold mayBranch at q
  by_cases c : bk.w = "if"
  · refine ite2 (fun _ => ?_) (fun n => absurd (decide_eq_true (by rw [c])) n)
    rw [decide_eq_true c, Bool.true_and] at q
    rcases e5 with ⟨h2, e6, _⟩ | ⟨s2, l2, xs2, h2, e6, _⟩
    · refine ⟨_, rfl, b, C, dx, _, _, rfl, e1, N.cl, N.nB, rfl, bl, _, rfl, .inl (SqL.of e6), rfl, ?_⟩
      rw [h2] at q
      exact q
    · refine ⟨_, rfl, b, C, dx, _, _, rfl, e1, N.cl, N.nB, rfl, bl, _, rfl, .inl (SqL.of e6), rfl, ?_⟩
      rw [h2] at q
      exact q
  · refine ite2 (fun n => absurd (of_decide_eq_true n) (fun e => c (by injection e))) (fun _ => ?_)
    rw [decide_eq_false c, Bool.false_and] at q
    exact q
theorem scME : FnScope ["self"] ["self"] (defScope sME) := ⟨rfl, rfl, rfl, by decide +kernel, rfl, by decide +kernel, by decide +kernel⟩
theorem ok_ME {f C : Addr} {fd : FuncData} (F : Fun K "may_end" "Block.may_end" sME f fd) (T : Gs K mg) (D : Gd K w mg) (N : BNo K C) : FnOk P w K mg base CX0 1 f fd ["self"] (spME K C) := by
  refine F.ok scME (fun vs H Q E h => ?_) (fun cdv A outer s H vs Q E hr h => ?_)
  · obtain ⟨b, bk, o, rfl, _⟩ := h
    rfl
  obtain ⟨b, bk, o, rfl, ⟨dx, vc, bl, l1, xs1, e1, e2, e3, e4, e5⟩, q⟩ := h
  refine ⟨_, (pss_one (ps_ret (pe_and (pe_cmpR op_inK (pe_fld (pv 0) rfl) (pe_gref rfl D.mB) (by rfl)) (pe_one (pe_or (pe_cmpR op_eq (pe_callB call_len_seq (by rfl) T.len PySem.boot_len (pa_cons (pe_fld (pv 0) rfl) pa_nil)) pe_int (nomark _)) (pe_one (pe_cmpR op_gt (pe_callB call_len_seq (by rfl) T.len PySem.boot_len (pa_cons (pe_ix ix_list (pe_fld (pv 0) rfl) pe_int (fun _ _ => rfl)) pa_nil)) pe_int (nomark _)))))))), ?_⟩
  refine ⟨_, rfl, b, C, dx, _, _, rfl, e1, N.cl, N.nW, rfl, D.aB, _, some bk.w, rfl, D.tB, rfl, _, rfl, ?_⟩
  rw [if_neg (show ¬ (false = true) by decide), getB]
  unfold mayEnd at q
  by_cases c : bk.w = "if" ∨ bk.w = "while"
  · refine ite2 (fun _ => ?_) (fun n => absurd (decide_eq_true c) n)
    rw [decide_eq_true c, Bool.true_and] at q
    rcases e5 with ⟨h2, e6, _⟩ | ⟨s2, l2, xs2, h2, e6, e7, e8, _⟩
    · refine ⟨_, rfl, b, C, dx, _, _, rfl, e1, N.cl, N.nB, rfl, bl, _, rfl, .inl (SqL.of e6), rfl, _, rfl, ?_⟩
      rw [h2] at q
      exact iteT q
    · refine ⟨_, rfl, b, C, dx, _, _, rfl, e1, N.cl, N.nB, rfl, bl, _, rfl, .inl (SqL.of e6), rfl, _, rfl, ?_⟩
      rw [h2] at q
      have hl := dpAll_len e8
      refine iteF ⟨_, rfl, b, C, dx, _, _, rfl, e1, N.cl, N.nB, rfl, bl, _, _, _, rfl, rfl, SqL.of e6, atI_nat (j := 1) rfl, l2, _, rfl, .inl (SqL.of e7), _, _, rfl, rfl, ?_⟩
      have eq : decide ((0 : Int) < ((xs2.length : Nat) : Int)) = decide (0 < s2.length) := decide_eq_decide.mpr (by omega)
      show Q (.bl (decide ((0 : Int) < ((xs2.length : Nat) : Int)))) H
      rw [eq]
      exact q
  · refine ite2 (fun n => absurd (of_decide_eq_true n) c) (fun _ => ?_)
    rw [decide_eq_false c, Bool.false_and] at q
    exact q
abbrev nsAS : List Str := ["self", "bodies", "body"]
theorem scAS : FnScope nsAS ["self"] (defScope sAS) := ⟨rfl, rfl, rfl, by decide +kernel, rfl, by decide +kernel, by decide +kernel⟩
theorem ok_AS {f C : Addr} {fd : FuncData} (F : Fun K "as_statement" "Block.as_statement" sAS f fd) (T : Gs K mg) (N : BNo K C) (MB : MCl P w K mg base 1 C "may_branch" ["self"] (spMB K C)) : FnOk P w K mg base CX0 2 f fd ["self"] (spAS K C) := by
  refine F.ok scAS (fun vs H Q E h => ?_) (fun cdv A outer s H vs Q E hr h => ?_)
  · obtain ⟨b, bk, o, rfl, _⟩ := h
    rfl
  obtain ⟨b, bk, o, rfl, hb, q⟩ := h
  refine ⟨_, (pss_cons (ps_setLc (i := 1) (own := [("body", 2)]) (g := gName 2) (tt := tYes) rfl scAS.nd rfl rfl (sw_true rfl rfl rfl (by decide +kernel)) (pi_list (pe_fld (pv 0) rfl)) (blkOk_by (N := nsAS) (sc := defScope sAS) (by decide +kernel)) (fun _ _ _ _ _ => pg_name (i := 2) scAS.nd rfl (.inl rfl)) (fun _ _ _ _ _ => pts_nil) (fun _ _ _ _ _ => pe_callTy (show CallR _ _ (rTupOf K) from call_tuple_of) (by rfl) T.tup (by decide +kernel) (pa_cons (pv 2) pa_nil)))
  (pss_cons (ps_if (pt_val (pe_meth0 (pv 0) N.cl MB.m MB.G hr MB.b .nil pass0))
    (pss_one (ps_expr (pe_bm PySem.F.plainAttrs_list PySem.F.slot_list_append PySem.F.type_list_append mt_append (pv 1) (pa_cons (pe_tup pa_nil) pa_nil))))
    pss_nil)
  (pss_one (ps_ret (pe_tup (pa_cons (pe_fld (pv 0) rfl) (pa_cons (pe_fld (pv 0) rfl) (StX.pa_star (pv 1) pa_nil)))))))), ?_⟩
  obtain ⟨dx, bl, vc, ls, e1, e2, e3, hl2, hll, hp⟩ := hb.bods
  refine ⟨_, rfl, b, C, dx, _, _, rfl, e1, N.cl, N.nB, rfl, bl, rfl, ⟨_, SqL.of e3⟩, fun G nG => lc_list (K := K) (a := bl) (xs := ls.map V.ref) (fun i H' => Same H H' ∧ ∃ ts : List V, H' G = some (.lst ts) ∧ DpAll K (tupH H') ts (((bodsB bk).take i).map PyData.tuple)) ⟨same_new nG _, [], upd_same, .nil⟩ (fun i H' _ ⟨s1, _⟩ => SqL.of (s1 _ _ e3)) ?_ ?_⟩
  · rintro i y H1 hy ⟨s1, ts, eG, tp⟩
    rw [List.getElem?_map] at hy
    cases hu : ls[i]? with
    | none => rw [hu] at hy; cases hy
    | some l =>
    rw [hu] at hy
    cases hy
    have hi : i < ls.length := (List.getElem?_eq_some_iff.mp hu).1
    obtain ⟨ss, hss, xs, ex, dx'⟩ := paired_at hp hu
    refine ⟨rfl, ?_⟩
    dsimp only [tYes]
    rw [if_pos rfl]
    refine ⟨_, rfl, l, xs, rfl, .inl ⟨SqL.of (s1 _ _ ex), fun t nt => ?_⟩⟩
    have u2 := same_new nt (.tup xs)
    have d2 : Dt K (upd H1 t (.tup xs)) (.ref t) (.tuple ss) := new_tup nt (dpAll_mono (KeepT.of s1).same _ _ dx')
    generalize upd H1 t (.tup xs) = H2 at u2 d2 ⊢
    have hlt := dpAll_len tp
    rw [List.length_map, List.length_take] at hlt
    have k3 : KeepT H2 (upd H2 G (.lst (ts ++ [.ref t]))) := KeepT.upd ⟨_, u2 _ _ eG⟩
    refine ⟨ts, u2 _ _ eG, Nat.lt_of_le_of_lt (by omega : _ ≤ 10) (by decide), same_upd (s1.trans u2) nG _, ts ++ [.ref t], upd_same, ?_⟩
    rw [take_snoc hss, List.map_append]
    exact dpAll_append (dpAll_mono (((KeepT.of u2).trans k3).same) _ _ tp) (.cons (dp_mono k3.same _ _ d2) .nil)
  rintro H1 ⟨s1, ts, eG, tp⟩
  rw [List.length_map, hll, List.take_length] at tp
  have hlt := dpAll_len tp
  rw [List.length_map] at hlt
  dsimp only [List.set_cons_succ, List.set_cons_zero]
  have fin : ∀ (H2 : Hp) (zs : List V), Same H H2 → H2 G = some (.lst zs) → zs.length ≤ 10 → DpAll K (tupH H2) zs ((bodsB bk).map PyData.tuple ++ (if mayBranch bk = true then [.tuple []] else [])) → ∀ t, H2 t = none → Q (.ref t) (upd H2 t (.tup ([.str bk.w, vc] ++ zs))) := fun H2 zs s2 _ _ hz t nt => by
    refine q _ t (s2.trans (same_new nt _)) (s2.free nt) ?_
    rw [asStmt_eq]
    exact new_tup nt (.cons (.str _) (.cons (dp_mono (KeepT.of s2).same _ _ e2) hz))
  refine ⟨_, rfl, b, dx, _, rfl, s1 _ _ e1, rfl, b, bk, o, rfl, hb.same s1, _, rfl, ?_⟩
  cases hm : mayBranch bk with
  | true =>
    rw [hm] at fin
    refine iteT ⟨_, rfl, .inl ⟨rfl, _, SqL.of eG⟩, (by show 0 ≤ sizeLine; decide), fun t nt => ?_⟩
    have u2 := same_new nt (.tup [])
    have d2 : Dt K (upd H1 t (.tup [])) (.ref t) (.tuple []) := new_tup nt .nil
    generalize upd H1 t (.tup []) = H2 at u2 d2 ⊢
    have k3 : KeepT H2 (upd H2 G (.lst (ts ++ [.ref t]))) := KeepT.upd ⟨_, u2 _ _ eG⟩
    refine ⟨G, ts, _, rfl, rfl, u2 _ _ eG, Nat.lt_of_le_of_lt (by omega : _ ≤ 10) (by decide), ?_⟩
    have s3 : Same H (upd H2 G (.lst (ts ++ [.ref t]))) := same_upd (s1.trans u2) nG _
    have e3' : (upd H2 G (.lst (ts ++ [.ref t]))) G = some (.lst (ts ++ [.ref t])) := upd_same
    have d3 : DpAll K (tupH (upd H2 G (.lst (ts ++ [.ref t])))) (ts ++ [.ref t]) ((bodsB bk).map PyData.tuple ++ [.tuple []]) := dpAll_append (dpAll_mono (((KeepT.of u2).trans k3).same) _ _ tp) (.cons (dp_mono k3.same _ _ d2) .nil)
    generalize upd H2 G (.lst (ts ++ [.ref t])) = H3 at s3 e3' d3 ⊢
    refine ⟨_, rfl, b, C, dx, _, _, rfl, s3 _ _ e1, N.cl, N.nW, rfl, _, rfl, b, C, dx, _, _, rfl, s3 _ _ e1, N.cl, N.nC, rfl, _, rfl, G, _, rfl, .inr (SqL.of e3'), ?_, fun t' nt' => ?_⟩
    · rw [List.append_nil, List.length_cons, List.length_cons, List.length_append]
      exact Nat.le_trans (by show _ + 1 + 1 + 1 ≤ 20; omega : _ ≤ 20) (by decide)
    · rw [List.append_nil]
      exact fin H3 _ s3 e3' (by rw [List.length_append]; show ts.length + 1 ≤ 10; omega) d3 t' nt'
  | false =>
    rw [hm] at fin
    refine iteF ⟨_, rfl, b, C, dx, _, _, rfl, s1 _ _ e1, N.cl, N.nW, rfl, _, rfl, b, C, dx, _, _, rfl, s1 _ _ e1, N.cl, N.nC, rfl, _, rfl, G, _, rfl, .inr (SqL.of eG), ?_, fun t' nt' => ?_⟩
    · rw [List.append_nil, List.length_cons, List.length_cons]
      exact Nat.le_trans (by omega : _ ≤ 20) (by decide)
    · rw [List.append_nil]
      exact fin H1 _ s1 eG (by omega) (by rw [if_neg (by decide), List.append_nil]; exact tp) t' nt'
theorem scBI : FnScope ["self", "word", "condition"] ["self", "word", "condition"] (defScope sBI) := ⟨rfl, rfl, rfl, by decide +kernel, rfl, by decide +kernel, by decide +kernel⟩
theorem ok_BI {f C : Addr} {fd : FuncData} (F : Fun K "__init__" "Block.__init__" sBI f fd) (N : BNo K C) : FnOk P w K mg base CX0 1 f fd ["self", "word", "condition"] (spBI K C) := by
  refine F.ok scBI (fun vs H Q E h => ?_) (fun cdv A outer s H vs Q E hr h => ?_)
  · obtain ⟨b, dx, z, vc, c, rfl, _⟩ := h
    rfl
  obtain ⟨b, dx, z, vc, c, rfl, e0, hc, q⟩ := h
  refine ⟨_, (pss_cons (ps_fld (pv 0) (pv 1) rfl)
  (pss_cons (ps_fld (pv 0) (pv 2) rfl)
  (pss_one (ps_fld (pv 0) (pe_lst (pa_cons (pe_lst pa_nil) pa_nil)) rfl)))), ?_⟩
  refine ⟨_, rfl, _, rfl, b, C, dx, _, rfl, e0, N.cl, N.nW, (by show 0 < 1000; decide), ?_⟩
  refine ⟨_, rfl, _, rfl, b, C, dx, _, rfl, upd_same, N.cl, N.nC, (by show 1 < 1000; decide), ?_⟩
  have f1 : Fx [b] H (upd (upd H b (.ins C dx (putF "word" (.str z) []))) b (.ins C dx (putF "condition" vc (putF "word" (.str z) [])))) := (Fx.upd (by simp)).trans (Fx.upd (by simp))
  have e1 : (upd (upd H b (.ins C dx (putF "word" (.str z) []))) b (.ins C dx (putF "condition" vc (putF "word" (.str z) [])))) b = some (.ins C dx [("word", .str z), ("condition", vc)]) := upd_same
  have n1 : ∀ p, (upd (upd H b (.ins C dx (putF "word" (.str z) []))) b (.ins C dx (putF "condition" vc (putF "word" (.str z) [])))) p = none → H p = none := fun p e => by
    by_cases c : p = b
    · rw [c, upd_same] at e; cases e
    · rw [upd_ne c, upd_ne c] at e; exact e
  generalize upd (upd H b (.ins C dx (putF "word" (.str z) []))) b (.ins C dx (putF "condition" vc (putF "word" (.str z) []))) = H1 at f1 e1 n1 ⊢
  refine ⟨(by show 0 ≤ sizeLine; decide), fun l1 nl1 => ?_⟩
  have u2 := same_new nl1 (.lst [])
  have e2 : (upd H1 l1 (.lst [])) l1 = some (.lst []) := upd_same
  generalize upd H1 l1 (.lst []) = H2 at u2 e2 ⊢
  refine ⟨(by show 1 ≤ sizeLine; decide), fun bl nbl => ?_⟩
  have u3 := same_new nbl (.lst [.ref l1])
  have e3 : (upd H2 bl (.lst [.ref l1])) bl = some (.lst [.ref l1]) := upd_same
  generalize upd H2 bl (.lst [.ref l1]) = H3 at u3 e3 ⊢
  refine ⟨_, rfl, b, C, dx, _, rfl, u3 _ _ (u2 _ _ e1), N.cl, N.nB, (by show 2 < 1000; decide), ?_⟩
  have nb1 : l1 ≠ b := fun x => by rw [x, e1] at nl1; cases nl1
  have nb2 : bl ≠ b := fun x => by rw [x, u2 _ _ e1] at nbl; cases nbl
  have n12 : bl ≠ l1 := fun x => by rw [x, e2] at nbl; cases nbl
  have f4 : Fx [b] H (upd H3 b (.ins C dx (putF "bodies" (.ref bl) [("word", .str z), ("condition", vc)]))) := (f1.trans (Fx.of (u2.trans u3))).trans (Fx.upd (by simp))
  have kT : KeepT H (upd H3 b (.ins C dx (putF "bodies" (.ref bl) [("word", .str z), ("condition", vc)]))) :=
    ⟨fun p xs e => f4 _ _ (by simp; rintro rfl; rw [e0] at e; cases e) e, fun p o u e => f4 _ _ (by simp; rintro rfl; rw [e0] at e; cases e) e⟩
  refine q _ bl l1 f4 (n1 _ (u2.free nbl)) (n1 _ nl1) n12 ?_
  exact ⟨dx, vc, bl, l1, [], upd_same, dp_mono kT.same _ _ hc, by rw [upd_ne nb1]; exact u3 _ _ e2, .nil, .inl ⟨rfl, by rw [upd_ne nb2]; exact e3, rfl⟩⟩
end
end My

namespace My
open PySem L2 TL
/-! ### the reader on the heap -/
abbrev sDI : Stmt := inClass (top 40) 0
abbrev sDH : Stmt := inClass (top 40) 1
abbrev sDA : Stmt := inClass (top 40) 2
abbrev sDT : Stmt := inClass (top 40) 3
abbrev sDC : Stmt := inClass (top 40) 4
abbrev sDP : Stmt := inClass (top 40) 5
structure DNo (K : PySem.W.Frag) (C : Addr) : Prop where
  cl : Cls K C
  nK : NoAttr K C "kind"
  nM : NoAttr K C "many"
  nB : NoAttr K C "blocks"
def rdf (k : Str) (m : Nat) (lb : Addr) : List (Str × V) := [("kind", .str k), ("many", .int (m : Int)), ("blocks", .ref lb)]
inductive StkA (K : PySem.W.Frag) (H : Hp) (C : Addr) : List Addr → List Blk → List Addr → Prop
  | nil : StkA K H C [] [] []
  | cons {b : Addr} {bk : Blk} {o bs os : List Addr} {bks : List Blk} : BlkA K H C b bk o → StkA K H C bs bks os → StkA K H C (b :: bs) (bk :: bks) (o ++ os)
theorem StkA.len {K : PySem.W.Frag} {H : Hp} {C : Addr} : ∀ {bs os : List Addr} {bks : List Blk}, StkA K H C bs bks os → bs.length = bks.length
  | _, _, _, .nil => rfl
  | _, _, _, .cons _ t => by rw [List.length_cons, List.length_cons, t.len]
theorem StkA.lists {K : PySem.W.Frag} {H : Hp} {C : Addr} : ∀ {bs os : List Addr} {bks : List Blk}, StkA K H C bs bks os → ∀ p ∈ os, ∃ xs, H p = some (.lst xs)
  | _, _, _, .nil => fun p m => nomatch m
  | _, _, _, .cons h t => fun p m => by
    rcases List.mem_append.mp m with m | m
    · exact h.lists p m
    · exact t.lists p m
theorem StkA.obs {K : PySem.W.Frag} {H : Hp} {C : Addr} : ∀ {bs os : List Addr} {bks : List Blk}, StkA K H C bs bks os → ∀ b ∈ bs, ∃ dx z vc bl, H b = some (.ins C dx (bkf z vc bl))
  | _, _, _, .nil => fun p m => nomatch m
  | _, _, _, .cons h t => fun p m => by
    rcases List.mem_cons.mp m with rfl | m
    · obtain ⟨dx, vc, bl, l1, xs1, e1, _⟩ := h
      exact ⟨_, _, _, _, e1⟩
    · exact t.obs p m
theorem StkA.keep {K : PySem.W.Frag} {H H' : Hp} {C : Addr} {X : List Addr} (f : Fx X H H') (k : KeepT H H') : ∀ {bs os : List Addr} {bks : List Blk}, StkA K H C bs bks os → (∀ b ∈ bs, b ∉ X) → (∀ p ∈ os, p ∉ X) → StkA K H' C bs bks os
  | _, _, _, .nil, _, _ => .nil
  | _, _, _, .cons h t, hb, ho => .cons (h.keep f k (hb _ (List.mem_cons_self ..)) fun p m => ho p (List.mem_append.mpr (.inl m))) (t.keep f k (fun b m => hb b (List.mem_cons_of_mem _ m)) fun p m => ho p (List.mem_append.mpr (.inr m)))
structure RdA (K : PySem.W.Frag) (H0 H : Hp) (CR CB r dx lb : Addr) (bs os : List Addr) (k : Str) (S : RS) : Prop where
  ob : H r = some (.ins CR dx (rdf k S.many lb))
  hb : H lb = some (.lst (bs.reverse.map V.ref))
  st : StkA K H CB bs (S.top :: S.rest) os
  nd : (lb :: os).Nodup
  fr : H0 r = none
  fo : ∀ p ∈ lb :: os, H0 p = none
  sm : Same H0 H
theorem RdA.same {K : PySem.W.Frag} {H0 H H' : Hp} {CR CB r dx lb : Addr} {bs os : List Addr} {k : Str} {S : RS} (h : RdA K H0 H CR CB r dx lb bs os k S) (s : Same H H') : RdA K H0 H' CR CB r dx lb bs os k S :=
  ⟨s _ _ h.ob, s _ _ h.hb, h.st.keep (X := []) (Fx.of s) (KeepT.of s) (by simp) (by simp), h.nd, h.fr, h.fo, h.sm.trans s⟩
/-- the places of the blocks are no lists and not the reader's -/
theorem RdA.bl {K : PySem.W.Frag} {H0 H : Hp} {CR CB r dx lb : Addr} {bs os : List Addr} {k : Str} {S : RS} (h : RdA K H0 H CR CB r dx lb bs os k S) : ∀ b ∈ bs, b ∉ r :: lb :: os := fun b m z => by
  obtain ⟨dx', z', vc, bl, e⟩ := h.st.obs b m
  rcases List.mem_cons.mp z with rfl | z
  · rw [h.ob] at e
    have e' := Option.some.inj e
    injection e' with _ _ e'
    have : (("kind" : Str), V.str k) = (("word" : Str), V.str z') := by injection e'
    injection this with this _
    revert this
    decide +kernel
  · rcases List.mem_cons.mp z with rfl | z
    · rw [h.hb] at e; cases e
    · obtain ⟨xs, e2⟩ := h.st.lists b z
      rw [e2] at e; cases e
theorem RdA.rl {K : PySem.W.Frag} {H0 H : Hp} {CR CB r dx lb : Addr} {bs os : List Addr} {k : Str} {S : RS} (h : RdA K H0 H CR CB r dx lb bs os k S) : r ∉ lb :: os := fun z => by
  rcases List.mem_cons.mp z with rfl | z
  · have := h.ob; rw [h.hb] at this; cases this
  · obtain ⟨xs, e2⟩ := h.st.lists r z
    have := h.ob; rw [e2] at this; cases this
/-- what is written at the reader's own places leaves tuples as they are -/
theorem RdA.kt {K : PySem.W.Frag} {H0 H H' : Hp} {CR CB r dx lb : Addr} {bs os : List Addr} {k : Str} {S : RS} (h : RdA K H0 H CR CB r dx lb bs os k S) (f : Fx (r :: lb :: os) H H') : KeepT H H' := by
  have n : ∀ {p : Addr} {o : HO}, H p = some o → (∀ xs, o ≠ .lst xs) → (∀ C dx fs, o ≠ .ins C dx fs) → p ∉ r :: lb :: os := fun {p o} e n1 n2 z => by
    rcases List.mem_cons.mp z with rfl | z
    · rw [h.ob] at e; cases e; exact n2 _ _ _ rfl
    · rcases List.mem_cons.mp z with rfl | z
      · rw [h.hb] at e; cases e; exact n1 _ rfl
      · obtain ⟨xs, e2⟩ := h.st.lists p z
        rw [e2] at e; cases e; exact n1 _ rfl
  exact ⟨fun p xs e => f _ _ (n e (fun _ z => nomatch z) (fun _ _ _ z => nomatch z)) e, fun p o u e => f _ _ (n e (fun _ z => nomatch z) (fun _ _ _ z => nomatch z)) e⟩
theorem RdA.sm' {K : PySem.W.Frag} {H0 H H' : Hp} {CR CB r dx lb : Addr} {bs os : List Addr} {k : Str} {S : RS} (h : RdA K H0 H CR CB r dx lb bs os k S) (f : Fx (r :: lb :: os) H H') : Same H0 H' :=
  Fx.same h.sm (fun p m => by
    rcases List.mem_cons.mp m with rfl | m
    · exact h.fr
    · exact h.fo p m) f
/-- a block's last body -/
theorem BlkA.last {K : PySem.W.Frag} {H : Hp} {C b : Addr} {bk : Blk} {o : List Addr} (h : BlkA K H C b bk o) (hn : o.Nodup) : ∃ (dx bl : Addr) (vc : V) (ys : List V) (l : Addr) (xs : List V), H b = some (.ins C dx (bkf bk.w vc bl)) ∧ H bl = some (.lst (ys ++ [.ref l])) ∧ H l = some (.lst xs) ∧ l ∈ o ∧ (xs.length = bk.b1.length ∨ ∃ x, bk.b2 = some x ∧ xs.length = x.length) ∧
    ∀ H', Same H H' → ∀ v d, Dt K H' v d → BlkA K (upd H' l (.lst (xs ++ [v]))) C b (addL [d] bk) o := by
  obtain ⟨dx, vc, bl, l1, xs1, e1, e2, e3, e4, e5⟩ := h
  obtain ⟨bw, bc, b1, b2⟩ := bk
  rcases e5 with ⟨e5, e6, rfl⟩ | ⟨s2, l2, xs2, e5, e6, e7, e8, rfl⟩
  · cases (show b2 = none from e5)
    refine ⟨dx, bl, vc, [], l1, xs1, e1, e6, e3, by simp, .inl (dpAll_len e4), fun H' s v d hd => ?_⟩
    have k : KeepT H' (upd H' l1 (.lst (xs1 ++ [v]))) := KeepT.upd ⟨_, s _ _ e3⟩
    have k2 := (KeepT.of s).trans k
    have n1 : b ≠ l1 := fun z => by rw [z, e3] at e1; cases e1
    have n2 : bl ≠ l1 := by simp at hn; exact hn
    exact ⟨dx, vc, bl, l1, xs1 ++ [v], by rw [upd_ne n1]; exact s _ _ e1, dp_mono k2.same _ _ e2, upd_same, dpAll_append (dpAll_mono k2.same _ _ e4) (.cons (dp_mono k.same _ _ hd) .nil), .inl ⟨rfl, by rw [upd_ne n2]; exact s _ _ e6, rfl⟩⟩
  · cases (show b2 = some s2 from e5)
    refine ⟨dx, bl, vc, [.ref l1], l2, xs2, e1, e6, e7, by simp, .inr ⟨s2, rfl, dpAll_len e8⟩, fun H' s v d hd => ?_⟩
    have k : KeepT H' (upd H' l2 (.lst (xs2 ++ [v]))) := KeepT.upd ⟨_, s _ _ e7⟩
    have k2 := (KeepT.of s).trans k
    have n1 : b ≠ l2 := fun z => by rw [z, e7] at e1; cases e1
    have hn' : (¬ bl = l1 ∧ ¬ bl = l2) ∧ ¬ l1 = l2 := by simpa using hn
    exact ⟨dx, vc, bl, l1, xs1, by rw [upd_ne n1]; exact s _ _ e1, dp_mono k2.same _ _ e2, by rw [upd_ne hn'.2]; exact s _ _ e3, dpAll_mono k2.same _ _ e4, .inr ⟨s2 ++ [d], l2, xs2 ++ [v], rfl, by rw [upd_ne hn'.1.2]; exact s _ _ e6, upd_same, dpAll_append (dpAll_mono k2.same _ _ e8) (.cons (dp_mono k.same _ _ hd) .nil), rfl⟩⟩
theorem eqv_word (ds : List PyData) (z : Str) : PyData.eqv (.tuple ds) (.tuple [.str z]) = isW (.tuple ds) z := by
  cases ds with
  | nil => simp [PyData.eqv, PyData.eqvAll, isW]
  | cons d r =>
    cases r with
    | nil =>
      cases d with
      | str x =>
        have e : (x == z) = decide (x = z) := by
          by_cases c : x = z
          · subst c; simp
          · rw [decide_eq_false c]; exact beq_false_of_ne c
        simp [PyData.eqv, PyData.eqvAll, isW, e]
      | _ => simp [PyData.eqv, PyData.eqvAll, isW]
    | cons e r => simp [PyData.eqv, PyData.eqvAll, isW]
def spDH (K : PySem.W.Frag) (CR CB : Addr) : Sp := fun vs H Q _ => ∃ (H0 : Hp) (r dx lb : Addr) (bs os : List Addr) (k : Str) (S : RS), vs = [.ref r] ∧ RdA K H0 H CR CB r dx lb bs os k S ∧ Q (.bl (hasRoom S)) H
def spDC (K : PySem.W.Frag) (CR CB : Addr) : Sp := fun vs H Q _ => ∃ (H0 : Hp) (r dx lb : Addr) (bs os : List Addr) (k : Str) (S : RS), vs = [.ref r] ∧ RdA K H0 H CR CB r dx lb bs os k S ∧ Q (.bl (decide (S.rest = []))) H
def spDP (K : PySem.W.Frag) (CR CB : Addr) : Sp := fun vs H Q _ => ∃ (H0 : Hp) (r dx lb : Addr) (bs os : List Addr) (k : Str) (S : RS), vs = [.ref r] ∧ RdA K H0 H CR CB r dx lb bs os k S ∧ S.rest = [] ∧ ∀ H' p, Same H H' → H p = none → Dt K H' (.ref p) (.tuple [.str k, .tuple S.top.b1]) → Q (.ref p) H'
def spDA (K : PySem.W.Frag) (CR CB : Addr) : Sp := fun vs H Q _ => ∃ (H0 : Hp) (r dx lb : Addr) (bs os : List Addr) (k : Str) (S : RS) (v : V) (ds : List PyData), vs = [.ref r, v] ∧ RdA K H0 H CR CB r dx lb bs os k S ∧ Dt K H v (.tuple ds) ∧ Lay (.tuple ds) ∧ SeqAt.shaped (.tuple ds) = true ∧ (ds ≠ [] → ∃ w r, ds = .str w :: r) ∧ ∀ H', Same H H' → Q (.bl (allowsF k S (.tuple ds))) H'
section
variable {P : Program} {w : World} {K : PySem.W.Frag} {mg : Str → Option Value} {base : Heap}
theorem scDH : FnScope ["self"] ["self"] (defScope sDH) := ⟨rfl, rfl, rfl, by decide +kernel, rfl, by decide +kernel, by decide +kernel⟩
theorem ok_DH {f CR CB : Addr} {fd : FuncData} (F : Fun K "has_room" "Reader.has_room" sDH f fd) (T : Gs K mg) (N : DNo K CR) : FnOk P w K mg base CX0 1 f fd ["self"] (spDH K CR CB) := by
  refine F.ok scDH (fun vs H Q E h => ?_) (fun cdv A outer s H vs Q E hr h => ?_)
  · obtain ⟨H0, r, dx, lb, bs, os, k, S, rfl, _⟩ := h
    rfl
  obtain ⟨H0, r, dx, lb, bs, os, k, S, rfl, h, q⟩ := h
  refine ⟨_, (pss_one (ps_ret (pe_and (pe_cmpR op_lt (pe_fld (pv 0) rfl) (pe_gint rfl T.mS) (nomark _)) (pe_one (pe_cmpR op_le (pe_callB call_len_seq (by rfl) T.len PySem.boot_len (pa_cons (pe_fld (pv 0) rfl) pa_nil)) (pe_gint rfl T.mD) (nomark _)))))), ?_⟩
  have hl := h.st.len
  rw [List.length_cons] at hl
  refine ⟨_, rfl, r, CR, dx, _, _, rfl, h.ob, N.cl, N.nM, rfl, _, _, rfl, rfl, _, rfl, ?_⟩
  unfold hasRoom at q
  by_cases c : S.many < 24
  · refine ite2 (fun _ => ?_) (fun n => absurd (decide_eq_true (show ((S.many : Nat) : Int) < 24 by omega)) n)
    rw [decide_eq_true c, Bool.true_and] at q
    refine ⟨_, rfl, r, CR, dx, _, _, rfl, h.ob, N.cl, N.nB, rfl, lb, _, rfl, .inl (SqL.of h.hb), _, _, rfl, rfl, ?_⟩
    show Q (.bl (decide ((((bs.reverse.map V.ref).length : Nat) : Int) ≤ 4))) H
    rw [List.length_map, List.length_reverse, show decide (((bs.length : Nat) : Int) ≤ 4) = decide (S.rest.length + 1 ≤ 4) from decide_eq_decide.mpr (by omega)]
    exact q
  · refine ite2 (fun n => absurd (of_decide_eq_true n) (show ¬ ((S.many : Nat) : Int) < 24 by omega)) (fun _ => ?_)
    rw [decide_eq_false c, Bool.false_and] at q
    exact q
theorem scDC : FnScope ["self"] ["self"] (defScope sDC) := ⟨rfl, rfl, rfl, by decide +kernel, rfl, by decide +kernel, by decide +kernel⟩
theorem ok_DC {f CR CB : Addr} {fd : FuncData} (F : Fun K "is_complete" "Reader.is_complete" sDC f fd) (T : Gs K mg) (N : DNo K CR) : FnOk P w K mg base CX0 1 f fd ["self"] (spDC K CR CB) := by
  refine F.ok scDC (fun vs H Q E h => ?_) (fun cdv A outer s H vs Q E hr h => ?_)
  · obtain ⟨H0, r, dx, lb, bs, os, k, S, rfl, _⟩ := h
    rfl
  obtain ⟨H0, r, dx, lb, bs, os, k, S, rfl, h, q⟩ := h
  refine ⟨_, (pss_one (ps_ret (pe_cmpR op_eq (pe_callB call_len_seq (by rfl) T.len PySem.boot_len (pa_cons (pe_fld (pv 0) rfl) pa_nil)) pe_int (nomark _)))), ?_⟩
  have hl := h.st.len
  rw [List.length_cons] at hl
  refine ⟨_, rfl, r, CR, dx, _, _, rfl, h.ob, N.cl, N.nB, rfl, lb, _, rfl, .inl (SqL.of h.hb), rfl, ?_⟩
  show Q (.bl (decide (V.int (((bs.reverse.map V.ref).length : Nat) : Int) = V.int 1))) H
  have e : decide (V.int (((bs.reverse.map V.ref).length : Nat) : Int) = V.int 1) = decide (S.rest = []) := decide_eq_decide.mpr (by
    rw [List.length_map, List.length_reverse, hl]
    constructor
    · intro e
      injection e with e
      exact List.eq_nil_of_length_eq_zero (by omega)
    · intro e
      rw [e]
      rfl)
  rw [e]
  exact q
theorem scDP : FnScope ["self"] ["self"] (defScope sDP) := ⟨rfl, rfl, rfl, by decide +kernel, rfl, by decide +kernel, by decide +kernel⟩
theorem ok_DP {f CR CB : Addr} {fd : FuncData} (F : Fun K "as_program" "Reader.as_program" sDP f fd) (T : Gs K mg) (N : DNo K CR) (NB : BNo K CB) : FnOk P w K mg base CX0 1 f fd ["self"] (spDP K CR CB) := by
  refine F.ok scDP (fun vs H Q E h => ?_) (fun cdv A outer s H vs Q E hr h => ?_)
  · obtain ⟨H0, r, dx, lb, bs, os, k, S, rfl, _⟩ := h
    rfl
  obtain ⟨H0, r, dx, lb, bs, os, k, S, rfl, h, hS, q⟩ := h
  refine ⟨_, (pss_one (ps_ret (pe_tup (pa_cons (pe_fld (pv 0) rfl) (pa_cons (pe_callTy call_tuple_of (by rfl) T.tup (by decide +kernel) (pa_cons (pe_ix ix_list (pe_fld (pe_ix ix_list (pe_fld (pv 0) rfl) pe_int (fun _ _ => rfl)) rfl) pe_int (fun _ _ => rfl)) pa_nil)) pa_nil))))), ?_⟩
  have hst := h.st
  rw [hS] at hst
  have hhb := h.hb
  cases hst with
  | cons hb1 t =>
  cases t
  rename_i b o
  obtain ⟨dx', bl, vc, ls, e1, e2, e3, hl2, hll, hp⟩ := hb1.bods
  cases hp with
  | @cons l ss ls' sss hx hp' =>
  obtain ⟨xs, ex, dxs⟩ := hx
  refine ⟨_, rfl, r, CR, dx, _, _, rfl, h.ob, N.cl, N.nK, rfl, _, rfl, r, CR, dx, _, _, rfl, h.ob, N.cl, N.nB, rfl, lb, _, _, _, rfl, rfl, SqL.of hhb, atI_nat (j := 0) rfl, b, CB, dx', _, _, rfl, e1, NB.cl, NB.nB, rfl, bl, _, _, _, rfl, rfl, SqL.of e3, atI_nat (j := 0) rfl, l, xs, rfl, .inl ⟨SqL.of ex, fun t nt => ?_⟩⟩
  have u2 := same_new nt (.tup xs)
  have d2 : Dt K (upd H t (.tup xs)) (.ref t) (.tuple S.top.b1) := new_tup nt dxs
  generalize upd H t (.tup xs) = H2 at u2 d2 ⊢
  refine ⟨(by show 2 ≤ sizeLine; decide), fun t' nt' => ?_⟩
  exact q _ t' (u2.trans (same_new nt' _)) (u2.free nt') (new_tup nt' (.cons (.str _) (.cons d2 .nil)))
theorem shaped_word (z : Str) (h : PyData.strOk z = true) : SeqAt.shaped (.tuple [.str z]) = true := by
  show ((PyData.tuple [.str z]).canLay0 && decide (_ ≤ 64)) = true
  rw [Bool.and_eq_true]
  refine ⟨lay_tuple fun d m => ?_, decide_eq_true (by simp only [PyData.depth, PyData.depthAll]; decide)⟩
  rw [List.mem_singleton.mp m]
  exact lay_str h
/-- parts == (z,) -/
theorem eq_word {H : Hp} {v : V} {ds : List PyData} {z : Str} {t : Addr} {Q : VK} (hd : Dp K H v (.tuple ds)) (sh : SeqAt.shaped (.tuple ds) = true) (hz : PyData.strOk z = true) (et : H t = some (.tup [.str z])) (q : Q (.bl (isW (.tuple ds) z)) H) : rEqD K v (.ref t) H Q := by
  refine ⟨.tuple ds, .tuple [.str z], hd, .tup (SqT.of et) (.cons (.str _) .nil), sh, shaped_word z hz, ?_⟩
  rw [eqv_word]
  exact q
theorem scDA : FnScope ["self", "parts", "block"] ["self", "parts"] (defScope sDA) := ⟨rfl, rfl, rfl, by decide +kernel, rfl, by decide +kernel, by decide +kernel⟩
theorem ok_DA {f CR CB : Addr} {fd : FuncData} (F : Fun K "allows" "Reader.allows" sDA f fd) (N : DNo K CR) (NB : BNo K CB) (ME : MCl P w K mg base 1 CB "may_end" ["self"] (spME K CB)) (MB : MCl P w K mg base 1 CB "may_branch" ["self"] (spMB K CB)) (MH : MCl P w K mg base 1 CR "has_room" ["self"] (spDH K CR CB))
    (CO : Cal P w K mg base 5 "is_opening" ["parts"] (spOpn K)) (CP : Cal P w K mg base 5 "is_plain_statement" ["thing", "kind"] (sp2 isPlain K)) : FnOk P w K mg base CX0 6 f fd ["self", "parts"] (spDA K CR CB) := by
  refine F.ok scDA (fun vs H Q E h => ?_) (fun cdv A outer s H vs Q E hr h => ?_)
  · obtain ⟨H0, r, dx, lb, bs, os, k, S, v, ds, rfl, _⟩ := h
    rfl
  obtain ⟨H0, r, dx, lb, bs, os, k, S, v, ds, rfl, h, hd, hly, hsh, hw, q⟩ := h
  have hr1 : Room 1 _ := hr.mono (by decide)
  refine ⟨_, (pss_cons (ps_set (i := 2) scDA.nd rfl (.inl rfl) (pe_ix ix_list (pe_fld (pv 0) rfl) (pe_un un_neg pe_int) (fun _ _ => rfl)))
  (pss_cons (ps_if (pt_cmpR (op_eqD hr.units) (pv 1) (pe_tup (pa_cons pe_str pa_nil)) (nomark _))
    (pss_one (ps_ret (pe_meth0 (pv 2) NB.cl ME.m ME.G hr1 ME.b .nil pass0)))
    pss_nil)
  (pss_cons (ps_if (pt_not (pt_val (pe_meth0 (pv 0) N.cl MH.m MH.G hr1 MH.b .nil pass0)))
    (pss_one (ps_ret pe_bl))
    pss_nil)
  (pss_cons (ps_if (pt_cmpR (op_eqD hr.units) (pv 1) (pe_tup (pa_cons pe_str pa_nil)) (nomark _))
    (pss_one (ps_ret (pe_meth0 (pv 2) NB.cl MB.m MB.G hr1 MB.b .nil pass0)))
    pss_nil)
  (pss_one (ps_ret (pe_or (pe_call CO.G hr rfl CO.m CO.kp CO.b .nil pass0 (pa_cons (pv 1) pa_nil)) (pe_one (pe_call CP.G hr rfl CP.m CP.kp CP.b .nil pass0 (pa_cons (pv 1) (pa_cons (pe_fld (pv 0) rfl) pa_nil))))))))))), ?_⟩
  obtain ⟨b, bs', rfl⟩ : ∃ b bs', bs = b :: bs' := by
    cases h.st with
    | cons _ _ => exact ⟨_, _, rfl⟩
  obtain ⟨o, hb⟩ : ∃ o, BlkA K H CB b S.top o := by
    cases h.st with
    | cons h1 _ => exact ⟨_, h1⟩
  have hlb : H lb = some (.lst (bs'.reverse.map V.ref ++ [.ref b])) := by
    have := h.hb
    rw [List.reverse_cons, List.map_append] at this
    exact this
  refine ⟨_, rfl, r, CR, dx, _, _, rfl, h.ob, N.cl, N.nB, rfl, _, rfl, lb, _, _, _, rfl, rfl, SqL.of hlb, atI_last _ _, ?_⟩
  dsimp only [List.set_cons_succ, List.set_cons_zero]
  refine ⟨_, rfl, (by show 1 ≤ sizeLine; decide), fun t1 nt1 => ?_⟩
  have u1 := same_new nt1 (.tup [.str "end"])
  have e1 : (upd H t1 (.tup [.str "end"])) t1 = some (.tup [.str "end"]) := upd_same
  generalize upd H t1 (.tup [.str "end"]) = H1 at u1 e1 ⊢
  have hd1 : Dp K H1 v (.tuple ds) := dp_mono (tupH_same H1) _ _ (dp_mono (KeepT.of u1).same _ _ hd)
  refine eq_word hd1 hsh (by decide +kernel) e1 ⟨_, rfl, ?_⟩
  unfold allowsF at q
  have hb1 := hb.same u1
  have h1 := h.same u1
  obtain ⟨dxb, vcb, blb, _, _, eb1, _⟩ := hb1
  cases c1 : isW (.tuple ds) "end" with
  | true =>
    rw [if_pos c1] at q
    exact iteT ⟨_, rfl, b, dxb, _, rfl, eb1, rfl, b, S.top, o, rfl, hb.same u1, q _ u1⟩
  | false =>
    rw [if_neg (by rw [c1]; decide)] at q
    refine iteF ⟨_, rfl, r, dx, _, rfl, h1.ob, rfl, H0, r, dx, lb, _, _, k, S, rfl, h1, _, rfl, ?_⟩
    cases c2 : hasRoom S with
    | false =>
      rw [if_pos c2] at q
      exact iteT (q _ u1)
    | true =>
      rw [if_neg (by rw [c2]; decide)] at q
      refine iteF ⟨_, rfl, (by show 1 ≤ sizeLine; decide), fun t2 nt2 => ?_⟩
      have u2 := same_new nt2 (.tup [.str "else"])
      have e2 : (upd H1 t2 (.tup [.str "else"])) t2 = some (.tup [.str "else"]) := upd_same
      generalize upd H1 t2 (.tup [.str "else"]) = H2 at u2 e2 ⊢
      have u12 := u1.trans u2
      have hd2 : Dp K H2 v (.tuple ds) := dp_mono u2 _ _ hd1
      refine eq_word hd2 hsh (by decide +kernel) e2 ⟨_, rfl, ?_⟩
      cases c3 : isW (.tuple ds) "else" with
      | true =>
        rw [if_pos c3] at q
        exact iteT ⟨_, rfl, b, dxb, _, rfl, u2 _ _ eb1, rfl, b, S.top, o, rfl, hb.same u12, q _ u12⟩
      | false =>
        rw [if_neg (by rw [c3]; decide)] at q
        refine iteF ⟨_, rfl, v, ds, rfl, hd2, hly, hw, _, rfl, ?_⟩
        cases c4 : isOpen (.tuple ds) with
        | true =>
          rw [c4, Bool.true_or] at q
          exact iteT (q _ u12)
        | false =>
          rw [c4, Bool.false_or] at q
          refine iteF ⟨_, rfl, _, rfl, r, CR, dx, _, _, rfl, u2 _ _ h1.ob, N.cl, N.nK, rfl, v, .tuple ds, k, rfl, hd2, hly, fun H3 u3 => q _ (u12.trans u3)⟩
end
end My

namespace My
open PySem L2 TL
/-! ### the reader takes a line -/
def lenOk (N : Nat) (S : RS) : Prop := ∀ b ∈ S.top :: S.rest, b.b1.length ≤ N ∧ ∀ x, b.b2 = some x → x.length ≤ N
theorem lenOk_last {N : Nat} {b : Blk} {n : Nat} (h : b.b1.length ≤ N ∧ ∀ x, b.b2 = some x → x.length ≤ N) (hn : n = b.b1.length ∨ ∃ x, b.b2 = some x ∧ n = x.length) : n ≤ N := by
  rcases hn with rfl | ⟨x, e, rfl⟩
  · exact h.1
  · exact h.2 x e
def spDT (K : PySem.W.Frag) (CR CB : Addr) : Sp := fun vs H Q _ => ∃ (H0 : Hp) (r dx lb : Addr) (bs os : List Addr) (k : Str) (S : RS) (v : V) (ds : List PyData) (N : Nat), vs = [.ref r, v] ∧ RdA K H0 H CR CB r dx lb bs os k S ∧ lenOk N S ∧ N ≤ 100000 ∧ S.rest.length ≤ 100 ∧ Dt K H v (.tuple ds) ∧ Lay (.tuple ds) ∧ SeqAt.shaped (.tuple ds) = true ∧ (ds ≠ [] → ∃ w r, ds = .str w :: r) ∧ (isW (.tuple ds) "end" = true → S.rest ≠ []) ∧ (isW (.tuple ds) "else" = true → S.top.b2 = none) ∧
  ∀ H' bs' os', RdA K H0 H' CR CB r dx lb bs' os' k (takeF S (.tuple ds)) → KeepT H H' → Q .non H'
theorem made_free {H : Hp} {x dx p : Addr} {o : HO} (h : (upd (upd H dx (.own x)) x o) p = none) : H p = none := by
  by_cases c : p = x
  · rw [c, upd_same] at h; cases h
  · rw [upd_ne c] at h
    by_cases c2 : p = dx
    · rw [c2, upd_same] at h; cases h
    · rw [upd_ne c2] at h; exact h
theorem RdA.more {K : PySem.W.Frag} {H0 H : Hp} {CR CB r dx lb : Addr} {bs os : List Addr} {k : Str} {S : RS} (h : RdA K H0 H CR CB r dx lb bs os k S) : RdA K H0 (upd H r (.ins CR dx (rdf k (S.many + 1) lb))) CR CB r dx lb bs os k ⟨S.many + 1, S.top, S.rest⟩ ∧ KeepT H (upd H r (.ins CR dx (rdf k (S.many + 1) lb))) := by
  have f : Fx [r] H (upd H r (.ins CR dx (rdf k (S.many + 1) lb))) := Fx.upd (by simp)
  have f' : Fx (r :: lb :: os) H (upd H r (.ins CR dx (rdf k (S.many + 1) lb))) := f.mono (fun x m => by
    have : x = r := by simpa using m
    rw [this]; simp)
  have kT := h.kt f'
  refine ⟨⟨upd_same, ?_, h.st.keep f kT (fun b m z => h.bl b m (by
    have : b = r := by simpa using z
    rw [this]; simp)) (fun p m z => h.rl (by
    have : p = r := by simpa using z
    rw [← this]; exact List.mem_cons_of_mem _ m)), h.nd, h.fr, h.fo, h.sm' f'⟩, kT⟩
  rw [upd_ne (fun z : lb = r => h.rl (by rw [← z]; simp))]
  exact h.hb
theorem RdA.setTop {K : PySem.W.Frag} {H0 H : Hp} {CR CB r dx lb b l : Addr} {bs' o os' : List Addr} {k : Str} {S : RS} {bk : Blk} {xs : List V} (h : RdA K H0 H CR CB r dx lb (b :: bs') (o ++ os') k S) (ht : StkA K H CB bs' S.rest os') (hl : l ∈ o) (hb : BlkA K (upd H l (.lst xs)) CB b bk o) : RdA K H0 (upd H l (.lst xs)) CR CB r dx lb (b :: bs') (o ++ os') k ⟨S.many, bk, S.rest⟩ ∧ KeepT H (upd H l (.lst xs)) := by
  have f : Fx [l] H (upd H l (.lst xs)) := Fx.upd (by simp)
  have lm : l ∈ lb :: (o ++ os') := List.mem_cons_of_mem _ (List.mem_append.mpr (.inl hl))
  have f' : Fx (r :: lb :: (o ++ os')) H (upd H l (.lst xs)) := f.mono (fun x m => by
    have : x = l := by simpa using m
    rw [this]; exact List.mem_cons_of_mem _ lm)
  have kT := h.kt f'
  have hn := List.nodup_cons.mp h.nd
  refine ⟨⟨f _ _ (fun z => h.rl (by
    have : r = l := by simpa using z
    rw [this]; exact lm)) h.ob, ?_, .cons hb (ht.keep f kT (fun x m z => h.bl x (List.mem_cons_of_mem _ m) (by
    have : x = l := by simpa using z
    rw [this]; exact List.mem_cons_of_mem _ lm)) (fun p m z => by
    have : p = l := by simpa using z
    rw [this] at m
    exact (List.nodup_append.mp hn.2).2.2 l hl l m rfl)), h.nd, h.fr, h.fo, h.sm' f'⟩, kT⟩
  rw [upd_ne (fun z : lb = l => hn.1 (by rw [z]; exact List.mem_append.mpr (.inl hl)))]
  exact h.hb
section
variable {P : Program} {w : World} {K : PySem.W.Frag} {mg : Str → Option Value} {base : Heap}
theorem scDT : FnScope ["self", "parts", "block"] ["self", "parts"] (defScope sDT) := ⟨rfl, rfl, rfl, by decide +kernel, rfl, by decide +kernel, by decide +kernel⟩
theorem ok_DT {f CR CB fB : Addr} {fd dB : FuncData} (F : Fun K "take" "Reader.take" sDT f fd) (N : DNo K CR) (NB : BNo K CB) (MA : MCl P w K mg base 2 CB "as_statement" ["self"] (spAS K CB)) (CO : Cal P w K mg base 5 "is_opening" ["parts"] (spOpn K))
    (gB : mg "Block" = some (.ref CB)) (BM : Mk K CB fB) (BG : FnOk P w K mg base CX0 1 fB dB ["self", "word", "condition"] (spBI K CB)) (bB : Binds K dB ["self", "word", "condition"] []) : FnOk P w K mg base CX0 6 f fd ["self", "parts"] (spDT K CR CB) := by
  refine F.ok scDT (fun vs H Q E h => ?_) (fun cdv A outer s H vs Q E hr h => ?_)
  · obtain ⟨H0, r, dx, lb, bs, os, k, S, v, ds, n, rfl, _⟩ := h
    rfl
  obtain ⟨H0, r, dx, lb, bs, os, k, S, v, ds, n, rfl, h, hlen, hN, hrl, hd, hly, hsh, hw, hend, hels, q⟩ := h
  have hr2 : Room 2 _ := hr.mono (by decide)
  refine ⟨_, (pss_cons (ps_set (i := 2) scDT.nd rfl (.inl rfl) (pe_ix ix_list (pe_fld (pv 0) rfl) (pe_un un_neg pe_int) (fun _ _ => rfl)))
  (pss_one (ps_if (pt_cmpR (op_eqD hr.units) (pv 1) (pe_tup (pa_cons pe_str pa_nil)) (nomark _))
    (pss_cons (ps_expr (pe_bm0 PySem.F.plainAttrs_list PySem.F.slot_list_pop PySem.F.type_list_pop mt_pop (pe_fld (pv 0) rfl)))
    (pss_one (ps_expr (pe_bm PySem.F.plainAttrs_list PySem.F.slot_list_append PySem.F.type_list_append mt_append (pe_ix ix_list (pe_fld (pe_ix ix_list (pe_fld (pv 0) rfl) (pe_un un_neg pe_int) (fun _ _ => rfl)) rfl) (pe_un un_neg pe_int) (fun _ _ => rfl)) (pa_cons (pe_meth0 (pv 2) NB.cl MA.m MA.G hr2 MA.b .nil pass0) pa_nil)))))
    (pss_one (ps_if (pt_cmpR (op_eqD hr.units) (pv 1) (pe_tup (pa_cons pe_str pa_nil)) (nomark _))
      (pss_one (ps_expr (pe_bm PySem.F.plainAttrs_list PySem.F.slot_list_append PySem.F.type_list_append mt_append (pe_fld (pv 2) rfl) (pa_cons (pe_lst pa_nil) pa_nil))))
      (pss_cons (ps_fldaug (pv 0) pe_int in_add)
      (pss_one (ps_if (pt_val (pe_call CO.G hr rfl CO.m CO.kp CO.b .nil pass0 (pa_cons (pv 1) pa_nil)))
        (pss_one (ps_expr (pe_bm PySem.F.plainAttrs_list PySem.F.slot_list_append PySem.F.type_list_append mt_append (pe_fld (pv 0) rfl) (pa_cons (pe_make BM BG hr2 rfl gB bB .nil pass0 (pa_cons (pe_ix ix_tup (pv 1) pe_int (fun _ _ => rfl)) (pa_cons (pe_ix ix_tup (pv 1) pe_int (fun _ _ => rfl)) pa_nil))) pa_nil))))
        (pss_one (ps_expr (pe_bm PySem.F.plainAttrs_list PySem.F.slot_list_append PySem.F.type_list_append mt_append (pe_ix ix_list (pe_fld (pv 2) rfl) (pe_un un_neg pe_int) (fun _ _ => rfl)) (pa_cons (pv 1) pa_nil)))))))))))), ?_⟩
  obtain ⟨b, bs', o, os', rfl, rfl, hb, ht⟩ : ∃ b bs' o os', bs = b :: bs' ∧ os = o ++ os' ∧ BlkA K H CB b S.top o ∧ StkA K H CB bs' S.rest os' := by
    cases h.st with
    | cons h1 h2 => exact ⟨_, _, _, _, rfl, rfl, h1, h2⟩
  have hlb : H lb = some (.lst (bs'.reverse.map V.ref ++ [.ref b])) := by
    have := h.hb
    rw [List.reverse_cons, List.map_append] at this
    exact this
  have hnd := h.nd
  have hbl := h.bl
  have hrl' := h.rl
  refine ⟨_, rfl, r, CR, dx, _, _, rfl, h.ob, N.cl, N.nB, rfl, _, rfl, lb, _, _, _, rfl, rfl, SqL.of hlb, atI_last _ _, ?_⟩
  dsimp only [List.set_cons_succ, List.set_cons_zero]
  refine ⟨_, rfl, (by show 1 ≤ sizeLine; decide), fun t1 nt1 => ?_⟩
  have u1 := same_new nt1 (.tup [.str "end"])
  have e1 : (upd H t1 (.tup [.str "end"])) t1 = some (.tup [.str "end"]) := upd_same
  generalize upd H t1 (.tup [.str "end"]) = H1 at u1 e1 ⊢
  have hd1 : Dp K H1 v (.tuple ds) := dp_mono (tupH_same H1) _ _ (dp_mono (KeepT.of u1).same _ _ hd)
  have h1 := h.same u1
  refine eq_word hd1 hsh (by decide +kernel) e1 ⟨_, rfl, ?_⟩
  unfold takeF at q
  cases c1 : isW (.tuple ds) "end" with
  | true =>
    rw [if_pos c1] at q
    refine iteT ?_
    obtain ⟨nb, rs, hrs⟩ : ∃ nb rs, S.rest = nb :: rs := by
      cases e : S.rest with
      | nil => exact absurd e (hend c1)
      | cons a t => exact ⟨a, t, rfl⟩
    rw [hrs] at ht q
    dsimp only at q
    obtain ⟨b2, bs2, o2, os2, rfl, rfl, hb2, ht2⟩ : ∃ b2 bs2 o2 os2, bs' = b2 :: bs2 ∧ os' = o2 ++ os2 ∧ BlkA K H CB b2 nb o2 ∧ StkA K H CB bs2 rs os2 := by
      cases ht with
      | cons a t => exact ⟨_, _, _, _, rfl, rfl, a, t⟩
    have hnd' := List.nodup_cons.mp hnd
    have hlbo : ∀ p ∈ o ++ (o2 ++ os2), p ≠ lb := fun p m z => hnd'.1 (z ▸ m)
    have hnd2 := (List.nodup_append.mp hnd'.2)
    have hnd3 := List.nodup_append.mp hnd2.2.1
    refine ⟨_, rfl, r, CR, dx, _, _, rfl, h1.ob, N.cl, N.nB, rfl, .inl ⟨rfl, _, SqL.of (u1 _ _ hlb)⟩, lb, _, .ref b, rfl, rfl, u1 _ _ hlb, (by simp), ?_⟩
    rw [List.dropLast_concat]
    have f2 : Fx [lb] H1 (upd H1 lb (.lst ((b2 :: bs2).reverse.map V.ref))) := Fx.upd (by simp)
    have k2 : KeepT H1 (upd H1 lb (.lst ((b2 :: bs2).reverse.map V.ref))) := KeepT.upd ⟨_, u1 _ _ hlb⟩
    have e2 : (upd H1 lb (.lst ((b2 :: bs2).reverse.map V.ref))) lb = some (.lst ((b2 :: bs2).reverse.map V.ref)) := upd_same
    generalize upd H1 lb (.lst ((b2 :: bs2).reverse.map V.ref)) = H2 at f2 k2 e2 ⊢
    have nlb : ∀ x, x ∈ b :: b2 :: bs2 → x ≠ lb := fun x mx z => hbl x mx (by rw [z]; simp)
    have hbA := (hb.same u1).keep f2 k2 (by simp; exact nlb b (by simp)) (fun p m => by simp; exact hlbo p (List.mem_append.mpr (.inl m)))
    have hb2A := (hb2.same u1).keep f2 k2 (by simp; exact nlb b2 (by simp)) (fun p m => by simp; exact hlbo p (List.mem_append.mpr (.inr (List.mem_append.mpr (.inl m)))))
    have er2 : H2 r = some (.ins CR dx (rdf k S.many lb)) := f2 _ _ (by simp; exact fun z => hrl' (by rw [z]; simp)) h1.ob
    have hlb2 : H2 lb = some (.lst (bs2.reverse.map V.ref ++ [.ref b2])) := by
      rw [List.reverse_cons, List.map_append] at e2
      exact e2
    obtain ⟨dxn, bln, vcn, ys, l, xs, en, ebl, el, hlo, hxl, hadd⟩ := hb2A.last hnd3.1
    obtain ⟨dxb, vcb, blb, l1b, xs1b, ebb, _⟩ := hbA
    refine ⟨_, rfl, r, CR, dx, _, _, rfl, er2, N.cl, N.nB, rfl, _, rfl, lb, _, _, _, rfl, rfl, SqL.of hlb2, atI_last _ _, b2, CB, dxn, _, _, rfl, en, NB.cl, NB.nB, rfl, _, rfl, bln, _, _, _, rfl, rfl, SqL.of ebl, atI_last _ _, .inl ⟨rfl, _, SqL.of el⟩, _, rfl, b, dxb, _, rfl, ebb, rfl, b, S.top, o, rfl, (hb.same u1).keep f2 k2 (by simp; exact nlb b (by simp)) (fun p m => by simp; exact hlbo p (List.mem_append.mpr (.inl m))), fun H3 p s3 np dp => ⟨l, xs, _, rfl, rfl, s3 _ _ el, ?_, ?_⟩⟩
    · have := lenOk_last (hlen nb (by rw [hrs]; simp)) hxl
      exact Nat.lt_of_le_of_lt (by omega : _ ≤ 100000) (by decide)
    have nll : l ≠ lb := hlbo l (List.mem_append.mpr (.inr (List.mem_append.mpr (.inl hlo))))
    have f4 : Fx [lb, l] H (upd H3 l (.lst (xs ++ [.ref p]))) := ((Fx.of u1).trans ((f2.mono (by simp)).trans (Fx.of s3))).trans (Fx.upd (by simp))
    have f4' : Fx (r :: lb :: (o ++ (o2 ++ os2))) H (upd H3 l (.lst (xs ++ [.ref p]))) := f4.mono (fun x mx => by
      have mx' : x = lb ∨ x = l := by simpa using mx
      rcases mx' with rfl | rfl
      · simp
      · simp; exact .inr (.inr (.inr (.inl hlo))))
    have kT := h.kt f4'
    refine q _ (b2 :: bs2) (o2 ++ os2) ⟨f4 _ _ (fun z => hrl' (by
      have z' : r = lb ∨ r = l := by simpa using z
      rcases z' with z' | z'
      · rw [z']; simp
      · rw [z']; simp; exact .inr (.inr (.inl hlo)))) h.ob, by rw [upd_ne nll.symm]; exact s3 _ _ e2, .cons (hadd H3 s3 _ _ dp) (ht2.keep f4 kT (fun x mx z => hbl x (by simp [mx]) (by
        have z' : x = lb ∨ x = l := by simpa using z
        rcases z' with rfl | rfl
        · simp
        · simp; exact .inr (.inr (.inr (.inl hlo))))) (fun x mx z => by
        have z' : x = lb ∨ x = l := by simpa using z
        rcases z' with rfl | rfl
        · exact hlbo x (by simp [mx]) rfl
        · exact hnd3.2.2 x hlo x mx rfl)), ?_, h.fr, fun x mx => h.fo x (by
          rcases List.mem_cons.mp mx with rfl | mx
          · simp
          · exact List.mem_cons_of_mem _ (List.mem_append.mpr (.inr mx))), h.sm' f4'⟩ kT
    exact List.nodup_cons.mpr ⟨fun z => hnd'.1 (List.mem_append.mpr (.inr z)), hnd2.2.1⟩
  | false =>
    rw [if_neg (by rw [c1]; decide)] at q
    refine iteF ⟨_, rfl, (by show 1 ≤ sizeLine; decide), fun t2 nt2 => ?_⟩
    have u2 := same_new nt2 (.tup [.str "else"])
    have e2 : (upd H1 t2 (.tup [.str "else"])) t2 = some (.tup [.str "else"]) := upd_same
    generalize upd H1 t2 (.tup [.str "else"]) = H2 at u2 e2 ⊢
    have u12 := u1.trans u2
    have hd2 : Dp K H2 v (.tuple ds) := dp_mono u2 _ _ hd1
    have h2 := h.same u12
    refine eq_word hd2 hsh (by decide +kernel) e2 ⟨_, rfl, ?_⟩
    cases c3 : isW (.tuple ds) "else" with
    | true =>
      rw [if_pos c3] at q
      refine iteT ?_
      obtain ⟨dxb, vc, bl, l1, xs1, eb, ec, e3, e4, e5⟩ := hb.same u12
      have hb2n := hels c3
      obtain ⟨ebl, rfl⟩ : H2 bl = some (.lst [.ref l1]) ∧ o = [bl, l1] := by
        rcases e5 with ⟨_, a, b'⟩ | ⟨s2, l2, xs2, a, _⟩
        · exact ⟨a, b'⟩
        · rw [hb2n] at a; cases a
      refine ⟨_, rfl, b, CB, dxb, _, _, rfl, eb, NB.cl, NB.nB, rfl, .inl ⟨rfl, _, SqL.of ebl⟩, (by show 0 ≤ sizeLine; decide), fun l2 nl2 => ?_⟩
      have u3 := same_new nl2 (.lst [])
      have el2 : (upd H2 l2 (.lst [])) l2 = some (.lst []) := upd_same
      generalize upd H2 l2 (.lst []) = H3 at u3 el2 ⊢
      refine ⟨bl, _, _, rfl, rfl, u3 _ _ ebl, (by show 1 < sizeLine; decide), ?_⟩
      have u13 := u12.trans u3
      have f4 : Fx [bl] H (upd H3 bl (.lst ([.ref l1] ++ [.ref l2]))) := (Fx.of u13).trans (Fx.upd (by simp))
      have f4' : Fx (r :: lb :: ([bl, l1] ++ os')) H (upd H3 bl (.lst ([.ref l1] ++ [.ref l2]))) := f4.mono (fun x mx => by
        have mx' : x = bl := by simpa using mx
        rw [mx']; simp)
      have kT := h.kt f4'
      have k4 : KeepT H2 (upd H3 bl (.lst ([.ref l1] ++ [.ref l2]))) := (KeepT.of u3).trans (KeepT.upd ⟨_, u3 _ _ ebl⟩)
      have hn' := List.nodup_cons.mp hnd
      have hn2 : ∀ p ∈ lb :: ([bl, l1] ++ os'), p ≠ l2 := fun p mp z => by
        have : ∃ xs, H p = some (.lst xs) := by
          rcases List.mem_cons.mp mp with rfl | mp
          · exact ⟨_, h.hb⟩
          · exact h.st.lists p mp
        obtain ⟨xs, ex⟩ := this
        rw [← z, u12 _ _ ex] at nl2
        cases nl2
      have nb1 : b ≠ bl := fun z => hbl b (by simp) (by rw [z]; simp)
      have n1l : l1 ≠ bl := fun z => by
        have := hn'.2
        rw [z] at this
        simp at this
      have n2l : l2 ≠ bl := fun z => hn2 bl (by simp) z.symm
      have hnBlk : BlkA K (upd H3 bl (.lst ([.ref l1] ++ [.ref l2]))) CB b ⟨S.top.w, S.top.c, S.top.b1, some []⟩ [bl, l1, l2] :=
        ⟨dxb, vc, bl, l1, xs1, by rw [upd_ne nb1]; exact u3 _ _ eb, dp_mono k4.same _ _ ec, by rw [upd_ne n1l]; exact u3 _ _ e3, dpAll_mono k4.same _ _ e4, .inr ⟨[], l2, [], rfl, upd_same, by rw [upd_ne n2l]; exact el2, .nil, rfl⟩⟩
      refine q _ (b :: bs') ([bl, l1, l2] ++ os') ⟨f4 _ _ (fun z => hrl' (by
        have z' : r = bl := by simpa using z
        rw [z']; simp)) h.ob, by
          rw [upd_ne (fun z : lb = bl => hn'.1 (by rw [z]; simp))]
          exact u13 _ _ h.hb, .cons hnBlk (ht.keep f4 kT (fun x mx z => hbl x (by simp [mx]) (by
            have z' : x = bl := by simpa using z
            rw [z']; simp)) (fun x mx z => by
            have z' : x = bl := by simpa using z
            rw [z'] at mx
            have := (List.nodup_append.mp hn'.2).2.2 bl (by simp) bl mx
            exact this rfl)), ?_, h.fr, fun x mx => ?_, h.sm' f4'⟩ kT
      · have hsub : ∀ p, p ∈ lb :: ([bl, l1] ++ os') ↔ (p = lb ∨ p = bl ∨ p = l1 ∨ p ∈ os') := fun p => by simp
        have hnn : (lb :: ([bl, l1] ++ os')).Nodup := hnd
        have hl2 : l2 ∉ lb :: ([bl, l1] ++ os') := fun m => hn2 l2 m rfl
        simp at hnn hl2 ⊢
        obtain ⟨⟨a1, a2, a3⟩, ⟨a4, a5⟩, a6, a7⟩ := hnn
        obtain ⟨c1, c2, c3, c4⟩ := hl2
        exact ⟨⟨a1, a2, fun z => c1 z.symm, a3⟩, ⟨a4, fun z => c2 z.symm, a5⟩, ⟨fun z => c3 z.symm, a6⟩, c4, a7⟩
      · by_cases cx : x = l2
        · rw [cx]; exact (h.sm.trans u12).free nl2
        · refine h.fo x ?_
          simp at mx ⊢
          rcases mx with a | a | a | a | a
          · exact .inl a
          · exact .inr (.inl a)
          · exact .inr (.inr (.inl a))
          · exact absurd a cx
          · exact .inr (.inr (.inr a))
    | false =>
      rw [if_neg (by rw [c3]; decide)] at q
      refine iteF ?_
      obtain ⟨h3, k3⟩ := h2.more
      refine ⟨_, rfl, r, CR, dx, _, _, rfl, h2.ob, N.cl, N.nM, rfl, _, _, rfl, rfl, dx, _, h2.ob, (by show 3 < 1000; decide), ?_⟩
      rw [show putF "many" (V.int ((S.many : Nat) + 1)) (rdf k S.many lb) = rdf k (S.many + 1) lb from rfl]
      have f3 : Fx [r] H2 (upd H2 r (.ins CR dx (rdf k (S.many + 1) lb))) := Fx.upd (by simp)
      generalize upd H2 r (.ins CR dx (rdf k (S.many + 1) lb)) = H3 at h3 k3 f3 ⊢
      have kk : KeepT H H3 := (KeepT.of u12).trans k3
      have hdt3 : Dt K H3 v (.tuple ds) := dp_mono kk.same _ _ hd
      have hd3 : Dp K H3 v (.tuple ds) := dp_mono (tupH_same H3) _ _ hdt3
      obtain ⟨hb3, ht3⟩ : BlkA K H3 CB b S.top o ∧ StkA K H3 CB bs' S.rest os' := by
        have nr : ∀ p ∈ o ++ os', p ∉ [r] := fun p m z => hrl' (by
          have : p = r := by simpa using z
          rw [← this]; exact List.mem_cons_of_mem _ m)
        have nb : ∀ x ∈ b :: bs', x ∉ [r] := fun x m z => hbl x m (by
          have : x = r := by simpa using z
          rw [this]; simp)
        refine ⟨(hb.same u12).keep f3 k3 (nb b (by simp)) fun p m => nr p (List.mem_append.mpr (.inl m)), ?_⟩
        have ht2 : StkA K H2 CB bs' S.rest os' := ht.keep (X := []) (Fx.of u12) (KeepT.of u12) (by simp) (by simp)
        exact ht2.keep f3 k3 (fun x m => nb x (List.mem_cons_of_mem _ m)) fun p m => nr p (List.mem_append.mpr (.inr m))
      refine ⟨_, rfl, v, ds, rfl, hd3, hly, hw, _, rfl, ?_⟩
      cases c4 : isOpen (.tuple ds) with
      | true =>
        rw [if_pos c4] at q
        refine iteT ?_
        obtain ⟨wd, co, rfl⟩ : ∃ wd co, ds = [.str wd, co] := by
          unfold isOpen at c4
          split at c4
          · rename_i w' c' e
            injection e with e
            exact ⟨w', c', e⟩
          · cases c4
        obtain ⟨ta, txs, rfl, hts, hta⟩ := dp_tup_inv hdt3
        obtain ⟨x1, x2, rfl, hx1, hx2⟩ : ∃ x1 x2, txs = [x1, x2] ∧ Dt K H3 x1 (.str wd) ∧ Dt K H3 x2 co := by
          cases hta with
          | cons a1 t =>
            cases t with
            | cons a2 t => cases t; exact ⟨_, _, rfl, a1, a2⟩
        cases hx1
        have hts3 := Same.tup (tupH_same H3) hts
        have hlb3 : H3 lb = some (.lst (bs'.reverse.map V.ref ++ [.ref b])) := by
          have := h3.hb
          rw [List.reverse_cons, List.map_append] at this
          exact this
        refine ⟨_, rfl, r, CR, dx, _, _, rfl, h3.ob, N.cl, N.nB, rfl, .inl ⟨rfl, _, SqL.of hlb3⟩, _, rfl, ta, _, _, _, rfl, rfl, hts3, atI_nat (j := 0) rfl, _, rfl, ta, _, _, _, rfl, rfl, hts3, atI_nat (j := 1) rfl, fun x dxx nx ndx ndd => ?_⟩
        have s4 : Same H3 (upd (upd H3 dxx (.own x)) x (.ins CB dxx [])) := made_same0 nx ndx
        refine ⟨x, dxx, wd, x2, co, rfl, upd_same, dp_mono (KeepT.of s4).same _ _ hx2, fun H5 bl l1 f5 nbl nl1 n12 hblk => ⟨rfl, lb, bs'.reverse.map V.ref ++ [.ref b], _, rfl, rfl, made_same nx ndx f5 _ _ hlb3, ?_, ?_⟩⟩
        · have hl := ht.len
          rw [List.length_append, List.length_map, List.length_reverse, hl]
          exact Nat.lt_of_le_of_lt (show S.rest.length + 1 ≤ 1000 by omega) (by decide)
        have s5 : Same H3 H5 := made_same nx ndx f5
        have elb5 := s5 _ _ hlb3
        have f6 : Fx [lb] H5 (upd H5 lb (.lst (bs'.reverse.map V.ref ++ [.ref b] ++ [.ref x]))) := Fx.upd (by simp)
        have k6 : KeepT H5 (upd H5 lb (.lst (bs'.reverse.map V.ref ++ [.ref b] ++ [.ref x]))) := KeepT.upd ⟨_, elb5⟩
        have fbl : H3 bl = none := made_free nbl
        have fl1 : H3 l1 = none := made_free nl1
        have hv3 : ∀ p ∈ lb :: (o ++ os'), ∃ xs, H3 p = some (.lst xs) := fun p m => by
          rcases List.mem_cons.mp m with rfl | m
          · exact ⟨_, hlb3⟩
          · rcases List.mem_append.mp m with m | m
            · exact hb3.lists p m
            · exact ht3.lists p m
        have nfr : ∀ q', H3 q' = none → ∀ p ∈ lb :: (o ++ os'), p ≠ q' := fun q' hq p m z => by
          obtain ⟨xs, ex⟩ := hv3 p m
          rw [z, hq] at ex
          cases ex
        have hn' := List.nodup_cons.mp hnd
        have nxb : x ∉ [lb] := by
          intro z
          have : x = lb := by simpa using z
          rw [this, hlb3] at nx
          cases nx
        have ol : ∀ p ∈ o ++ os', p ∉ [lb] := fun p m z => hn'.1 (by
          have : p = lb := by simpa using z
          rw [← this]; exact m)
        have bb : ∀ y ∈ b :: bs', y ∉ [lb] := fun y m z => hbl y m (by
          have : y = lb := by simpa using z
          rw [this]; simp)
        have st5 : StkA K H5 CB bs' S.rest os' := ht3.keep (X := []) (Fx.of s5) (KeepT.of s5) (by simp) (by simp)
        have hS6 : StkA K (upd H5 lb (.lst (bs'.reverse.map V.ref ++ [.ref b] ++ [.ref x]))) CB (x :: b :: bs') (⟨wd, co, [], none⟩ :: S.top :: S.rest) ([bl, l1] ++ (o ++ os')) :=
          .cons (hblk.keep f6 k6 nxb (fun p m z => by
            have z' : p = lb := by simpa using z
            have m' : p = bl ∨ p = l1 := by simpa using m
            rcases m' with e | e
            · exact nfr bl fbl lb (by simp) (z' ▸ e)
            · exact nfr l1 fl1 lb (by simp) (z' ▸ e)))
            (.cons ((hb3.same s5).keep f6 k6 (bb b (by simp)) fun p m => ol p (List.mem_append.mpr (.inl m))) (st5.keep f6 k6 (fun y m => bb y (List.mem_cons_of_mem _ m)) fun p m => ol p (List.mem_append.mpr (.inr m))))
        refine q _ (x :: b :: bs') ([bl, l1] ++ (o ++ os')) ⟨?_, ?_, hS6, ?_, h.fr, fun p m => ?_, same_upd (h3.sm.trans s5) (h.fo lb (by simp)) _⟩ (kk.trans ((KeepT.of s5).trans k6))
        · rw [upd_ne (fun z : r = lb => hrl' (by rw [z]; simp))]
          exact s5 _ _ h3.ob
        · rw [upd_same, List.reverse_cons, List.reverse_cons, List.map_append, List.map_append]
          rfl
        · rw [List.nodup_cons]
          refine ⟨fun z => ?_, ?_⟩
          · have z' : lb = bl ∨ lb = l1 ∨ lb ∈ o ++ os' := by simpa using z
            rcases z' with e | e | e
            · exact nfr bl fbl lb (by simp) e
            · exact nfr l1 fl1 lb (by simp) e
            · exact hn'.1 e
          · show (bl :: l1 :: (o ++ os')).Nodup
            rw [List.nodup_cons, List.nodup_cons]
            refine ⟨fun z => ?_, fun z => nfr l1 fl1 l1 (List.mem_cons_of_mem _ z) rfl, hn'.2⟩
            rcases List.mem_cons.mp z with e | e
            · exact n12 e
            · exact nfr bl fbl bl (List.mem_cons_of_mem _ e) rfl
        · have m' : p = lb ∨ p = bl ∨ p = l1 ∨ p ∈ o ++ os' := by simpa using m
          rcases m' with e | e | e | e
          · rw [e]; exact h.fo lb (by simp)
          · rw [e]; exact h3.sm.free fbl
          · rw [e]; exact h3.sm.free fl1
          · exact h.fo p (List.mem_cons_of_mem _ e)
      | false =>
        rw [if_neg (by rw [c4]; decide)] at q
        refine iteF ?_
        obtain ⟨dxn, bln, vcn, ys, l, xs, en, ebl, el, hlo, hxl, hadd⟩ := hb3.last (List.nodup_append.mp (List.nodup_cons.mp hnd).2).1
        refine ⟨_, rfl, b, CB, dxn, _, _, rfl, en, NB.cl, NB.nB, rfl, _, rfl, bln, _, _, _, rfl, rfl, SqL.of ebl, atI_last _ _, .inl ⟨rfl, _, SqL.of el⟩, _, rfl, l, xs, _, rfl, rfl, el, ?_, ?_⟩
        · have := lenOk_last (hlen S.top (by simp)) hxl
          exact Nat.lt_of_le_of_lt (by omega : _ ≤ 100000) (by decide)
        obtain ⟨h4, k4⟩ := h3.setTop ht3 hlo (hadd H3 (Same.refl _) v (.tuple ds) hdt3)
        exact q _ _ _ h4 (kk.trans k4)
end
end My

namespace My
open PySem L2 TL
/-! ### a new reader -/
def spDI (K : PySem.W.Frag) (CR CB : Addr) : Sp := fun vs H Q _ => ∃ (H0 : Hp) (r dx : Addr) (k : Str), vs = [.ref r, .str k] ∧ H r = some (.ins CR dx []) ∧ Same H0 H ∧ H0 r = none ∧ ∀ H' lb bs os, RdA K H0 H' CR CB r dx lb bs os k R0 → Q .non H'
section
variable {P : Program} {w : World} {K : PySem.W.Frag} {mg : Str → Option Value} {base : Heap}
theorem scDI : FnScope ["self", "kind"] ["self", "kind"] (defScope sDI) := ⟨rfl, rfl, rfl, by decide +kernel, rfl, by decide +kernel, by decide +kernel⟩
theorem ok_DI {f CR CB fB : Addr} {fd dB : FuncData} (F : Fun K "__init__" "Reader.__init__" sDI f fd) (N : DNo K CR) (gB : mg "Block" = some (.ref CB)) (BM : Mk K CB fB) (BG : FnOk P w K mg base CX0 1 fB dB ["self", "word", "condition"] (spBI K CB)) (bB : Binds K dB ["self", "word", "condition"] []) : FnOk P w K mg base CX0 3 f fd ["self", "kind"] (spDI K CR CB) := by
  refine F.ok scDI (fun vs H Q E h => ?_) (fun cdv A outer s H vs Q E hr h => ?_)
  · obtain ⟨H0, r, dx, k, rfl, _⟩ := h
    rfl
  obtain ⟨H0, r, dx, k, rfl, e0, s0, fr, q⟩ := h
  refine ⟨_, (pss_cons (ps_fld (pv 0) (pv 1) rfl)
  (pss_cons (ps_fld (pv 0) pe_int rfl)
  (pss_one (ps_fld (pv 0) (pe_lst (pa_cons (pe_make BM BG hr rfl gB bB .nil pass0 (pa_cons pe_str (pa_cons (pe_tup pa_nil) pa_nil))) pa_nil)) rfl)))), ?_⟩
  refine ⟨_, rfl, _, rfl, r, CR, dx, _, rfl, e0, N.cl, N.nK, (by show 0 < 1000; decide), ?_⟩
  refine ⟨_, rfl, r, CR, dx, _, rfl, upd_same, N.cl, N.nM, (by show 1 < 1000; decide), ?_⟩
  have s1 : Same H0 (upd (upd H r (.ins CR dx (putF "kind" (.str k) []))) r (.ins CR dx (putF "many" (.int 0) (putF "kind" (.str k) [])))) := same_upd (same_upd s0 fr _) fr _
  have e1 : (upd (upd H r (.ins CR dx (putF "kind" (.str k) []))) r (.ins CR dx (putF "many" (.int 0) (putF "kind" (.str k) [])))) r = some (.ins CR dx [("kind", .str k), ("many", .int 0)]) := upd_same
  generalize upd (upd H r (.ins CR dx (putF "kind" (.str k) []))) r (.ins CR dx (putF "many" (.int 0) (putF "kind" (.str k) []))) = H1 at s1 e1 ⊢
  refine ⟨(by show 0 ≤ sizeLine; decide), fun t nt => ?_⟩
  have u2 := same_new nt (.tup [])
  have d2 : Dt K (upd H1 t (.tup [])) (.ref t) (.tuple []) := new_tup nt .nil
  generalize upd H1 t (.tup []) = H2 at u2 d2 ⊢
  intro x dxx nx ndx ndd
  have s3 : Same H2 (upd (upd H2 dxx (.own x)) x (.ins CB dxx [])) := made_same0 nx ndx
  refine ⟨x, dxx, "", .ref t, .tuple [], rfl, upd_same, dp_mono (KeepT.of s3).same _ _ d2, fun H5 bl l1 f5 nbl nl1 n12 hblk => ⟨rfl, (by show 1 ≤ sizeLine; decide), fun lb nlb => ?_⟩⟩
  have s5 : Same H2 H5 := made_same nx ndx f5
  have u6 := same_new nlb (.lst [.ref x])
  have e6 : (upd H5 lb (.lst [.ref x])) lb = some (.lst [.ref x]) := upd_same
  have hbl6 := hblk.same u6
  generalize upd H5 lb (.lst [.ref x]) = H6 at u6 e6 hbl6 ⊢
  have s16 : Same H1 H6 := u2.trans (s5.trans u6)
  have er6 := s16 _ _ e1
  refine ⟨_, rfl, r, CR, dx, _, rfl, er6, N.cl, N.nB, (by show 2 < 1000; decide), ?_⟩
  have f7 : Fx [r] H6 (upd H6 r (.ins CR dx (putF "blocks" (.ref lb) [("kind", .str k), ("many", .int 0)]))) := Fx.upd (by simp)
  have kT : KeepT H6 (upd H6 r (.ins CR dx (putF "blocks" (.ref lb) [("kind", .str k), ("many", .int 0)]))) :=
    ⟨fun p xs e => f7 _ _ (by simp; rintro rfl; rw [er6] at e; cases e) e, fun p o u e => f7 _ _ (by simp; rintro rfl; rw [er6] at e; cases e) e⟩
  have fbl : H2 bl = none := made_free nbl
  have fl1 : H2 l1 = none := made_free nl1
  have hls := hblk.lists
  have nlb1 : ∀ p ∈ [bl, l1], lb ≠ p := fun p m z => by
    obtain ⟨xs, ex⟩ := hls p m
    rw [← z, nlb] at ex
    cases ex
  have er2 : H2 r = some (.ins CR dx [("kind", .str k), ("many", .int 0)]) := u2 _ _ e1
  have nr : ∀ p, H2 p = none → p ≠ r := fun p hp z => by rw [z, er2] at hp; cases hp
  have nxr : x ≠ r := nr x nx
  refine q _ lb [x] ([bl, l1] ++ []) ⟨upd_same, ?_, .cons (hbl6.keep f7 kT (by simp; exact nxr) (fun p m => by
    have m' : p = bl ∨ p = l1 := by simpa using m
    rcases m' with rfl | rfl
    · simp; exact nr _ fbl
    · simp; exact nr _ fl1)) .nil, ?_, fr, fun p m => ?_, same_upd (s1.trans s16) fr _⟩
  · rw [upd_ne (nr lb (s5.free nlb))]
    exact e6
  · have a1 := nlb1 bl (by simp)
    have a2 := nlb1 l1 (by simp)
    simp
    exact ⟨⟨a1, a2⟩, n12⟩
  · have m' : p = lb ∨ p = bl ∨ p = l1 := by simpa using m
    have s2 := s1.trans u2
    rcases m' with rfl | rfl | rfl
    · exact (s2.trans s5).free nlb
    · exact s2.free fbl
    · exact s2.free fl1
end
/-! ### enumerate(list, start=1) -/
/-- the list at a as it stands at each turn, each item in a new pair, counted from 1 -/
def Ite1 (K : PySem.W.Frag) (a : Addr) : It :=
  ⟨fun i H => ∃ (xs : List V) (x : V), SqL K H a xs ∧ xs[i]? = some x, fun i H v H' => ∃ T x, v = .ref T ∧ H T = none ∧ H' = upd H T (.tup [.int ((i : Nat) + 1 : Int), x]) ∧ ∀ xs, SqL K H a xs → xs[i]? = some x, fun i H => ∃ xs : List V, SqL K H a xs ∧ xs.length = i⟩
theorem turn_enum1 {P : Program} {w : World} {K : PySem.W.Frag} {elts : List Expr} {kk : Nat} {tpos : Pos} (a e it : Addr) (hae : a ≠ it) (hae2 : a ≠ e) :
    Turn P w K (.Tuple elts kk tpos) (Ite1 K a) [e, it] e (fun i h => (∃ old, IsEnum h e it ((i : Nat) + 1 : Int) old) ∧ h.IsListIter it a i ∧ e ≠ it) where
  mem := by simp
  obj := fun i h st b hb => by
    obtain ⟨⟨old, he⟩, ⟨o, ho, hc, hd⟩, _⟩ := st
    have e' : b = e ∨ b = it := by simpa using hb
    rcases e' with z | z
    · rw [z]; exact ⟨_, he, fun v q => nomatch q⟩
    · rw [z]; exact ⟨o, ho, fun v q => by rw [hd] at q; cases q⟩
  keep := fun i h h' st k => let ⟨⟨old, he⟩, hi, hne⟩ := st; ⟨⟨old, k e (by simp) _ he⟩, hi.at fun o q => k it (by simp) o q, hne⟩
  item := by
    intro X hP hw hK hc i pins s σ H E I hf st hg
    subst hP hw hK
    obtain ⟨⟨old, he⟩, hit, hne⟩ := st
    obtain ⟨xs, x, hq, hx⟩ := hg
    obtain ⟨its, rv, p, hz⟩ := I.list hq
    obtain ⟨u, hu, ru⟩ := rv.get hx
    have hel : e < s.heap.objs.size := Heap.lt_size he
    have hil : it < s.heap.objs.size := by obtain ⟨_, q, _⟩ := hit; exact Heap.lt_size q
    have hin : i < its.toArray.size := by
      have h1 := rv.length
      have h2 := (List.getElem?_eq_some_iff.mp hx).1
      simp
      omega
    refine wpAny_pyNext_enum_itemC (Draws.list (prog := X.prog) (w := X.w) (A := X.A.in1) (I.ok.hd hc) it a hae its.toArray) he ⟨hit, p.isList⟩ hin hne (fun m => ?_) fun x' h' tk hPx ho hst' hT hsz hk => ?_
    · have m' : e = it ∨ e = a := by simpa using m
      rcases m' with z | z
      · exact hne z
      · exact hae2 z.symm
    have hxu : x' = u := by
      have h1 : its.toArray[i]? = some u := by simpa using hu
      have h2 : its.toArray[i]? = some x' := hPx
      rw [h1] at h2
      exact (Option.some.inj h2).symm
    subst hxu
    refine ⟨_, rfl, wpAny_letOwnedTupleGo_enum (s := { s with heap := h', toks := tk + 1 }) ho fun h'' he' sb => ?_⟩
    have hT2 : h''.get? s.heap.objs.size = some { cls := .type "tuple", data := .seq #[.int ((i : Nat) + 1 : Int) tk, x'] } := (sb.2 _ (Nat.ne_of_gt hel)).trans hT
    have new : ObjOk X.prog X.w (upd H s.heap.objs.size (.tup [.int ((i : Nat) + 1 : Int), x])) h'' s.heap.objs.size (.tup [.int ((i : Nat) + 1 : Int), x]) :=
      ⟨by show 2 ≤ sizeLine; decide, [.int ((i : Nat) + 1 : Int) tk, x'], .cons ⟨_, rfl⟩ (.cons ru .nil), ⟨_, hT2, rfl, _, rfl⟩⟩
    have I1 : Inv X pins σ (upd H s.heap.objs.size (.tup [.int ((i : Nat) + 1 : Int), x])) { s with heap := h'', toks := tk + 1 } :=
      I.turnedNew (ch := [e, it]) (fun b ob hb q => (sb.2 b (fun z => hb (by simp [z]))).trans (hk b ob (fun z => hb (by simp [z])) (fun z => hb (by simp [z])) q)) hf (Nat.le_refl _) new
    refine ⟨.ref s.heap.objs.size, _, I1, rfl, ⟨_, x, rfl, I.hok.fresh (Nat.le_refl _), rfl, fun ys hy => by rw [I.list_inj hy hq]; exact hx⟩, ⟨⟨x', ?_⟩, hst'.1.at fun o q => (sb.2 it (Ne.symm hne)).trans q, hne⟩, fun b hb => ?_⟩
    · have e1 : (((i + 1 : Nat) : Nat) + 1 : Int) = (i : Int) + 1 + 1 := by omega
      rw [e1]; exact he'
    · have hb' : b < s.heap.objs.size := by
        have e' : b = e ∨ b = it := by simpa using hb
        rcases e' with z | z
        · rw [z]; exact hel
        · rw [z]; exact hil
      rw [upd_ne (Nat.ne_of_lt hb')]
      exact (hf b hb).1
  done := by
    intro X hP hw hK hc i pins s σ H E I hf st hg
    subst hP hw hK
    obtain ⟨⟨old, he⟩, hit, hne⟩ := st
    obtain ⟨xs, hq, hx⟩ := hg
    obtain ⟨its, rv, p, hz⟩ := I.list hq
    obtain ⟨f0, f1, f2, f3, f4, f5⟩ := hf it (by simp)
    have hl := rv.length
    have hn : i = its.toArray.size := by simp; omega
    subst hn
    exact wpAny_pyNext_enum_endD (Draws.list (prog := X.prog) (w := X.w) (A := X.A.in1) (I.ok.hd hc) it a hae its.toArray) he ⟨hit, p.isList⟩ fun h' eb => ⟨rfl, I.turned (t' := s.toks) (fun b o hb q => eb b o hb q) f0 f1 f3 f4 f5⟩
  self := fun A i s Q E st h => let ⟨⟨_, he⟩, _⟩ := st; wpAny_pyIter_enum he h
theorem callWith_type_kw {M : Model} {A : Around} {E : Value → Shared → Prop} {s : Shared} {pos : Pos} {T : String} {args : List (Bool × Sem Value)} {keywords : List (Option Str × Sem Value)} {Q : Value → Shared → Prop}
    (hplain : args.any (·.1) = false) (hkw : keywords.any (·.1.isNone) = false)
    (h : wpAny M A (evalArgs (.type T) true args keywords) (fun a s₁ => wpAny M A (call (.type T) ([] ++ a.pos) a.kw) Q E s₁) E s) :
    wpAny M A (callWith pos (.type T) [] args keywords) Q E s := by
  unfold callWith
  refine wpAny_bind (wpAny_holding (wpAny_mono h (fun a s₁ h₁ => wpAny_bind (wpAny_standAt ?_)) fun _ _ x => x))
  simp only [hplain, hkw, Bool.or_false]
  refine wpAny_bind (wpAny_pure ?_)
  exact wpAny_bind (wpAny_mono h₁ (fun r s₂ hr => wpAny_bind (wpAny_holding (wpAny_point (wpAny_pure hr)))) fun _ _ x => x)
def iEnum1 (K : PySem.W.Frag) (ta : TA) : TI := fun σ H R => ta σ H fun vs H1 => ∃ a xs, vs = [.ref a] ∧ SqL K H1 a xs ∧ R (Ite1 K a) H1
theorem pi_enum1 {X : Cx} {e : Expr} {ta : TA} {p pos tpos kpos : Pos} {k1 : Expr} {elts : List Expr} {kk : Nat} (hg : Gl X "enumerate") (hm : X.mg "enumerate" = none) (ha : PA X [e] ta) (hk : PK X [⟨some "start", k1, kpos⟩] (tCons (tC (.int 1)) tNil))
    (he : backTo pos (starEach [e] X.env) = (false, eval e X.env) :: backTo pos (starEach [] X.env) := by rfl)
    (hplain : (backTo pos (starEach [e] X.env)).any (·.1) = false := by rfl)
    (hall : (backToKw pos (keywordEach [⟨some "start", k1, kpos⟩] X.env)).all (·.1.isSome) = true := by rfl)
    (hkw : (backToKw pos (keywordEach [⟨some "start", k1, kpos⟩] X.env)).any (·.1.isNone) = false := by rfl)
    (hks : (backToKw pos (keywordEach [⟨some "start", k1, kpos⟩] X.env)).filterMap (·.1) = [Str.ofString "start"] := by rfl) :
    PI X (.Tuple elts kk tpos) (.Call (.Name "enumerate" p) [e] [⟨some "start", k1, kpos⟩] pos) (iEnum1 X.K ta) := by
  refine ⟨fun pins s σ H R I h => ?_⟩
  refine wpAny_Call_Name_kw (ld_blt I hg hm (by decide +kernel : bootBuiltins (Str.ofString "enumerate") = some (.type "enumerate")) (callWith_type_kw hplain hkw ?_))
  rw [he]
  refine PyProof.Rows.evalArgs_kwB hall ?_
  rw [← he]
  refine thn (ha.run pos pins s σ H _ I h) fun us s1 ⟨vs, H1, I1, r1, q1⟩ => ?_
  refine thn (hk.run pos pins s1 σ H1 (fun zs H2 => zs = [.int 1] ∧ H2 = H1) I1 ⟨rfl, rfl⟩) fun ws s2 ⟨zs, H2, I2, rz, ez, eH⟩ => ?_
  subst ez eH
  rw [hks]
  obtain ⟨a, xs, ex, hq, q⟩ := q1
  subst ex
  cases r1 with
  | cons r rr =>
    cases rr
    cases r
    cases rz with
    | cons r' rr' =>
      cases rr'
      obtain ⟨t, rfl⟩ := r'
      obtain ⟨its, rv, p', hz⟩ := I2.list hq
      have hal : a < s2.heap.objs.size := by obtain ⟨_, q', _⟩ := p'.isList; exact Heap.lt_size q'
      refine enum_begins_start (begins_list a its.toArray) p'.isList (by decide) (by decide) fun h' he hit hsz hk' => wpAny_pyIter_enum he ?_
      have I3 : Inv X pins σ H2 { s2 with heap := h' } := I2.kept (t' := s2.toks) hk'
      refine ⟨s2.heap.objs.size + 1, [s2.heap.objs.size + 1, s2.heap.objs.size], _, _, H2, rfl, I3, turn_enum1 a (s2.heap.objs.size + 1) s2.heap.objs.size (Nat.ne_of_lt hal) (Nat.ne_of_lt (Nat.lt_succ_of_lt hal)), ⟨⟨.none, he⟩, ⟨_, hit, rfl, rfl⟩, Nat.succ_ne_self _⟩, fun b hb => ?_, q⟩
      have e' : b = s2.heap.objs.size + 1 ∨ b = s2.heap.objs.size := by simpa using hb
      have hle : s2.heap.objs.size ≤ b := by
        rcases e' with z | z
        · rw [z]; exact Nat.le_add_right _ _
        · rw [z]; exact Nat.le_refl _
      exact I2.fpOk hle (I2.hok.fresh hle)
end My

namespace My
open PySem L2 TL
/-! ### what stays true while lines are taken -/
def botOk (S : RS) : Prop := ∀ b, (S.top :: S.rest).getLast? = some b → b.w = Str.ofString ""
theorem addL_w (ss : List PyData) (b : Blk) : (addL ss b).w = b.w := by
  obtain ⟨w, c, b1, b2⟩ := b
  cases b2 <;> rfl
theorem addL_len {N : Nat} {b : Blk} (s : PyData) (h : b.b1.length ≤ N ∧ ∀ x, b.b2 = some x → x.length ≤ N) : (addL [s] b).b1.length ≤ N + 1 ∧ ∀ x, (addL [s] b).b2 = some x → x.length ≤ N + 1 := by
  obtain ⟨w, c, b1, b2⟩ := b
  cases b2 with
  | none =>
    refine ⟨?_, fun x e => by cases e⟩
    show (b1 ++ [s]).length ≤ N + 1
    rw [List.length_append]
    have := h.1
    exact Nat.succ_le_succ this
  | some y =>
    refine ⟨Nat.le_succ_of_le h.1, fun x e => ?_⟩
    cases e
    rw [List.length_append]
    exact Nat.succ_le_succ (h.2 y rfl)
theorem take_ok {k : Str} {S : RS} {d : PyData} {N : Nat} (ha : allowsF k S d = true) (hl : lenOk N S) (hb : botOk S) (hr : S.rest.length ≤ 4) :
    lenOk (N + 1) (takeF S d) ∧ botOk (takeF S d) ∧ (takeF S d).rest.length ≤ 4 ∧ (isW d "end" = true → S.rest ≠ []) ∧ (isW d "else" = true → S.top.b2 = none) := by
  obtain ⟨m, t, r⟩ := S
  have up : ∀ b : Blk, (b.b1.length ≤ N ∧ ∀ x, b.b2 = some x → x.length ≤ N) → (b.b1.length ≤ N + 1 ∧ ∀ x, b.b2 = some x → x.length ≤ N + 1) := fun b h => ⟨Nat.le_succ_of_le h.1, fun x e => Nat.le_succ_of_le (h.2 x e)⟩
  have swap : ∀ (t' : Blk), t'.w = t.w → ∀ (r : List Blk), (∀ b, (t :: r).getLast? = some b → b.w = Str.ofString "") → ∀ b, (t' :: r).getLast? = some b → b.w = Str.ofString "" := fun t' hw r h b e => by
    cases r with
    | nil =>
      have e' : b = t' := (Option.some.inj e).symm
      rw [e', hw]
      exact h t rfl
    | cons a r => exact h b (by rw [List.getLast?_cons_cons] at e ⊢; exact e)
  unfold allowsF at ha
  unfold takeF
  cases c1 : isW d "end" with
  | true =>
    rw [if_pos c1] at ha
    have hne : r ≠ [] := fun e => by
      subst e
      have h1 : t.w = Str.ofString "" := hb t rfl
      have h2 : mayEnd t = true := ha
      unfold mayEnd at h2
      rw [Bool.and_eq_true] at h2
      have h3 := of_decide_eq_true h2.1
      rw [h1] at h3
      rcases h3 with h3 | h3 <;> exact absurd h3 (by decide +kernel)
    cases r with
    | nil => exact absurd rfl hne
    | cons n r =>
      rw [if_pos rfl]
      refine ⟨fun b mb => ?_, fun b e => ?_, Nat.le_of_succ_le hr, fun _ => hne, fun h => ?_⟩
      · rcases List.mem_cons.mp mb with rfl | mb
        · exact addL_len _ (hl n (by simp))
        · exact up b (hl b (by simp [List.mem_cons] at mb ⊢; exact .inr (.inr mb)))
      · cases r with
        | nil =>
          have e' : b = addL [asStmt t] n := (Option.some.inj e).symm
          rw [e', addL_w]
          exact hb n rfl
        | cons a r => exact hb b (by rw [List.getLast?_cons_cons, List.getLast?_cons_cons]; exact (by rw [List.getLast?_cons_cons] at e; exact e))
      · unfold isW at c1 h
        split at c1
        · have h1 := of_decide_eq_true c1
          have h2 := of_decide_eq_true h
          rw [h1] at h2
          exact absurd h2 (by decide +kernel)
        · cases c1
  | false =>
    rw [if_neg (by rw [c1]; decide)] at ha
    rw [if_neg (by decide)]
    have hroom : hasRoom ⟨m, t, r⟩ = true := by
      cases h : hasRoom ⟨m, t, r⟩ with
      | true => rfl
      | false => rw [if_pos h] at ha; cases ha
    rw [if_neg (by rw [hroom]; decide)] at ha
    have hr4 : r.length + 1 ≤ 4 := by
      unfold hasRoom at hroom
      rw [Bool.and_eq_true] at hroom
      exact of_decide_eq_true hroom.2
    cases c2 : isW d "else" with
    | true =>
      rw [if_pos c2] at ha
      rw [if_pos rfl]
      have hbr : t.b2 = none := by
        have h2 : mayBranch t = true := ha
        unfold mayBranch at h2
        rw [Bool.and_eq_true] at h2
        exact Option.isNone_iff_eq_none.mp h2.2
      refine ⟨fun b mb => ?_, swap ⟨t.w, t.c, t.b1, some []⟩ rfl r hb, hr, (fun h => by cases h), fun _ => hbr⟩
      rcases List.mem_cons.mp mb with rfl | mb
      · exact ⟨Nat.le_succ_of_le (hl t (by simp)).1, fun x e => by cases e; exact Nat.zero_le _⟩
      · exact up b (hl b (List.mem_cons_of_mem _ mb))
    | false =>
      rw [if_neg (by decide)]
      cases c3 : isOpen d with
      | true =>
        rw [if_pos rfl]
        refine ⟨fun b mb => ?_, fun b e => ?_, hr4, (fun h => by cases h), (fun h => by cases h)⟩
        · rcases List.mem_cons.mp mb with rfl | mb
          · unfold opens
            split
            · exact ⟨Nat.zero_le _, fun x e => by cases e⟩
            · exact ⟨Nat.zero_le _, fun x e => by cases e⟩
          · exact up b (hl b mb)
        · exact hb b (by
            have e' : (opens d :: t :: r).getLast? = some b := e
            rw [List.getLast?_cons_cons] at e'
            exact e')
      | false =>
        rw [if_neg (by decide)]
        refine ⟨fun b mb => ?_, swap _ (addL_w _ _) r hb, hr, (fun h => by cases h), (fun h => by cases h)⟩
        rcases List.mem_cons.mp mb with rfl | mb
        · exact addL_len _ (hl t (by simp))
        · exact up b (hl b (List.mem_cons_of_mem _ mb))
theorem ok_R0 : lenOk 0 R0 ∧ botOk R0 ∧ R0.rest.length ≤ 4 := by
  refine ⟨fun b mb => ?_, fun b e => ?_, by decide⟩
  · have : b = R0.top := by simpa [R0] using mb
    rw [this]
    exact ⟨Nat.le_refl _, fun x e => by cases e⟩
  · have : b = R0.top := (Option.some.inj e).symm
    rw [this]
    rfl
end My

namespace My
open PySem L2 TL
/-! ### read, of a text that is a program's -/
abbrev sRead : Stmt := top 34
abbrev nsRead : List Str := ["text", "lines", "reader", "at", "line", "parts"]
def spRead (K : PySem.W.Frag) : Sp := fun vs H Q _ => ∃ (z k : Str) (ls : List Str) (ds : List PyData) (c : Nat) (ss : List PyData), vs = [.str z] ∧ z.length + 2 ≤ sizeLine ∧ Txt.split z "\n" = k :: ls ∧ inS (.str k) kinds = true ∧ Lay (.str k) ∧ Paired LineG ls ds ∧ ls.length ≤ 1000 ∧ (∀ y ∈ ls, y.length ≤ 600) ∧ readF k R0 ds = some ⟨c, ⟨"", .tuple [], ss, none⟩, []⟩ ∧
  ∀ H' p, Same H H' → H p = none → Dt K H' (.ref p) (.tuple [.str k, .tuple ss]) → Q (.ref p) H'
theorem paired_len {α β : Type} {R : α → β → Prop} : ∀ {as : List α} {bs : List β}, Paired R as bs → bs.length = as.length
  | _, _, .nil => rfl
  | _, _, .cons _ t => by rw [List.length_cons, List.length_cons, paired_len t]
theorem walk_enum1 {K : PySem.W.Frag} {a : Addr} {xs : List V} : Walk (Ite1 K a) xs.length (fun H => SqL K H a xs) (YPair (fun i => some (.int ((i : Nat) + 1 : Int))) (fun i => xs[i]?)) := by
  refine ⟨fun i _ hi q => ⟨xs, xs[i], q, by simp [hi]⟩, fun _ q => ⟨xs, q, rfl⟩, fun i H v H' _ q y => ?_⟩
  obtain ⟨T, x, h1, h2, h3, h4⟩ := y
  exact ⟨T, _, x, h1, h2, h3, rfl, h4 xs q⟩
theorem RdA.ext {K : PySem.W.Frag} {H0 H : Hp} {CR CB r dx lb b : Addr} {bs os : List Addr} {k : Str} {S : RS} {o : HO} (h : RdA K H0 H CR CB r dx lb bs os k S) (nb : H b = none) : RdA K (upd H0 b o) (upd H b o) CR CB r dx lb bs os k S := by
  have h' := h.same (same_new nb o)
  have nr : r ≠ b := fun z => by have := h.ob; rw [z, nb] at this; cases this
  have no : ∀ p ∈ lb :: os, p ≠ b := fun p m z => by
    have : ∃ xs, H p = some (.lst xs) := by
      rcases List.mem_cons.mp m with rfl | m
      · exact ⟨_, h.hb⟩
      · exact h.st.lists p m
    obtain ⟨xs, e⟩ := this
    rw [z, nb] at e
    cases e
  refine ⟨h'.ob, h'.hb, h'.st, h'.nd, by rw [upd_ne nr]; exact h.fr, fun p m => by rw [upd_ne (no p m)]; exact h.fo p m, fun p x e => ?_⟩
  by_cases c : p = b
  · rw [c, upd_same] at e ⊢; exact e
  · rw [upd_ne c] at e ⊢; exact h.sm p x e
section
variable {P : Program} {w : World} {K : PySem.W.Frag} {mg : Str → Option Value} {base : Heap}
theorem scRead : FnScope nsRead ["text"] (defScope sRead) := ⟨rfl, rfl, rfl, by decide +kernel, rfl, by decide +kernel, by decide +kernel⟩
theorem ok_Read {f CR CB fI : Addr} {fd dI : FuncData} (F : Fun K "read" "read" sRead f fd) (T : Gs K mg) (me : mg "enumerate" = none) (N : DNo K CR)
    (gD : mg "Reader" = some (.ref CR)) (DM : Mk K CR fI) (DG : FnOk P w K mg base CX0 3 fI dI ["self", "kind"] (spDI K CR CB)) (bD : Binds K dI ["self", "kind"] [])
    (CL : Cal P w K mg base 4 "line_parts" ["line"] (spLP K)) (MAl : MCl P w K mg base 6 CR "allows" ["self", "parts"] (spDA K CR CB)) (MTk : MCl P w K mg base 6 CR "take" ["self", "parts"] (spDT K CR CB)) (MC : MCl P w K mg base 1 CR "is_complete" ["self"] (spDC K CR CB)) (MP : MCl P w K mg base 1 CR "as_program" ["self"] (spDP K CR CB)) :
    FnOk P w K mg base CX0 7 f fd ["text"] (spRead K) := by
  refine F.ok scRead (fun vs H Q E h => ?_) (fun cdv A outer s H vs Q E hr h => ?_)
  · obtain ⟨z, k, ls, ds, c, ss, rfl, _⟩ := h
    rfl
  obtain ⟨z, k, ls, ds, c, ss, rfl, hz, hsp, hk, hkl, hp, hll, hly, hrd, q⟩ := h
  have hr1 : Room 1 _ := hr.mono (by decide)
  have hr4 : Room 4 _ := hr.mono (by decide)
  refine ⟨_, (pss_cons (ps_if (pt_not (pt_val (pe_callB call_isi (by rfl) T.isi (by decide +kernel) (pa_cons (pv 0) (pa_cons (pe_bltn (v := .ty "str") (by rfl) T.str (by decide +kernel) rfl) pa_nil)))))
    (pss_one ps_never)
    pss_nil)
  (pss_cons (ps_set (i := 1) scRead.nd rfl (.inl rfl) (pe_m1 PySem.F.slot_str_split PySem.F.type_str_split mt_split (pv 0) pe_str))
  (pss_cons (ps_if (pt_cmpR (op_notInS (hu65 hr)) (pe_ix ix_list (pv 1) pe_int (fun _ _ => rfl)) (pe_gref rfl T.mK) (by rfl))
    (pss_one ps_never)
    pss_nil)
  (pss_cons (ps_set (i := 2) scRead.nd rfl (.inl rfl) (pe_make DM DG hr4 rfl gD bD .nil pass0 (pa_cons (pe_ix ix_list (pv 1) pe_int (fun _ _ => rfl)) pa_nil)))
  (pss_cons (ps_for PassesOwn.never rfl (pi_enum1 (by rfl) me (pa_cons (pe_slice sl_list (pv 1) (po_some pe_int) po_none) pa_nil) (pk_cons pe_int pk_nil)) (pg_tup (by rfl) (pgs_cons (pg_name (i := 3) scRead.nd rfl (.inl rfl)) (pgs_cons (pg_name (i := 4) scRead.nd rfl (.inl rfl)) pgs_nil)))
    (pss_cons (ps_set (i := 5) scRead.nd rfl (.inl rfl) (pe_call CL.G hr4 rfl CL.m CL.kp CL.b .nil pass0 (pa_cons (pv 4) pa_nil)))
    (pss_cons (ps_if (pt_not (pt_val (pe_meth (pv 2) N.cl MAl.m MAl.G hr MAl.b .nil pass0 (pa_cons (pv 5) pa_nil))))
      (pss_one ps_never)
      pss_nil)
    (pss_one (ps_expr (pe_meth (pv 2) N.cl MTk.m MTk.G hr MTk.b .nil pass0 (pa_cons (pv 5) pa_nil)))))))
  (pss_cons (ps_if (pt_not (pt_val (pe_meth0 (pv 2) N.cl MC.m MC.G hr1 MC.b .nil pass0)))
    (pss_one ps_never)
    pss_nil)
  (pss_one (ps_ret (pe_meth0 (pv 2) N.cl MP.m MP.G hr1 MP.b .nil pass0))))))))), ?_⟩
  have hd0 : Dp K H (.str z) (.str z) := .str z
  refine ⟨_, rfl, .str z, .ty "str", _, _, _, rfl, .ty _, dp_ty hd0, kit_isT (.str z) (by simp) (dp_nd hd0), _, rfl, ?_⟩
  refine iteF ?_
  refine ⟨_, rfl, ⟨z, rfl⟩, z, _, rfl, rfl, (by decide +kernel), hz, fun a na => ?_⟩
  rw [hsp]
  have u1 := same_new na (.lst ((k :: ls).map V.str))
  have e1 : (upd H a (.lst ((k :: ls).map V.str))) a = some (.lst ((k :: ls).map V.str)) := upd_same
  generalize upd H a (.lst ((k :: ls).map V.str)) = H1 at u1 e1 ⊢
  dsimp only [List.set_cons_succ, List.set_cons_zero]
  refine ⟨_, rfl, a, _, _, _, rfl, rfl, SqL.of e1, atI_nat (j := 0) rfl, .str k, kinds, T.aK, rfl, .str k, hkl, T.kK _, by decide +kernel, _, rfl, ?_⟩
  rw [if_pos rfl, hk]
  refine iteF ?_
  refine ⟨_, rfl, a, _, _, _, rfl, rfl, SqL.of e1, atI_nat (j := 0) rfl, fun r dx nr ndx ndd => ⟨H1, r, dx, k, rfl, upd_same, made_same0 nr ndx, nr, fun H3 lb bs os hA => ⟨rfl, ?_⟩⟩⟩
  dsimp only [List.set_cons_succ, List.set_cons_zero]
  refine ⟨_, rfl, _, rfl, a, _, rfl, SqL.of (hA.sm _ _ e1), fun b nb => ?_⟩
  rw [show cutV ((k :: ls).map V.str) (some 1) none = ls.map V.str from cut_hi _ 1]
  have hB := hA.ext (o := .lst (ls.map V.str)) nb
  have e4 : (upd H3 b (.lst (ls.map V.str))) b = some (.lst (ls.map V.str)) := upd_same
  have sH0 : Same H (upd H1 b (.lst (ls.map V.str))) := u1.trans (same_new (hA.sm.free nb) _)
  have eb0 : (upd H1 b (.lst (ls.map V.str))) b = some (.lst (ls.map V.str)) := upd_same
  generalize upd H3 b (.lst (ls.map V.str)) = H4 at hB e4 ⊢
  generalize upd H1 b (.lst (ls.map V.str)) = H0 at hB sH0 eb0 ⊢
  obtain ⟨z1, z2, z3⟩ := ok_R0
  refine ⟨b, ls.map V.str, rfl, SqL.of e4, for_it (walk_enum1 (K := K) (a := b) (xs := ls.map V.str)) (fun i σ Hx => ∃ (S : RS) (bs os : List Addr) (s3 s4 s5 : Option V), σ = [some (.str z), some (.ref a), some (.ref r), s3, s4, s5] ∧ RdA K H0 Hx CR CB r dx lb bs os k S ∧ readF k S (ds.drop i) = some ⟨c, ⟨"", .tuple [], ss, none⟩, []⟩ ∧ lenOk i S ∧ botOk S ∧ S.rest.length ≤ 4)
    ⟨R0, bs, os, none, none, none, rfl, hB, hrd, z1, z2, z3⟩ (fun i σ Hx _ ⟨S, bs, os, s3, s4, s5, _, hx, _⟩ => SqL.of (hx.sm _ _ eb0)) ?_ ?_⟩
  · rintro i y σ Hx Hy hi ⟨S, bs, os, s3, s4, s5, rfl, hx, hr', hl', hb', hr4'⟩ ⟨tp, x1, y1, rfl, ntp, rfl, ex1, ey1⟩
    cases ex1
    have ey1 : (ls.map V.str)[i]? = some y1 := ey1
    rw [List.getElem?_map] at ey1
    cases hu : ls[i]? with
    | none => rw [hu] at ey1; cases ey1
    | some ln =>
    rw [hu] at ey1
    cases ey1
    obtain ⟨d, hd, ⟨wd, ws, l1, l2, l3, l4, l5⟩, ds', rfl, hly', hsh, hfs⟩ := paired_at hp hu
    have u5 := same_new ntp (.tup [.int ((i : Nat) + 1 : Int), .str ln])
    have e5 : (upd Hx tp (.tup [.int ((i : Nat) + 1 : Int), .str ln])) tp = some (.tup [.int ((i : Nat) + 1 : Int), .str ln]) := upd_same
    generalize upd Hx tp (.tup [.int ((i : Nat) + 1 : Int), .str ln]) = H5 at u5 e5 ⊢
    refine ⟨tp, _, rfl, SqT.of e5, rfl, _, _, rfl, _, _, rfl, rfl, ?_⟩
    dsimp only [List.set_cons_succ, List.set_cons_zero]
    have hln : ln.length ≤ 600 := hly ln (List.mem_of_getElem? hu)
    refine ⟨_, rfl, ln, wd, ws, rfl, Nat.le_trans (by omega : _ ≤ 1000) (by decide), l1, fun u mu => Nat.le_trans (l3 u mu) (by decide), by omega, fun H6 tq u6 ntq dtq => ?_⟩
    rw [l2] at dtq
    dsimp only [List.set_cons_succ, List.set_cons_zero]
    have hdrop : ds.drop i = .tuple ds' :: ds.drop (i + 1) := by
      obtain ⟨hlt, he⟩ := List.getElem?_eq_some_iff.mp hd
      rw [List.drop_eq_getElem_cons hlt, he]
    rw [hdrop] at hr'
    have hall : allowsF k S (.tuple ds') = true := by
      cases h : allowsF k S (.tuple ds') with
      | true => rfl
      | false =>
        have : readF k S (.tuple ds' :: ds.drop (i + 1)) = none := by
          show (if _ then _ else _) = _
          rw [if_neg (by rw [h]; decide)]
        rw [this] at hr'
        cases hr'
    rw [readF_cons hall] at hr'
    obtain ⟨t1, t2, t3, t4, t5⟩ := take_ok hall hl' hb' hr4'
    have hx6 := hx.same (u5.trans u6)
    refine ⟨_, rfl, r, dx, _, rfl, hx6.ob, rfl, _, rfl, H0, r, dx, lb, bs, os, k, S, .ref tq, ds', rfl, hx6, dtq, hly', hsh, hfs, fun H7 u7 => ⟨_, rfl, ?_⟩⟩
    rw [hall]
    refine iteF ?_
    have hx7 := hx6.same u7
    have hi' : i < ls.length := (List.getElem?_eq_some_iff.mp hu).1
    refine ⟨_, rfl, r, dx, _, rfl, hx7.ob, rfl, _, rfl, H0, r, dx, lb, bs, os, k, S, .ref tq, ds', i, rfl, hx7, hl', by omega, by omega, dp_mono (KeepT.of u7).same _ _ dtq, hly', hsh, hfs, t4, t5, fun H8 bs8 os8 h8 _ => ?_⟩
    exact ⟨_, bs8, os8, _, _, _, rfl, h8, hr', t1, t2, t3⟩
  · rintro σ Hx ⟨S, bs, os, s3, s4, s5, rfl, hx, hr', hl', hb', hr4'⟩
    have hdl : ds.length = ls.length := paired_len hp
    rw [List.length_map, ← hdl, List.drop_length] at hr'
    have hS : S = ⟨c, ⟨"", .tuple [], ss, none⟩, []⟩ := Option.some.inj hr'
    subst hS
    refine ⟨_, rfl, r, dx, _, rfl, hx.ob, rfl, H0, r, dx, lb, bs, os, k, _, rfl, hx, _, rfl, ?_⟩
    refine iteF ?_
    refine ⟨_, rfl, r, dx, _, rfl, hx.ob, rfl, H0, r, dx, lb, bs, os, k, _, rfl, hx, rfl, fun H9 p u9 np dp => ?_⟩
    have sA := sH0.trans hx.sm
    exact q _ p (sA.trans u9) (sA.free np) dp
end
end My

namespace My
open PySem L2 TL
/-! ### the law's own test: tuples, texts and ints only -/
abbrev sPln : Stmt := top 57
abbrev nsPln : List Str := ["_law_thing", "_law_part"]
def plainN : Nat → PyData → Prop
  | 0, d => (∃ z, d = .str z) ∨ ∃ i, d = .int i
  | n + 1, d => (∃ z, d = .str z) ∨ (∃ i, d = .int i) ∨ ∃ ds, d = .tuple ds ∧ ds.length ≤ 1000 ∧ ∀ x ∈ ds, plainN n x
def spPln (K : PySem.W.Frag) (n : Nat) : Sp := fun vs H Q _ => ∃ (v : V) (d : PyData), vs = [v] ∧ Dp K H v d ∧ plainN n d ∧ Lay d ∧ ∀ H', Same H H' → Q (.bl true) H'
section
variable {P : Program} {w : World} {K : PySem.W.Frag} {mg : Str → Option Value} {base : Heap}
theorem scPln : FnScope nsPln ["_law_thing"] (defScope sPln) := ⟨rfl, rfl, rfl, by decide +kernel, rfl, by decide +kernel, by decide +kernel⟩
theorem ok_Pln {f : Addr} {fd : FuncData} {lv n : Nat} (hlv : 1 ≤ lv) (F : Fun K "_law_plain" "_law_plain" sPln f fd) (T : Gs K mg) (CW : Cal P w K mg base 1 "_law_whole" ["_law_thing"] (spL1 isInt K)) (CP : Cal P w K mg base lv "_law_plain" ["_law_thing"] (fun vs H Q E => n ≠ 0 ∧ spPln K (n - 1) vs H Q E)) : FnOk P w K mg base CX0 (lv + 1) f fd ["_law_thing"] (spPln K n) := by
  refine F.ok scPln (fun vs H Q E h => ?_) (fun cdv A outer s H vs Q E hr h => ?_)
  · obtain ⟨v, d, rfl, _⟩ := h
    rfl
  obtain ⟨v, d, rfl, hd, hp, hl, q⟩ := h
  have hr1 : Room 1 _ := hr.mono hlv
  refine ⟨_, (pss_cons (ps_if (pt_val (pe_callB call_isi (by rfl) T.isi (by decide +kernel) (pa_cons (pv 0) (pa_cons (pe_bltn (v := .ty "tuple") (by rfl) T.tup (by decide +kernel) rfl) pa_nil))))
    (pss_one (ps_ret (pe_callB (cr_all rfl) (by rfl) T.all (by decide +kernel) (pa_cons (pe_lc (own := [("_law_part", 1)]) (g := gName 1) (tt := tYes) rfl scPln.nd (pi_tup (pv 0)) (blkOk_by (N := nsPln) (sc := defScope sPln) (by decide +kernel)) (fun _ _ _ _ _ => pg_name (i := 1) scPln.nd rfl (.inl rfl)) (fun _ _ _ _ _ => pts_nil) (fun _ _ _ _ _ => pe_call CP.G hr rfl CP.m CP.kp CP.b .nil pass0 (pa_cons (pv 1) pa_nil))) pa_nil))))
    pss_nil)
  (pss_one (ps_ret (pe_or (pe_callB call_isi (by rfl) T.isi (by decide +kernel) (pa_cons (pv 0) (pa_cons (pe_bltn (v := .ty "str") (by rfl) T.str (by decide +kernel) rfl) pa_nil))) (pe_one (pe_call CW.G hr1 rfl CW.m CW.kp CW.b .nil pass0 (pa_cons (pv 0) pa_nil))))))), ?_⟩
  refine ⟨_, rfl, v, .ty "tuple", _, _, _, rfl, .ty _, dp_ty hd, kit_isT d (by simp) (dp_nd hd), _, rfl, ?_⟩
  have str1 : ∀ z, d = .str z → Q (.bl true) H := fun z e => q _ (Same.refl _)
  have hcase : (∃ z, d = .str z) ∨ (∃ i, d = .int i) ∨ ∃ ds m, d = .tuple ds ∧ n = m + 1 ∧ ds.length ≤ 1000 ∧ ∀ x ∈ ds, plainN m x := by
    cases n with
    | zero =>
      rcases hp with h | h
      · exact .inl h
      · exact .inr (.inl h)
    | succ m =>
      rcases hp with h | h | ⟨ds, h1, h2, h3⟩
      · exact .inl h
      · exact .inr (.inl h)
      · exact .inr (.inr ⟨ds, m, h1, rfl, h2, h3⟩)
  rcases hcase with ⟨z, rfl⟩ | ⟨i, rfl⟩ | ⟨ds, m, rfl, rfl, hlen, hall⟩
  · refine iteF ?_
    exact ⟨_, rfl, v, .ty "str", _, _, _, rfl, .ty _, dp_ty hd, kit_isT (.str z) (by simp) (dp_nd hd), _, rfl, iteT (q _ (Same.refl _))⟩
  · refine iteF ?_
    refine ⟨_, rfl, v, .ty "str", _, _, _, rfl, .ty _, dp_ty hd, kit_isT (.int i) (by simp) (dp_nd hd), _, rfl, iteF ?_⟩
    exact ⟨_, rfl, v, .int i, rfl, hd, hl, fun H' s => q _ s⟩
  · refine iteT ?_
    obtain ⟨a, xs, rfl, hs, ha⟩ := dp_tup_inv hd
    have hxl := dpAll_len ha
    refine ⟨_, rfl, a, rfl, ⟨_, hs⟩, fun G nG => lc_tup (K := K) (a := a) (xs := xs) (fun i H' => Same H H' ∧ H' G = some (.lst ((List.replicate i true).map V.bl))) ⟨same_new nG _, upd_same⟩ (fun i H' _ ⟨s1, _⟩ => Same.tup s1 hs) ?_ ?_⟩
    · rintro i y H1 hy ⟨s1, eG⟩
      obtain ⟨sd, hsd, hdp⟩ := dpAll_get ha hy
      have hi : i < xs.length := (List.getElem?_eq_some_iff.mp hy).1
      have hmem := List.mem_of_getElem? hsd
      refine ⟨rfl, ?_⟩
      dsimp only [tYes]
      rw [if_pos rfl]
      refine ⟨_, rfl, Nat.succ_ne_zero _, y, sd, rfl, dp_mono s1 _ _ hdp, hall sd hmem, lay_mem (lay_tup hl) _ hmem, fun H2 s2 => ⟨(List.replicate i true).map V.bl, s2 _ _ eG, ?_, same_upd (s1.trans s2) nG _, ?_⟩⟩
      · rw [List.length_map, List.length_replicate]
        exact Nat.lt_of_le_of_lt (by omega : _ ≤ 1000) (by decide)
      · rw [upd_same, List.replicate_succ', List.map_append]
        rfl
    · rintro H1 ⟨s1, eG⟩
      refine ⟨G, List.replicate xs.length true, rfl, SqL.of eG, ?_⟩
      have e : (List.replicate xs.length true).all id = true := by
        rw [List.all_eq_true]
        intro x mx
        rw [List.eq_of_mem_replicate mx]
        rfl
      rw [e]
      exact q _ s1
theorem none_Pln {f : Addr} {fd : FuncData} (lv : Nat) : FnOk P w K mg base CX0 lv f fd ["_law_thing"] (fun vs H Q E => 0 ≠ 0 ∧ spPln K (0 - 1) vs H Q E) :=
  ⟨fun vs H Q E h => absurd rfl h.1, fun A outer s H args us vs Q E _ _ _ _ h => absurd rfl h.1⟩
theorem recPln {f : Addr} {fd : FuncData} (F : Fun K "_law_plain" "_law_plain" sPln f fd) (bF : Binds K fd ["_law_thing"] []) (mF : mg "_law_plain" = some (.ref f)) (T : Gs K mg) (CW : Cal P w K mg base 1 "_law_whole" ["_law_thing"] (spL1 isInt K)) :
    ∀ n : Nat, FnOk P w K mg base CX0 (2 + n) f fd ["_law_thing"] (spPln K n)
  | 0 => ok_Pln (lv := 1) (Nat.le_refl 1) F T CW ⟨f, fd, none_Pln 1, bF, F.kp, mF⟩
  | n + 1 => by
    have ih := recPln F bF mF T CW n
    have c2 : FnOk P w K mg base CX0 (2 + n) f fd ["_law_thing"] (fun vs H Q E => n + 1 ≠ 0 ∧ spPln K (n + 1 - 1) vs H Q E) :=
      ⟨fun vs H Q E h => ih.len vs H Q E h.2, fun A outer s H args us vs Q E h1 h2 h3 h4 h => ih.run A outer s H args us vs Q E h1 h2 h3 h4 h.2⟩
    exact ok_Pln (lv := 2 + n) (n := n + 1) (by omega) F T CW ⟨f, fd, c2, bF, F.kp, mF⟩
end
end My

namespace My
open PySem L2 TL
/-! ### the text of a program, split and read -/
theorem paired_left {α β : Type} {R : α → β → Prop} {p : α → Prop} (h : ∀ a b, R a b → p a) : ∀ {as : List α} {bs : List β}, Paired R as bs → ∀ a ∈ as, p a
  | _, _, .nil => fun a m => nomatch m
  | _, _, .cons r t => fun a m => by
    rcases List.mem_cons.mp m with rfl | m
    · exact h _ _ r
    · exact paired_left h t a m
theorem kind_no10 {k : Str} (h : inS (.str k) kinds = true) : 10 ∉ tl k := by
  have h' : kinds.any (· == k) = true := h
  obtain ⟨y, m, e⟩ := List.any_eq_true.mp h'
  have e' : y = k := eq_of_beq e
  subst e'
  have : ∀ y ∈ kinds, 10 ∉ tl y := by decide +kernel
  exact this y m
theorem text_split {k : Str} {ss : List PyData} {c : Nat} (hk : inS (.str k) kinds = true) (hl : Lay (.tuple ss)) (h : bodyN k 4 (.tuple ss) = some c) (hc : c ≤ 24) :
    Txt.split (textT k (.tuple ss)) "\n" = k :: bodyT 4 (.tuple ss) ∧ ∃ ds, Paired LineG (bodyT 4 (.tuple ss)) ds ∧ readF k R0 ds = some ⟨c, ⟨"", .tuple [], ss, none⟩, []⟩ := by
  obtain ⟨ds, hp, hr⟩ := text_reads hl h hc
  refine ⟨?_, ds, hp, hr⟩
  unfold textT
  refine split_join (s := 10) (S := []) (by rfl) (by decide +kernel) (by simp) fun y my => ?_
  rcases List.mem_cons.mp my with rfl | my
  · exact kind_no10 hk
  · exact paired_left (p := fun y => 10 ∉ tl y) (fun a b r => by
      obtain ⟨⟨_, _, _, _, _, _, h10⟩, _⟩ := r
      exact h10) hp y my
theorem lineOf_fun {y : Str} {d e : PyData} (h1 : LineOf y d) (h2 : LineOf y e) : d = e := by
  obtain ⟨w, ws, a1, a2, _⟩ := h1
  obtain ⟨w', ws', b1, b2, _⟩ := h2
  rw [a1] at b1
  cases b1
  exact a2.symm.trans b2
theorem paired_fun : ∀ {ys : List Str} {ds es : List PyData}, Paired LineG ys ds → Paired LineG ys es → ds = es
  | _, _, _, .nil, h => by cases h; rfl
  | _, _, _, .cons r t, h => by
    cases h with
    | cons r' t' => rw [lineOf_fun r.1 r'.1, paired_fun t t']
/-- equal texts are of equal programs -/
theorem text_inj {k k' : Str} {ss ss' : List PyData} {c c' : Nat} (hk : inS (.str k) kinds = true) (hl : Lay (.tuple ss)) (h : bodyN k 4 (.tuple ss) = some c) (hc : c ≤ 24) (hk' : inS (.str k') kinds = true) (hl' : Lay (.tuple ss')) (h' : bodyN k' 4 (.tuple ss') = some c') (hc' : c' ≤ 24) (e : textT k (.tuple ss) = textT k' (.tuple ss')) : k = k' ∧ ss = ss' := by
  obtain ⟨s1, ds, p1, r1⟩ := text_split hk hl h hc
  obtain ⟨s2, es, p2, r2⟩ := text_split hk' hl' h' hc'
  rw [e, s2] at s1
  injection s1 with e1 e2
  subst e1
  rw [e2] at p2
  have e3 := paired_fun p1 p2
  subst e3
  rw [r1] at r2
  have e4 := Option.some.inj r2
  injection e4 with _ e5 _
  injection e5 with _ _ e6 _
  exact ⟨rfl, e6⟩
end My

namespace My
open PySem L2 TL
/-! ### a program is of tuples, texts and ints -/
theorem plainN_more : ∀ {n : Nat} {d : PyData}, plainN n d → plainN (n + 1) d
  | 0, d, h => by
    rcases h with h | h
    · exact .inl h
    · exact .inr (.inl h)
  | n + 1, d, h => by
    rcases h with h | h | ⟨ds, h1, h2, h3⟩
    · exact .inl h
    · exact .inr (.inl h)
    · exact .inr (.inr ⟨ds, h1, h2, fun x mx => plainN_more (h3 x mx)⟩)
theorem plainN_add {n : Nat} {d : PyData} (h : plainN n d) : ∀ m, plainN (n + m) d
  | 0 => h
  | m + 1 => plainN_more (plainN_add h m)
theorem okP_plain {d : PyData} (h : okP d) (n : Nat) : plainN n d := by
  have : plainN 0 d := by
    rcases h with ⟨z, rfl, _⟩ | ⟨i, rfl, _⟩
    · exact .inl ⟨z, rfl⟩
    · exact .inr ⟨i, rfl⟩
  have := plainN_add this n
  rw [Nat.zero_add] at this
  exact this
theorem tup_plain {n : Nat} {ds : List PyData} (hl : ds.length ≤ 1000) (h : ∀ x ∈ ds, plainN n x) : plainN (n + 1) (.tuple ds) := .inr (.inr ⟨ds, rfl, hl, h⟩)
theorem str_plain (z : Str) : ∀ n, plainN n (.str z)
  | 0 => .inl ⟨z, rfl⟩
  | n + 1 => .inl ⟨z, rfl⟩
theorem cond_plain {co : PyData} (h : isCond co = true) (n : Nat) : plainN (n + 1) co := by
  obtain ⟨x, y, z, rfl, h1, h2, h3⟩ := cond_three h
  refine tup_plain (by simp) fun d m => ?_
  have m' : d = x ∨ d = y ∨ d = z := by simpa using m
  rcases m' with rfl | rfl | rfl
  · exact okP_plain h1 n
  · exact okP_plain h2 n
  · exact okP_plain h3 n
theorem body_plain {k : Str} : ∀ (n : Nat) (ss : List PyData) (c : Nat), bodyN k n (.tuple ss) = some c → c ≤ 24 → plainN (2 * n + 1) (.tuple ss)
  | 0, ss, c, h, hc => by
    cases ss with
    | nil => exact tup_plain (by simp) (fun x m => nomatch m)
    | cons _ _ => cases h
  | n + 1, ss, c, h, hc => by
    have hlen : ss.length ≤ c := by rw [bodyN_tup] at h; exact sumO_ge h
    refine tup_plain (by omega) fun s ms => ?_
    obtain ⟨a, ha, hle⟩ := sum_le h ms
    show plainN (2 * n + 1 + 1) s
    rcases st_shape ha with ⟨z, ps, rfl, h1, h2, hp, rfl⟩ | ⟨co, b, c', rfl, hco, hb, rfl⟩ | ⟨co, b1, b2, c1, c2, rfl, hco, hb1, hb2, rfl⟩
    · obtain ⟨z', ps', rs, e, hz, hl, hpp⟩ := plain_inv hp
      injection e with e; injection e with e1 e2; injection e1 with e1
      subst e1 e2
      have hr := roles_short hz
      refine tup_plain (by rw [List.length_cons]; omega) fun d m => ?_
      rcases List.mem_cons.mp m with rfl | m
      · exact str_plain _ _
      · exact okP_plain (parts_okP hl hpp d m) _
    · obtain ⟨bs, rfl⟩ := body_tuple hb
      refine tup_plain (by simp) fun d m => ?_
      have m' : d = .str "while" ∨ d = co ∨ d = .tuple bs := by simpa using m
      rcases m' with rfl | rfl | rfl
      · exact str_plain _ _
      · exact cond_plain hco _
      · exact body_plain n bs c' hb (by omega)
    · obtain ⟨bs1, rfl⟩ := body_tuple hb1
      obtain ⟨bs2, rfl⟩ := body_tuple hb2
      refine tup_plain (by simp) fun d m => ?_
      have m' : d = .str "if" ∨ d = co ∨ d = .tuple bs1 ∨ d = .tuple bs2 := by simpa using m
      rcases m' with rfl | rfl | rfl | rfl
      · exact str_plain _ _
      · exact cond_plain hco _
      · exact body_plain n bs1 c1 hb1 (by omega)
      · exact body_plain n bs2 c2 hb2 (by omega)
theorem prog_plain {k : Str} {ss : List PyData} {c : Nat} (h : bodyN k 4 (.tuple ss) = some c) (hc : c ≤ 24) : plainN 10 (.tuple [.str k, .tuple ss]) := by
  refine tup_plain (by simp) fun d m => ?_
  have m' : d = .str k ∨ d = .tuple ss := by simpa using m
  rcases m' with rfl | rfl
  · exact str_plain _ _
  · exact body_plain 4 ss c h hc
end My

namespace My
open PySem L2 TL
/-! ### helpers of the law: equal data, a call by name alone, the text of a program is read -/
theorem tupH_tup {H : Hp} {a : Addr} {xs : List V} (h : H a = some (.tup xs)) : tupH H a = some (.tup xs) := by unfold tupH; rw [h]
theorem tupH_frz {H : Hp} {a : Addr} {o u} (h : H a = some (.frz o u)) : tupH H a = some (.frz o u) := by unfold tupH; rw [h]
theorem sqT_dt {K : PySem.W.Frag} {H : Hp} {a : Addr} {xs : List V} (h : SqT K H a xs) : SqT K (tupH H) a xs := by
  rcases h with (h | ⟨o, h⟩) | h
  · exact .inl (.inl (tupH_tup h))
  · exact .inl (.inr ⟨o, tupH_frz h⟩)
  · exact .inr h
mutual
theorem dt_of {K : PySem.W.Frag} {H : Hp} : ∀ (d : PyData) (v : V), noL d = true → Dp K H v d → Dt K H v d
  | .none, _, _, h => by cases h; exact .non
  | .bool b, _, _, h => by cases h; exact .bl b
  | .int i, _, _, h => by cases h; exact .int i
  | .str x, _, _, h => by cases h; exact .str x
  | .list ds, _, n, h => by simp [noL] at n
  | .tuple ds, _, n, h => by
    cases h with
    | tup hs ha => exact .tup (sqT_dt hs) (dtAll_of ds _ (by simpa [noL] using n) ha)
  | .dict _, _, _, h => by cases h
theorem dtAll_of {K : PySem.W.Frag} {H : Hp} : ∀ (ds : List PyData) (vs : List V), noLAll ds = true → DpAll K H vs ds → DpAll K (tupH H) vs ds
  | [], _, _, h => by cases h; exact .nil
  | d :: ds, _, n, h => by
    simp only [noLAll, Bool.and_eq_true] at n
    cases h with
    | cons hd ht => exact .cons (dt_of d _ n.1 hd) (dtAll_of ds _ n.2 ht)
end
theorem dt_dp {K : PySem.W.Frag} {H : Hp} {v : V} {d : PyData} (h : Dt K H v d) : Dp K H v d := dp_mono (tupH_same H) _ _ h
theorem dt_keep {K : PySem.W.Frag} {H H' : Hp} {v : V} {d : PyData} (k : KeepT H H') (h : Dt K H v d) : Dt K H' v d := dp_mono k.same _ _ h
/-- equal by == and plain: equal -/
theorem eqvAll_eq {p : PyData → Prop} (h : ∀ d e, p d → p e → PyData.eqv d e = true → d = e) : ∀ (ds es : List PyData), (∀ d ∈ ds, p d) → (∀ d ∈ es, p d) → PyData.eqvAll ds es = true → ds = es
  | [], [], _, _, _ => rfl
  | [], _ :: _, _, _, q => by simp [PyData.eqvAll] at q
  | _ :: _, [], _, _, q => by simp [PyData.eqvAll] at q
  | d :: ds, e :: es, hd, he, q => by
    simp only [PyData.eqvAll, Bool.and_eq_true] at q
    rw [h d e (hd d (by simp)) (he e (by simp)) q.1, eqvAll_eq h ds es (fun x m => hd x (by simp [m])) (fun x m => he x (by simp [m])) q.2]
theorem eqv_plain : ∀ (n : Nat) (d e : PyData), plainN n d → plainN n e → PyData.eqv d e = true → d = e
  | 0, d, e, hd, he, q => by
    rcases hd with ⟨z, rfl⟩ | ⟨i, rfl⟩ <;> rcases he with ⟨y, rfl⟩ | ⟨j, rfl⟩ <;> simp [PyData.eqv] at q ⊢ <;> exact q
  | n + 1, d, e, hd, he, q => by
    rcases hd with ⟨z, rfl⟩ | ⟨i, rfl⟩ | ⟨ds, rfl, _, hd⟩ <;> rcases he with ⟨y, rfl⟩ | ⟨j, rfl⟩ | ⟨es, rfl, _, he⟩ <;> simp [PyData.eqv] at q ⊢
    · exact q
    · exact q
    · exact eqvAll_eq (eqv_plain n) ds es hd he q
theorem textT_len {k : Str} {d : PyData} {c : Nat} (hk : k.length ≤ 9) (hb : bodyN k 4 d = some c) (hc : c ≤ 24) : (textT k d).length + 2 ≤ sizeLine := by
  have ⟨h1, h2⟩ := body_okT 4 d c hb
  have hs : ∀ ys : List Str, (∀ y ∈ ys, y.length ≤ 600) → (ys.map (·.length)).sum ≤ 600 * ys.length := fun ys => by
    induction ys with
    | nil => intro _; simp
    | cons y r ih =>
      intro h
      have := ih (fun x m => h x (by simp [m]))
      have := h y (by simp)
      simp only [List.map_cons, List.sum_cons, List.length_cons]
      omega
  have hs2 := hs _ h2
  have e : (textT k d).length ≤ k.length + ((bodyT 4 d).map (·.length)).sum + (bodyT 4 d).length := by
    show (List.foldl (fun acc (p : Str) => acc ++ ("\n" : Str).cps ++ p.cps) (((k :: bodyT 4 d)).headD Str.empty).cps (List.drop 1 (k :: bodyT 4 d))).size ≤ _
    exact glue_len "\n" (by decide +kernel) _ _
  have : (textT k d).length + 2 ≤ 60000 := by omega
  exact Nat.le_trans this (by decide)
theorem prog_noL {k : Str} {d : PyData} (h : noL d = true) : noL (.tuple [.str k, d]) = true := by
  simp [noL, noLAll, h]
theorem prog_shaped {k : Str} {d : PyData} {c : Nat} (hb : bodyN k 4 d = some c) (l : Lay (.tuple [.str k, d])) : SeqAt.shaped (.tuple [.str k, d]) = true := by
  show ((PyData.tuple [.str k, d]).canLay0 && decide ((PyData.tuple [.str k, d]).depth ≤ 64)) = true
  rw [Bool.and_eq_true]
  refine ⟨l, decide_eq_true ?_⟩
  have := body_depth hb
  simp only [PyData.depth, PyData.depthAll]
  omega
/-- a text of a program is read to it -/
theorem sp_read {K : PySem.W.Frag} {H : Hp} {Q : VK} {E : XK} {k : Str} {d : PyData} (hp : isProg (.tuple [.str k, d]) = true) (hl : Lay (.tuple [.str k, d])) (q : ∀ H' p, Same H H' → H p = none → Dt K H' (.ref p) (.tuple [.str k, d]) → Q (.ref p) H') : spRead K [.str (textT k d)] H Q E := by
  obtain ⟨c, hb, hc, hki⟩ := prog_body hp
  obtain ⟨ss, rfl⟩ := body_tuple hb
  have lm := lay_mem (lay_tup hl)
  have lk : Lay (.str k) := lm _ (by simp)
  have ls : Lay (.tuple ss) := lm _ (by simp)
  obtain ⟨s1, ds, hpd, hrd⟩ := text_split hki ls hb hc
  obtain ⟨o1, o2⟩ := body_okT 4 _ c hb
  exact ⟨_, k, _, ds, c, ss, rfl, textT_len (kind_len hki) hb hc, s1, hki, lk, hpd, by omega, o2, hrd, q⟩
section
variable {K : PySem.W.Frag} {x qual : Str} {st : Stmt} {f : Addr} {fd : FuncData} {ps : List Str}
/-- f(a = .., ..) by names alone, no defaults: how they bind -/
theorem fun_kbN (F : Fun K x qual st f fd) (ks : List Str) (g : {α : Type} → List α → List α → List α) (hrel : ∀ {vs zs : List V} {us ws : List Value}, Vals vs us → Vals zs ws → Vals (g vs zs) (g us ws)) (n : Nat)
    (h : ∀ (kV doc pm : Value) (an : Option Addr) (cdv ct : Value) (us ws : List Value), us.length = n → ws.length = ks.length → bindArgs (PySem.W.fnOf x qual (defArgs st) (defBody st) (defScope st) .none kV doc pm an cdv ct) ⟨us, ks.zip ws⟩ = pure (ps.zip (g us ws))) :
    KBn K fd ps n ks (fun us ws => g us ws) (fun vs zs => g vs zs) := by
  obtain ⟨oc, od, kV, doc, pm, an, cdv, ct, osl, rfl, lk, hcd⟩ := F.ex
  exact ⟨fun s us ws X l1 l2 => .of_eq (h kV doc pm an cdv ct us ws l1 l2), fun r1 r2 => hrel r1 r2⟩
end
section
variable {X : Cx} {CX : CXT} {k : Nat} {f : Addr} {fd : FuncData} {ps ks : List Str} {sp : Sp} {E : XK} {x : Str} {p pos : Pos} {kws : List Keyword} {tk : TA} {g : List Value → List Value → List Value} {gV : List V → List V → List V}
/-- f(k = v, ..) -/
theorem pe_callK0 (F : FnOk X.prog X.w X.K X.mg X.base CX k f fd ps sp) (hr : Room k X.A) (hg : Gl X x) (hm : X.mg x = some (.ref f)) (hk : PySem.W.keepIn X.K (.ref f) = true) (hb : KBn X.K fd ps 0 ks g gV) (hx : Passes CX X E) (hkw : PK X kws tk)
    (hall : (backToKw pos (keywordEach kws X.env)).all (·.1.isSome) = true := by rfl) (hks : (backToKw pos (keywordEach kws X.env)).filterMap (·.1) = ks := by rfl)
    (hdb : (x == ("__debug__" : Str)) = false := by decide)
    (hpl : ((backTo pos (starEach [] X.env)).any (·.1) || (backToKw pos (keywordEach kws X.env)).any (·.1.isNone)) = false := by rfl) :
    PE X (.Call (.Name x p) [] kws pos) (tCallN 0 ks.length sp gV E tNil tk) := by
  refine ⟨fun pins s σ H Q I h => ?_⟩
  refine wpAny_Call_Name_kw (ld_glob I hg hm ?_ hdb)
  refine PySem.W.callWith_KW0 (h₀ := X.base) I.ok.mod.kin hk hall ?_ hpl
  refine thn (hkw.run pos pins s σ H _ I h) fun ws s2 ⟨zs, H2, I2, rz, l1, l2, q2⟩ => ⟨I2.kIn, ?_⟩
  rw [hks]
  exact run_fnN (us := []) (vs := []) F hr hb hx I2 .nil rz rfl l2 q2
end
end My

namespace My
open PySem L2 TL
abbrev sLaw : Stmt := top 58
abbrev nsLaw : List Str := ["_law_script", "_law_last", "_law_k", "_law_bag_here", "_law_program_here", "_law_written", "_law_found"]
def spLaw (K : PySem.W.Frag) : Sp := fun vs H Q _ => ∃ (a : Addr) (ns : List Int), vs = [.ref a] ∧ SqL K H a (ns.map V.int) ∧ ns.length ≤ 63 ∧ ∀ H', Q (.bl true) H'
/-- a program, on any heap whose tuples stay -/
structure PrgT (K : PySem.W.Frag) (H : Hp) (v : V) (k : Str) (d : PyData) : Prop where
  dt : Dt K H v (.tuple [.str k, d])
  pr : isProg (.tuple [.str k, d]) = true
  ly : Lay (.tuple [.str k, d])
theorem PrgT.keep {K : PySem.W.Frag} {H H' : Hp} {v : V} {k : Str} {d : PyData} (u : KeepT H H') (h : PrgT K H v k d) : PrgT K H' v k d := ⟨dt_keep u h.dt, h.pr, h.ly⟩
theorem PrgT.sh {K : PySem.W.Frag} {H : Hp} {v : V} {k : Str} {d : PyData} (h : PrgT K H v k d) : SeqAt.shaped (.tuple [.str k, d]) = true := by
  obtain ⟨c, hb, _, _⟩ := prog_body h.pr
  exact prog_shaped hb h.ly
theorem PrgT.pl {K : PySem.W.Frag} {H : Hp} {v : V} {k : Str} {d : PyData} (h : PrgT K H v k d) : plainN 10 (.tuple [.str k, d]) := by
  obtain ⟨c, hb, hc, _⟩ := prog_body h.pr
  obtain ⟨ss, rfl⟩ := body_tuple hb
  exact prog_plain hb hc
/-- texts of two programs are equal just where the programs are -/
theorem text_eqv {K : PySem.W.Frag} {H H' : Hp} {v v' : V} {k k' : Str} {d d' : PyData} (h : PrgT K H v k d) (h' : PrgT K H' v' k' d') : decide (V.str (textT k d) = V.str (textT k' d')) = PyData.eqv (.tuple [.str k, d]) (.tuple [.str k', d']) := by
  rw [Bool.eq_iff_iff, decide_eq_true_iff]
  constructor
  · intro e
    injection e with e
    obtain ⟨c, hb, hc, hki⟩ := prog_body h.pr
    obtain ⟨ss, rfl⟩ := body_tuple hb
    obtain ⟨c', hb', hc', hki'⟩ := prog_body h'.pr
    obtain ⟨ss', rfl⟩ := body_tuple hb'
    obtain ⟨rfl, rfl⟩ := text_inj hki (lay_mem (lay_tup h.ly) _ (by simp)) hb hc hki' (lay_mem (lay_tup h'.ly) _ (by simp)) hb' hc' e
    exact SeqAt.eqv_refl _ h.ly
  · intro e
    have e := eqv_plain 10 _ _ h.pl h'.pl e
    injection e with e; injection e with e1 e2; injection e1 with e1; injection e2 with e2
    subst e1 e2
    rfl
theorem ne_prg {K : PySem.W.Frag} {H : Hp} {v v' : V} {k : Str} {d : PyData} {Q : VK} (h : Dt K H v (.tuple [.str k, d])) (h' : PrgT K H v' k d) (q : Q (.bl false) H) : rNeD K v v' H Q := by
  refine ⟨_, _, dt_dp h, dt_dp h'.dt, h'.sh, h'.sh, ?_⟩
  rw [SeqAt.eqv_refl _ h'.ly]
  exact q
theorem eq_prg {K : PySem.W.Frag} {H : Hp} {v v' : V} {k : Str} {d : PyData} {Q : VK} (h : Dt K H v (.tuple [.str k, d])) (h' : PrgT K H v' k d) (q : Q (.bl true) H) : rEqD K v v' H Q := by
  refine ⟨_, _, dt_dp h, dt_dp h'.dt, h'.sh, h'.sh, ?_⟩
  rw [SeqAt.eqv_refl _ h'.ly]
  exact q
theorem prg_empty {K : PySem.W.Frag} {H : Hp} {p e : Addr} {k : Str} (hk : k = "teller" ∨ k = "collector") (he : H e = some (.tup [])) (hp : H p = some (.tup [.str k, .ref e])) : PrgT K H (.ref p) k (.tuple []) := by
  refine ⟨.tup (SqT.of (tupH_tup hp)) (.cons (.str _) (.cons (.tup (SqT.of (tupH_tup he)) .nil) .nil)), ?_, lay2 (lay_str (strOk_kind hk)) lay_nil⟩
  rcases hk with rfl | rfl <;> decide +kernel
theorem rNe_same {x : V} {H : Hp} {Q : VK} (hs : scal x x = true) (q : Q (.bl false) H) : rNe x x H Q := by
  refine ⟨hs, ?_⟩
  rw [decide_eq_true rfl]
  exact q
theorem wait1_text : textT "teller" (.tuple [.tuple [.str "wait", .int 1]]) = "teller\nwait 1" := by decide +kernel
theorem coll_text : textT "collector" (.tuple []) = "collector" := by decide +kernel
section
variable {P : Program} {w : World} {K : PySem.W.Frag} {mg : Str → Option Value} {base : Heap}
theorem scLaw : FnScope nsLaw ["_law_script"] (defScope sLaw) := ⟨rfl, rfl, rfl, by decide +kernel, rfl, by decide +kernel, by decide +kernel⟩
theorem ok_law {f : Addr} {fd : FuncData} (F : Fun K "law" "law" sLaw f fd) (T : Gs K mg) (T2 : G2 mg)
    (CB : Cal P w K mg base 1 "_law_bag" ["_law_script", "_law_k"] (spBag K)) (CK : Cal P w K mg base 2 "_law_kind" ["_law_bag_here"] spKind)
    (CG : Cal P w K mg base 14 "_law_program" ["_law_bag_here", "_law_kind_here", "_law_most"] (spProgL K)) (CT : Cal P w K mg base 7 "_law_text" ["_law_program_here"] (spText K)) (CW : Cal P w K mg base 11 "show" ["program"] (spShow K))
    (CR : Cal P w K mg base 7 "read" ["text"] (spRead K)) (kR : KBn K CR.fd ["text"] 0 ["text"] (fun us ws => us ++ ws) (fun vs zs => vs ++ zs)) (CP : Cal P w K mg base 12 "_law_plain" ["_law_thing"] (spPln K 10)) : FnOk P w K mg base CX0 15 f fd ["_law_script"] (spLaw K) := by
  refine F.ok scLaw (fun vs H Q E h => ?_) (fun cdv A outer s H vs Q E hr h => ?_)
  · obtain ⟨a, ns, rfl, _⟩ := h
    rfl
  obtain ⟨a, ns, rfl, hS, h63, q⟩ := h
  have hr1 : Room 1 _ := hr.mono (by decide)
  have hr2 : Room 2 _ := hr.mono (by decide)
  have hr7 : Room 7 _ := hr.mono (by decide)
  have hr11 : Room 11 _ := hr.mono (by decide)
  have hr12 : Room 12 _ := hr.mono (by decide)
  refine ⟨_, (pss_cons (ps_set (i := 1) scLaw.nd rfl (.inl rfl) (pe_tup (pa_cons pe_str (pa_cons (pe_tup pa_nil) pa_nil))))
  (pss_cons (ps_for PassesOwn.never rfl (pi_range1 (by rfl) T2.range (pa_cons (pe_callB (call_max2 rfl) (by rfl) T2.max (by decide +kernel) (pa_cons pe_int (pa_cons (pe_callB (call_min2 rfl) (by rfl) T2.min (by decide +kernel) (pa_cons pe_int (pa_cons (pe_callB call_len_seq (by rfl) T.len PySem.boot_len (pa_cons (pv 0) pa_nil)) pa_nil))) pa_nil))) pa_nil)) (pg_name (i := 2) scLaw.nd rfl (.inl rfl))
    (pss_cons (ps_set (i := 3) scLaw.nd rfl (.inl rfl) (pe_call CB.G hr1 rfl CB.m CB.kp CB.b .nil pass0 (pa_cons (pv 0) (pa_cons (pv 2) pa_nil))))
    (pss_cons (ps_set (i := 4) scLaw.nd rfl (.inl rfl) (pe_call CG.G hr rfl CG.m CG.kp CG.b .nil pass0 (pa_cons (pv 3) (pa_cons (pe_call CK.G hr2 rfl CK.m CK.kp CK.b .nil pass0 (pa_cons (pv 3) pa_nil)) (pa_cons pe_int pa_nil)))))
    (pss_cons (ps_set (i := 5) scLaw.nd rfl (.inl rfl) (pe_call CT.G hr7 rfl CT.m CT.kp CT.b .nil pass0 (pa_cons (pv 4) pa_nil)))
    (pss_cons (ps_set (i := 6) scLaw.nd rfl (.inl rfl) (pe_call CR.G hr7 rfl CR.m CR.kp CR.b .nil pass0 (pa_cons (pv 5) pa_nil)))
    (pss_cons (ps_if (PW.pt (pw_or (pt_cmpR (op_neD hr.units) (pv 6) (pv 4) (nomark _)) (pw_or (pt_not (pt_val (pe_call CP.G hr12 rfl CP.m CP.kp CP.b .nil pass0 (pa_cons (pv 6) pa_nil)))) (pw_or1 (pt_cmpR op_ne (pe_call CW.G hr11 rfl CW.m CW.kp CW.b .nil pass0 (pa_cons (pv 6) pa_nil)) (pv 5) (nomark _))))))
      (pss_one (ps_ret pe_bl))
      pss_nil)
    (pss_cons (ps_if (PW.pt (pw_or (pt_cmpR (op_neD hr.units) (pe_call CR.G hr7 rfl CR.m CR.kp CR.b .nil pass0 (pa_cons (pe_call CW.G hr11 rfl CW.m CW.kp CW.b .nil pass0 (pa_cons (pv 4) pa_nil)) pa_nil)) (pv 4) (nomark _)) (pw_or1 (pt_cmpR op_ne (pe_cmpR op_eq (pe_call CW.G hr11 rfl CW.m CW.kp CW.b .nil pass0 (pa_cons (pv 4) pa_nil)) (pe_call CW.G hr11 rfl CW.m CW.kp CW.b .nil pass0 (pa_cons (pv 1) pa_nil)) (nomark _)) (pe_cmpR (op_eqD hr.units) (pv 4) (pv 1) (nomark _)) (nomark _)))))
      (pss_one (ps_ret pe_bl))
      pss_nil)
    (pss_one (ps_set (i := 1) scLaw.nd rfl (.inl rfl) (pv 4))))))))))
  (pss_one (ps_ret (pe_and (pe_cmpR (op_eqD hr.units) (pe_call CR.G hr7 rfl CR.m CR.kp CR.b .nil pass0 (pa_cons pe_str pa_nil)) (pe_tup (pa_cons pe_str (pa_cons (pe_tup pa_nil) pa_nil))) (nomark _)) (pe_one (pe_cmpR (op_eqD hr.units) (pe_callK0 CR.G hr7 rfl CR.m CR.kp kR pass0 (pk_cons pe_str pk_nil)) (pe_tup (pa_cons pe_str (pa_cons (pe_tup (pa_cons (pe_tup (pa_cons pe_str (pa_cons pe_int pa_nil))) pa_nil)) pa_nil))) (nomark _)))))))), ?_⟩
  refine ⟨(by show 0 ≤ sizeLine; decide), fun e1 n1 => ⟨(by show 2 ≤ sizeLine; decide), fun p1 m1 => ?_⟩⟩
  have hL0 := prg_empty (K := K) (H := upd (upd H e1 (.tup [])) p1 (.tup [.str "teller", .ref e1])) (.inl rfl) (same_new m1 _ _ _ upd_same) upd_same
  have sH0 : Same H (upd (upd H e1 (.tup [])) p1 (.tup [.str "teller", .ref e1])) := (same_new n1 _).trans (same_new m1 _)
  generalize upd (upd H e1 (.tup [])) p1 (.tup [.str "teller", .ref e1]) = H0 at hL0 sH0 ⊢
  refine ⟨_, rfl, a, _, rfl, .inl (sH0.seq hS), _, _, rfl, _, _, rfl, _, rfl, ?_, ?_, ?_⟩
  · split <;> split <;> omega
  · split <;> split <;> omega
  rw [show (ns.map V.int).length = ns.length from List.length_map _]
  have h12 : (if (if ((ns.length : Nat) : Int) < 10 then ((ns.length : Nat) : Int) else 10) > 2 then (if ((ns.length : Nat) : Int) < 10 then ((ns.length : Nat) : Int) else 10) else 2).toNat ≤ 12 := by
    split <;> split <;> omega
  generalize (if (if ((ns.length : Nat) : Int) < 10 then ((ns.length : Nat) : Int) else 10) > 2 then (if ((ns.length : Nat) : Int) < 10 then ((ns.length : Nat) : Int) else 10) else 2).toNat = turns at h12 ⊢
  refine for_range (lo := 0) (n := turns) (fun i σ H' => ∃ (vl : V) (kl : Str) (dl : PyData) (s2 s3 s4 s5 s6 : Option V), σ = [some (.ref a), some vl, s2, s3, s4, s5, s6] ∧ Same H H' ∧ PrgT K H' vl kl dl) ⟨_, _, _, none, none, none, none, none, rfl, sH0, hL0⟩ ?_ ?_
  · rintro i σ H1 hi ⟨vl, kl, dl, s2, s3, s4, s5, s6, rfl, sH1, hL⟩
    refine ⟨_, rfl, _, rfl, a, ns, i, (by rw [Int.zero_add]; rfl), sH1.seq hS, h63, by omega, fun H2 b sH2 nb bag2 => ?_⟩
    have nHb : H b = none := sH1.free nb
    have sHb : ∀ H', Fr b H2 H' → Same H H' := fun H' f x o hx => f x o (fun e => by rw [e] at hx; have := sH1 _ _ hx; rw [nb] at this; cases this) (sH2 _ _ (sH1 _ _ hx))
    refine ⟨_, rfl, _, rfl, b, rfl, bag2, fun H3 k f3 bag3 hk => ⟨b, k, rfl, bag3, hk, fun H4 t v d f4 bag4 et ntb hd hp hl nd => ?_⟩⟩
    dsimp only [List.set_cons_succ, List.set_cons_zero]
    have lk : Lay (.str k) := lay_str (strOk_kind hk)
    have hP : PrgT K H4 (.ref t) k d := ⟨dt_of _ _ (prog_noL nd) (Da.dp (da_tup ntb et (.cons (.str _) (.cons hd .nil)))), hp, lay2 lk hl⟩
    have sH4 : Same H H4 := sHb _ (f3.trans f4)
    have hL4 : PrgT K H4 vl kl dl := hL.keep ((KeepT.of sH2).trans (KeepT.fr bag2.lst (f3.trans f4)))
    clear sHb bag4 et hd f4 bag3 f3 bag2
    obtain ⟨c, hb, hc, hki⟩ := prog_body hp
    -- written
    refine ⟨_, rfl, .ref t, k, d, c, rfl, dt_dp hP.dt, hP.ly, kind_len hki, hb, hc, fun H5 u5 => ?_⟩
    dsimp only [List.set_cons_succ, List.set_cons_zero]
    have hP5 := hP.keep (KeepT.of u5)
    -- found
    refine ⟨_, rfl, ?_⟩
    dsimp only [tNil, List.append_nil, List.nil_append]
    refine sp_read hp hP.ly fun H6 p6 u6 np6 d6 => ?_
    dsimp only [List.set_cons_succ, List.set_cons_zero]
    have hP6 := hP5.keep (KeepT.of u6)
    have hF6 : PrgT K H6 (.ref p6) k d := ⟨d6, hp, hP.ly⟩
    refine ⟨_, rfl, _, rfl, ne_prg d6 hP6 ⟨_, rfl, iteF ?_⟩⟩
    refine ⟨_, rfl, .ref p6, _, rfl, dt_dp d6, hF6.pl, hP.ly, fun H7 u7 => ⟨_, rfl, iteF ?_⟩⟩
    have hF7 := hF6.keep (KeepT.of u7)
    refine ⟨_, rfl, .ref p6, k, d, rfl, dt_dp hF7.dt, hP.ly, hp, fun H8 u8 => ⟨_, rfl, rNe_same rfl ⟨_, rfl, iteF ?_⟩⟩⟩
    have hP8 := (hP6.keep (KeepT.of u7)).keep (KeepT.of u8)
    -- read(show(..))
    refine ⟨_, rfl, .ref t, k, d, rfl, dt_dp hP8.dt, hP.ly, hp, fun H9 u9 => ?_⟩
    have hP9 := hP8.keep (KeepT.of u9)
    dsimp only [tNil, List.append_nil, List.nil_append]
    refine sp_read hp hP.ly fun H10 p10 u10 np10 d10 => ?_
    refine ⟨_, rfl, ne_prg d10 (hP9.keep (KeepT.of u10)) ⟨_, rfl, iteF ?_⟩⟩
    have hP10 := hP9.keep (KeepT.of u10)
    have uu : Same H4 H10 := u5.trans (u6.trans (u7.trans (u8.trans (u9.trans u10))))
    have hL10 := hL4.keep (KeepT.of uu)
    refine ⟨_, rfl, .ref t, k, d, rfl, dt_dp hP10.dt, hP.ly, hp, fun H11 u11 => ?_⟩
    have hL11 := hL10.keep (KeepT.of u11)
    refine ⟨_, rfl, vl, kl, dl, rfl, dt_dp hL11.dt, hL.ly, hL.pr, fun H12 u12 => ⟨rfl, ?_⟩⟩
    have hP12 := hP10.keep (KeepT.of (u11.trans u12))
    have hL12 := hL11.keep (KeepT.of u12)
    refine ⟨_, rfl, _, rfl, _, _, dt_dp hP12.dt, dt_dp hL12.dt, hP12.sh, hL12.sh, ?_⟩
    rw [text_eqv hP12 hL12]
    refine rNe_same rfl ⟨_, rfl, iteF ?_⟩
    exact ⟨_, rfl, _, _, _, _, _, _, _, _, rfl, sH4.trans (uu.trans (u11.trans u12)), hP12⟩
  · rintro σ H1 ⟨vl, kl, dl, s2, s3, s4, s5, s6, rfl, sH1, hL⟩
    have hC : isProg (.tuple [.str "collector", .tuple []]) = true := by decide +kernel
    have lC : Lay (.tuple [.str "collector", .tuple []]) := lay2 (lay_str (by decide +kernel)) lay_nil
    have hW : isProg (.tuple [.str "teller", .tuple [.tuple [.str "wait", .int 1]]]) = true := by decide +kernel
    have lW : Lay (.tuple [.str "teller", .tuple [.tuple [.str "wait", .int 1]]]) := by decide +kernel
    have r1 : ∀ {Q : VK} {E : XK}, (∀ H' p, Same H1 H' → H1 p = none → Dt K H' (.ref p) (.tuple [.str "collector", .tuple []]) → Q (.ref p) H') → spRead K [.str "collector"] H1 Q E := fun q => by
      rw [← coll_text]
      exact sp_read hC lC q
    dsimp only [tRet, tAndV, tOp, tCall, tCallN, tCons, tC, tNil, tTup, List.append_nil, List.nil_append]
    refine r1 fun H2 p2 u2 np2 d2 => ?_
    refine ⟨(by show 0 ≤ sizeLine; decide), fun e3 n3 => ⟨(by show 2 ≤ sizeLine; decide), fun p3 m3 => ?_⟩⟩
    have hP3 := prg_empty (K := K) (H := upd (upd H2 e3 (.tup [])) p3 (.tup [.str "collector", .ref e3])) (.inr rfl) (same_new m3 _ _ _ upd_same) upd_same
    refine eq_prg (dt_keep (KeepT.of ((same_new n3 _).trans (same_new m3 _))) d2) hP3 ⟨_, rfl, iteT ?_⟩
    generalize upd (upd H2 e3 (.tup [])) p3 (.tup [.str "collector", .ref e3]) = H3
    have r2 : ∀ {Q : VK} {E : XK}, (∀ H' p, Same H3 H' → H3 p = none → Dt K H' (.ref p) (.tuple [.str "teller", .tuple [.tuple [.str "wait", .int 1]]]) → Q (.ref p) H') → spRead K [.str "teller\nwait 1"] H3 Q E := fun q => by
      rw [← wait1_text]
      exact sp_read hW lW q
    refine ⟨rfl, rfl, ?_⟩
    refine r2 fun H4 p4 u4 np4 d4 => ?_
    refine ⟨(by show 2 ≤ sizeLine; decide), fun e5 n5 => ⟨(by show 1 ≤ sizeLine; decide), fun e6 n6 => ⟨(by show 2 ≤ sizeLine; decide), fun e7 n7 => ?_⟩⟩⟩
    have u6 := same_new n6 (.tup [.ref e5])
    have u7 := same_new n7 (.tup [.str "teller", .ref e6])
    have hP7 : PrgT K (upd (upd (upd H4 e5 (.tup [.str "wait", .int 1])) e6 (.tup [.ref e5])) e7 (.tup [.str "teller", .ref e6])) (.ref e7) "teller" (.tuple [.tuple [.str "wait", .int 1]]) :=
      ⟨.tup (SqT.of (tupH_tup upd_same)) (.cons (.str _) (.cons (.tup (SqT.of (tupH_tup (u7 _ _ upd_same))) (.cons (.tup (SqT.of (tupH_tup (u7 _ _ (u6 _ _ upd_same)))) (.cons (.str _) (.cons (.int _) .nil))) .nil)) .nil)), hW, lW⟩
    exact eq_prg (dt_keep (KeepT.of ((same_new n5 _).trans (u6.trans u7))) d4) hP7 (q _)
end
theorem sqt_of {K : PySem.W.Frag} {a : Addr} {od : Option Addr} {sl : Array (Option Value)} {n : Nat} {its : Array Value} {xs : List V} (h : K.lookup a = some ⟨.type "tuple", od, .seq its n, sl⟩) (hz : its.size ≤ sizeLine) (r : Vals xs its.toList) : ∀ H, SqT K H a xs := fun H => .inr ⟨_, its, n, h, rfl, rfl, hz, r⟩
theorem all_mk {l : PySem.W.OpenLaw} {w : World} {K : PySem.W.Frag} {h : Heap} {mg : Str → Option Value} {fa : Addr} (X : K.In h) (G : h.Ns mainGlobals mg) (hfa : mg "law" = some (.ref fa))
    {fFrom : Addr} {odFrom anFrom : Option Addr} {slFrom : Array (Option Value)} {ocFrom kVFrom dcFrom pmFrom cdFrom ctFrom : Value}
    {fInt : Addr} {odInt anInt : Option Addr} {slInt : Array (Option Value)} {ocInt kVInt dcInt pmInt cdInt ctInt : Value}
    {fTerm : Addr} {odTerm anTerm : Option Addr} {slTerm : Array (Option Value)} {ocTerm kVTerm dcTerm pmTerm cdTerm ctTerm : Value}
    {fCond : Addr} {odCond anCond : Option Addr} {slCond : Array (Option Value)} {ocCond kVCond dcCond pmCond cdCond ctCond : Value}
    {fPart : Addr} {odPart anPart : Option Addr} {slPart : Array (Option Value)} {ocPart kVPart dcPart pmPart cdPart ctPart : Value}
    {fWord : Addr} {odWord anWord : Option Addr} {slWord : Array (Option Value)} {ocWord kVWord dcWord pmWord cdWord ctWord : Value}
    {fRoles : Addr} {odRoles anRoles : Option Addr} {slRoles : Array (Option Value)} {ocRoles kVRoles dcRoles pmRoles cdRoles ctRoles : Value}
    {fPlain : Addr} {odPlain anPlain : Option Addr} {slPlain : Array (Option Value)} {ocPlain kVPlain dcPlain pmPlain cdPlain ctPlain : Value}
    {fOut : Addr} {odOut anOut : Option Addr} {slOut : Array (Option Value)} {ocOut kVOut dcOut pmOut cdOut ctOut : Value}
    {fBodies : Addr} {odBodies anBodies : Option Addr} {slBodies : Array (Option Value)} {ocBodies kVBodies dcBodies pmBodies cdBodies ctBodies : Value}
    {fProg : Addr} {odProg anProg : Option Addr} {slProg : Array (Option Value)} {ocProg kVProg dcProg pmProg cdProg ctProg : Value}
    {fShow : Addr} {odShow anShow : Option Addr} {slShow : Array (Option Value)} {ocShow kVShow dcShow pmShow cdShow ctShow : Value}
    {fBL : Addr} {odBL anBL : Option Addr} {slBL : Array (Option Value)} {ocBL kVBL dcBL pmBL cdBL ctBL : Value}
    {fSL : Addr} {odSL anSL : Option Addr} {slSL : Array (Option Value)} {ocSL kVSL dcSL pmSL cdSL ctSL : Value}
    {fPL : Addr} {odPL anPL : Option Addr} {slPL : Array (Option Value)} {ocPL kVPL dcPL pmPL cdPL ctPL : Value}
    {fJn : Addr} {odJn anJn : Option Addr} {slJn : Array (Option Value)} {ocJn kVJn dcJn pmJn cdJn ctJn : Value}
    {fDec : Addr} {odDec anDec : Option Addr} {slDec : Array (Option Value)} {ocDec kVDec dcDec pmDec cdDec ctDec : Value}
    {fNW : Addr} {odNW anNW : Option Addr} {slNW : Array (Option Value)} {ocNW kVNW dcNW pmNW cdNW ctNW : Value}
    {fAP : Addr} {odAP anAP : Option Addr} {slAP : Array (Option Value)} {ocAP kVAP dcAP pmAP cdAP ctAP : Value}
    {fLP : Addr} {odLP anLP : Option Addr} {slLP : Array (Option Value)} {ocLP kVLP dcLP pmLP cdLP ctLP : Value}
    {fOpn : Addr} {odOpn anOpn : Option Addr} {slOpn : Array (Option Value)} {ocOpn kVOpn dcOpn pmOpn cdOpn ctOpn : Value}
    {fRead : Addr} {odRead anRead : Option Addr} {slRead : Array (Option Value)} {ocRead kVRead dcRead pmRead cdRead ctRead : Value}
    {fBag : Addr} {odBag anBag : Option Addr} {slBag : Array (Option Value)} {ocBag kVBag dcBag pmBag cdBag ctBag : Value}
    {fDraw : Addr} {odDraw anDraw : Option Addr} {slDraw : Array (Option Value)} {ocDraw kVDraw dcDraw pmDraw cdDraw ctDraw : Value}
    {fLarge : Addr} {odLarge anLarge : Option Addr} {slLarge : Array (Option Value)} {ocLarge kVLarge dcLarge pmLarge cdLarge ctLarge : Value}
    {fSteps : Addr} {odSteps anSteps : Option Addr} {slSteps : Array (Option Value)} {ocSteps kVSteps dcSteps pmSteps cdSteps ctSteps : Value}
    {fTermL : Addr} {odTermL anTermL : Option Addr} {slTermL : Array (Option Value)} {ocTermL kVTermL dcTermL pmTermL cdTermL ctTermL : Value}
    {fCondL : Addr} {odCondL anCondL : Option Addr} {slCondL : Array (Option Value)} {ocCondL kVCondL dcCondL pmCondL cdCondL ctCondL : Value}
    {fSimple : Addr} {odSimple anSimple : Option Addr} {slSimple : Array (Option Value)} {ocSimple kVSimple dcSimple pmSimple cdSimple ctSimple : Value}
    {fKind : Addr} {odKind anKind : Option Addr} {slKind : Array (Option Value)} {ocKind kVKind dcKind pmKind cdKind ctKind : Value}
    {fStmt : Addr} {odStmt anStmt : Option Addr} {slStmt : Array (Option Value)} {ocStmt kVStmt dcStmt pmStmt cdStmt ctStmt : Value}
    {fBody : Addr} {odBody anBody : Option Addr} {slBody : Array (Option Value)} {ocBody kVBody dcBody pmBody cdBody ctBody : Value}
    {fProgL : Addr} {odProgL anProgL : Option Addr} {slProgL : Array (Option Value)} {ocProgL kVProgL dcProgL pmProgL cdProgL ctProgL : Value}
    {fWhole : Addr} {odWhole anWhole : Option Addr} {slWhole : Array (Option Value)} {ocWhole kVWhole dcWhole pmWhole cdWhole ctWhole : Value}
    {fLL : Addr} {odLL anLL : Option Addr} {slLL : Array (Option Value)} {ocLL kVLL dcLL pmLL cdLL ctLL : Value}
    {fText : Addr} {odText anText : Option Addr} {slText : Array (Option Value)} {ocText kVText dcText pmText cdText ctText : Value}
    {fPln : Addr} {odPln anPln : Option Addr} {slPln : Array (Option Value)} {ocPln kVPln dcPln pmPln cdPln ctPln : Value}
    {fLaw : Addr} {odLaw anLaw : Option Addr} {slLaw : Array (Option Value)} {ocLaw kVLaw dcLaw pmLaw cdLaw ctLaw : Value}
    {tG : Tok}
    {tL : Tok}
    {tS : Tok}
    {tD : Tok}
    {aV : Addr} {odV : Option Addr} {slV : Array (Option Value)} {nV : Nat} {tV0 tV1 : Tok}
    {aC : Addr} {odC : Option Addr} {slC : Array (Option Value)} {nC : Nat} {tC0 tC1 tC2 : Tok}
    {aA : Addr} {odA : Option Addr} {slA : Array (Option Value)} {nA : Nat} {tA0 tA1 tA2 : Tok}
    {aK : Addr} {odK : Option Addr} {slK : Array (Option Value)} {nK : Nat} {tK0 tK1 : Tok}
    {aB : Addr} {nB : Nat} {hB0 hB1 : Int} {tB0 tB1 tB2 tB3 : Tok}
    {aSh : Addr} {nSh : Nat} {hSh0 hSh1 hSh2 : Int} {tSh0 tSh1 tSh2 : Tok}
    {aSh0 : Addr} {odSh0 : Option Addr} {slSh0 : Array (Option Value)} {nSh0 : Nat} {tSh00 tSh01 : Tok}
    {aSh1 : Addr} {odSh1 : Option Addr} {slSh1 : Array (Option Value)} {nSh1 : Nat} {tSh10 tSh11 : Tok}
    {aSh2 : Addr} {odSh2 : Option Addr} {slSh2 : Array (Option Value)} {nSh2 : Nat} {tSh20 : Tok}
    {aTe : Addr} {nTe : Nat} {hTe0 hTe1 : Int} {tTe0 tTe1 : Tok}
    {aTe0 : Addr} {odTe0 : Option Addr} {slTe0 : Array (Option Value)} {nTe0 : Nat} {tTe00 tTe01 tTe02 : Tok}
    {aTe1 : Addr} {odTe1 : Option Addr} {slTe1 : Array (Option Value)} {nTe1 : Nat} {tTe10 : Tok}
    {aCo : Addr} {nCo : Nat} {hCo0 hCo1 : Int} {tCo0 tCo1 : Tok}
    {aCo0 : Addr} {odCo0 : Option Addr} {slCo0 : Array (Option Value)} {nCo0 : Nat} {tCo00 : Tok}
    {aCo1 : Addr} {odCo1 : Option Addr} {slCo1 : Array (Option Value)} {nCo1 : Nat} {tCo10 : Tok}
    {cB cD : Addr}
    {fMB : Addr} {odMB anMB : Option Addr} {slMB : Array (Option Value)} {ocMB kVMB dcMB pmMB cdMB ctMB : Value}
    {fME : Addr} {odME anME : Option Addr} {slME : Array (Option Value)} {ocME kVME dcME pmME cdME ctME : Value}
    {fAS : Addr} {odAS anAS : Option Addr} {slAS : Array (Option Value)} {ocAS kVAS dcAS pmAS cdAS ctAS : Value}
    {fBI : Addr} {odBI anBI : Option Addr} {slBI : Array (Option Value)} {ocBI kVBI dcBI pmBI cdBI ctBI : Value}
    {fDH : Addr} {odDH anDH : Option Addr} {slDH : Array (Option Value)} {ocDH kVDH dcDH pmDH cdDH ctDH : Value}
    {fDC : Addr} {odDC anDC : Option Addr} {slDC : Array (Option Value)} {ocDC kVDC dcDC pmDC cdDC ctDC : Value}
    {fDP : Addr} {odDP anDP : Option Addr} {slDP : Array (Option Value)} {ocDP kVDP dcDP pmDP cdDP ctDP : Value}
    {fDA : Addr} {odDA anDA : Option Addr} {slDA : Array (Option Value)} {ocDA kVDA dcDA pmDA cdDA ctDA : Value}
    {fDT : Addr} {odDT anDT : Option Addr} {slDT : Array (Option Value)} {ocDT kVDT dcDT pmDT cdDT ctDT : Value}
    {fDI : Addr} {odDI anDI : Option Addr} {slDI : Array (Option Value)} {ocDI kVDI dcDI pmDI cdDI ctDI : Value}
    (aFrom : PySem.W.nsIn K mainGlobals "is_integer_from" = some (some (.ref fFrom)))
    (lFrom : K.lookup fFrom = some ⟨ocFrom, odFrom, .func (PySem.W.fnOf "is_integer_from" "is_integer_from" (defArgs sFrom) (defBody sFrom) (defScope sFrom) .none kVFrom dcFrom pmFrom anFrom cdFrom ctFrom), slFrom⟩)
    (cFrom : PySem.W.codeIn K cdFrom "is_integer_from" = true)
    (kFrom : PySem.W.keepIn K (.ref fFrom) = true)
    (aInt : PySem.W.nsIn K mainGlobals "is_integer_from_to" = some (some (.ref fInt)))
    (lInt : K.lookup fInt = some ⟨ocInt, odInt, .func (PySem.W.fnOf "is_integer_from_to" "is_integer_from_to" (defArgs sInt) (defBody sInt) (defScope sInt) .none kVInt dcInt pmInt anInt cdInt ctInt), slInt⟩)
    (cInt : PySem.W.codeIn K cdInt "is_integer_from_to" = true)
    (kInt : PySem.W.keepIn K (.ref fInt) = true)
    (aTerm : PySem.W.nsIn K mainGlobals "is_term" = some (some (.ref fTerm)))
    (lTerm : K.lookup fTerm = some ⟨ocTerm, odTerm, .func (PySem.W.fnOf "is_term" "is_term" (defArgs sTerm) (defBody sTerm) (defScope sTerm) .none kVTerm dcTerm pmTerm anTerm cdTerm ctTerm), slTerm⟩)
    (cTerm : PySem.W.codeIn K cdTerm "is_term" = true)
    (kTerm : PySem.W.keepIn K (.ref fTerm) = true)
    (aCond : PySem.W.nsIn K mainGlobals "is_condition" = some (some (.ref fCond)))
    (lCond : K.lookup fCond = some ⟨ocCond, odCond, .func (PySem.W.fnOf "is_condition" "is_condition" (defArgs sCond) (defBody sCond) (defScope sCond) .none kVCond dcCond pmCond anCond cdCond ctCond), slCond⟩)
    (cCond : PySem.W.codeIn K cdCond "is_condition" = true)
    (kCond : PySem.W.keepIn K (.ref fCond) = true)
    (aPart : PySem.W.nsIn K mainGlobals "is_part" = some (some (.ref fPart)))
    (lPart : K.lookup fPart = some ⟨ocPart, odPart, .func (PySem.W.fnOf "is_part" "is_part" (defArgs sPart) (defBody sPart) (defScope sPart) .none kVPart dcPart pmPart anPart cdPart ctPart), slPart⟩)
    (cPart : PySem.W.codeIn K cdPart "is_part" = true)
    (kPart : PySem.W.keepIn K (.ref fPart) = true)
    (aWord : PySem.W.nsIn K mainGlobals "word_of" = some (some (.ref fWord)))
    (lWord : K.lookup fWord = some ⟨ocWord, odWord, .func (PySem.W.fnOf "word_of" "word_of" (defArgs sWord) (defBody sWord) (defScope sWord) .none kVWord dcWord pmWord anWord cdWord ctWord), slWord⟩)
    (cWord : PySem.W.codeIn K cdWord "word_of" = true)
    (kWord : PySem.W.keepIn K (.ref fWord) = true)
    (aRoles : PySem.W.nsIn K mainGlobals "roles_of" = some (some (.ref fRoles)))
    (lRoles : K.lookup fRoles = some ⟨ocRoles, odRoles, .func (PySem.W.fnOf "roles_of" "roles_of" (defArgs sRoles) (defBody sRoles) (defScope sRoles) .none kVRoles dcRoles pmRoles anRoles cdRoles ctRoles), slRoles⟩)
    (cRoles : PySem.W.codeIn K cdRoles "roles_of" = true)
    (kRoles : PySem.W.keepIn K (.ref fRoles) = true)
    (aPlain : PySem.W.nsIn K mainGlobals "is_plain_statement" = some (some (.ref fPlain)))
    (lPlain : K.lookup fPlain = some ⟨ocPlain, odPlain, .func (PySem.W.fnOf "is_plain_statement" "is_plain_statement" (defArgs sPlain) (defBody sPlain) (defScope sPlain) .none kVPlain dcPlain pmPlain anPlain cdPlain ctPlain), slPlain⟩)
    (cPlain : PySem.W.codeIn K cdPlain "is_plain_statement" = true)
    (kPlain : PySem.W.keepIn K (.ref fPlain) = true)
    (aOut : PySem.W.nsIn K mainGlobals "is_outside_of_statement" = some (some (.ref fOut)))
    (lOut : K.lookup fOut = some ⟨ocOut, odOut, .func (PySem.W.fnOf "is_outside_of_statement" "is_outside_of_statement" (defArgs sOut) (defBody sOut) (defScope sOut) .none kVOut dcOut pmOut anOut cdOut ctOut), slOut⟩)
    (cOut : PySem.W.codeIn K cdOut "is_outside_of_statement" = true)
    (kOut : PySem.W.keepIn K (.ref fOut) = true)
    (aBodies : PySem.W.nsIn K mainGlobals "bodies_of" = some (some (.ref fBodies)))
    (lBodies : K.lookup fBodies = some ⟨ocBodies, odBodies, .func (PySem.W.fnOf "bodies_of" "bodies_of" (defArgs sBodies) (defBody sBodies) (defScope sBodies) .none kVBodies dcBodies pmBodies anBodies cdBodies ctBodies), slBodies⟩)
    (cBodies : PySem.W.codeIn K cdBodies "bodies_of" = true)
    (kBodies : PySem.W.keepIn K (.ref fBodies) = true)
    (aProg : PySem.W.nsIn K mainGlobals "is_program" = some (some (.ref fProg)))
    (lProg : K.lookup fProg = some ⟨ocProg, odProg, .func (PySem.W.fnOf "is_program" "is_program" (defArgs sProg) (defBody sProg) (defScope sProg) .none kVProg dcProg pmProg anProg cdProg ctProg), slProg⟩)
    (cProg : PySem.W.codeIn K cdProg "is_program" = true)
    (kProg : PySem.W.keepIn K (.ref fProg) = true)
    (aShow : PySem.W.nsIn K mainGlobals "show" = some (some (.ref fShow)))
    (lShow : K.lookup fShow = some ⟨ocShow, odShow, .func (PySem.W.fnOf "show" "show" (defArgs sShow) (defBody sShow) (defScope sShow) .none kVShow dcShow pmShow anShow cdShow ctShow), slShow⟩)
    (cShow : PySem.W.codeIn K cdShow "show" = true)
    (kShow : PySem.W.keepIn K (.ref fShow) = true)
    (aBL : PySem.W.nsIn K mainGlobals "body_lines" = some (some (.ref fBL)))
    (lBL : K.lookup fBL = some ⟨ocBL, odBL, .func (PySem.W.fnOf "body_lines" "body_lines" (defArgs sBL) (defBody sBL) (defScope sBL) .none kVBL dcBL pmBL anBL cdBL ctBL), slBL⟩)
    (cBL : PySem.W.codeIn K cdBL "body_lines" = true)
    (kBL : PySem.W.keepIn K (.ref fBL) = true)
    (aSL : PySem.W.nsIn K mainGlobals "statement_lines" = some (some (.ref fSL)))
    (lSL : K.lookup fSL = some ⟨ocSL, odSL, .func (PySem.W.fnOf "statement_lines" "statement_lines" (defArgs sSL) (defBody sSL) (defScope sSL) .none kVSL dcSL pmSL anSL cdSL ctSL), slSL⟩)
    (cSL : PySem.W.codeIn K cdSL "statement_lines" = true)
    (kSL : PySem.W.keepIn K (.ref fSL) = true)
    (aPL : PySem.W.nsIn K mainGlobals "plain_line" = some (some (.ref fPL)))
    (lPL : K.lookup fPL = some ⟨ocPL, odPL, .func (PySem.W.fnOf "plain_line" "plain_line" (defArgs sPL) (defBody sPL) (defScope sPL) .none kVPL dcPL pmPL anPL cdPL ctPL), slPL⟩)
    (cPL : PySem.W.codeIn K cdPL "plain_line" = true)
    (kPL : PySem.W.keepIn K (.ref fPL) = true)
    (aJn : PySem.W.nsIn K mainGlobals "joined" = some (some (.ref fJn)))
    (lJn : K.lookup fJn = some ⟨ocJn, odJn, .func (PySem.W.fnOf "joined" "joined" (defArgs sJn) (defBody sJn) (defScope sJn) .none kVJn dcJn pmJn anJn cdJn ctJn), slJn⟩)
    (cJn : PySem.W.codeIn K cdJn "joined" = true)
    (kJn : PySem.W.keepIn K (.ref fJn) = true)
    (aDec : PySem.W.nsIn K mainGlobals "is_decimal" = some (some (.ref fDec)))
    (lDec : K.lookup fDec = some ⟨ocDec, odDec, .func (PySem.W.fnOf "is_decimal" "is_decimal" (defArgs sDec) (defBody sDec) (defScope sDec) .none kVDec dcDec pmDec anDec cdDec ctDec), slDec⟩)
    (cDec : PySem.W.codeIn K cdDec "is_decimal" = true)
    (kDec : PySem.W.keepIn K (.ref fDec) = true)
    (aNW : PySem.W.nsIn K mainGlobals "number_or_word" = some (some (.ref fNW)))
    (lNW : K.lookup fNW = some ⟨ocNW, odNW, .func (PySem.W.fnOf "number_or_word" "number_or_word" (defArgs sNW) (defBody sNW) (defScope sNW) .none kVNW dcNW pmNW anNW cdNW ctNW), slNW⟩)
    (cNW : PySem.W.codeIn K cdNW "number_or_word" = true)
    (kNW : PySem.W.keepIn K (.ref fNW) = true)
    (aAP : PySem.W.nsIn K mainGlobals "ask_parts" = some (some (.ref fAP)))
    (lAP : K.lookup fAP = some ⟨ocAP, odAP, .func (PySem.W.fnOf "ask_parts" "ask_parts" (defArgs sAP) (defBody sAP) (defScope sAP) .none kVAP dcAP pmAP anAP cdAP ctAP), slAP⟩)
    (cAP : PySem.W.codeIn K cdAP "ask_parts" = true)
    (kAP : PySem.W.keepIn K (.ref fAP) = true)
    (aLP : PySem.W.nsIn K mainGlobals "line_parts" = some (some (.ref fLP)))
    (lLP : K.lookup fLP = some ⟨ocLP, odLP, .func (PySem.W.fnOf "line_parts" "line_parts" (defArgs sLP) (defBody sLP) (defScope sLP) .none kVLP dcLP pmLP anLP cdLP ctLP), slLP⟩)
    (cLP : PySem.W.codeIn K cdLP "line_parts" = true)
    (kLP : PySem.W.keepIn K (.ref fLP) = true)
    (aOpn : PySem.W.nsIn K mainGlobals "is_opening" = some (some (.ref fOpn)))
    (lOpn : K.lookup fOpn = some ⟨ocOpn, odOpn, .func (PySem.W.fnOf "is_opening" "is_opening" (defArgs sOpn) (defBody sOpn) (defScope sOpn) .none kVOpn dcOpn pmOpn anOpn cdOpn ctOpn), slOpn⟩)
    (cOpn : PySem.W.codeIn K cdOpn "is_opening" = true)
    (kOpn : PySem.W.keepIn K (.ref fOpn) = true)
    (aRead : PySem.W.nsIn K mainGlobals "read" = some (some (.ref fRead)))
    (lRead : K.lookup fRead = some ⟨ocRead, odRead, .func (PySem.W.fnOf "read" "read" (defArgs sRead) (defBody sRead) (defScope sRead) .none kVRead dcRead pmRead anRead cdRead ctRead), slRead⟩)
    (cRead : PySem.W.codeIn K cdRead "read" = true)
    (kRead : PySem.W.keepIn K (.ref fRead) = true)
    (aBag : PySem.W.nsIn K mainGlobals "_law_bag" = some (some (.ref fBag)))
    (lBag : K.lookup fBag = some ⟨ocBag, odBag, .func (PySem.W.fnOf "_law_bag" "_law_bag" (defArgs sBag) (defBody sBag) (defScope sBag) .none kVBag dcBag pmBag anBag cdBag ctBag), slBag⟩)
    (cBag : PySem.W.codeIn K cdBag "_law_bag" = true)
    (kBag : PySem.W.keepIn K (.ref fBag) = true)
    (aDraw : PySem.W.nsIn K mainGlobals "_law_draw" = some (some (.ref fDraw)))
    (lDraw : K.lookup fDraw = some ⟨ocDraw, odDraw, .func (PySem.W.fnOf "_law_draw" "_law_draw" (defArgs sDraw) (defBody sDraw) (defScope sDraw) .none kVDraw dcDraw pmDraw anDraw cdDraw ctDraw), slDraw⟩)
    (cDraw : PySem.W.codeIn K cdDraw "_law_draw" = true)
    (kDraw : PySem.W.keepIn K (.ref fDraw) = true)
    (aLarge : PySem.W.nsIn K mainGlobals "_law_large" = some (some (.ref fLarge)))
    (lLarge : K.lookup fLarge = some ⟨ocLarge, odLarge, .func (PySem.W.fnOf "_law_large" "_law_large" (defArgs sLarge) (defBody sLarge) (defScope sLarge) .none kVLarge dcLarge pmLarge anLarge cdLarge ctLarge), slLarge⟩)
    (cLarge : PySem.W.codeIn K cdLarge "_law_large" = true)
    (kLarge : PySem.W.keepIn K (.ref fLarge) = true)
    (aSteps : PySem.W.nsIn K mainGlobals "_law_steps" = some (some (.ref fSteps)))
    (lSteps : K.lookup fSteps = some ⟨ocSteps, odSteps, .func (PySem.W.fnOf "_law_steps" "_law_steps" (defArgs sSteps) (defBody sSteps) (defScope sSteps) .none kVSteps dcSteps pmSteps anSteps cdSteps ctSteps), slSteps⟩)
    (cSteps : PySem.W.codeIn K cdSteps "_law_steps" = true)
    (kSteps : PySem.W.keepIn K (.ref fSteps) = true)
    (aTermL : PySem.W.nsIn K mainGlobals "_law_term" = some (some (.ref fTermL)))
    (lTermL : K.lookup fTermL = some ⟨ocTermL, odTermL, .func (PySem.W.fnOf "_law_term" "_law_term" (defArgs sTermL) (defBody sTermL) (defScope sTermL) .none kVTermL dcTermL pmTermL anTermL cdTermL ctTermL), slTermL⟩)
    (cTermL : PySem.W.codeIn K cdTermL "_law_term" = true)
    (kTermL : PySem.W.keepIn K (.ref fTermL) = true)
    (aCondL : PySem.W.nsIn K mainGlobals "_law_condition" = some (some (.ref fCondL)))
    (lCondL : K.lookup fCondL = some ⟨ocCondL, odCondL, .func (PySem.W.fnOf "_law_condition" "_law_condition" (defArgs sCondL) (defBody sCondL) (defScope sCondL) .none kVCondL dcCondL pmCondL anCondL cdCondL ctCondL), slCondL⟩)
    (cCondL : PySem.W.codeIn K cdCondL "_law_condition" = true)
    (kCondL : PySem.W.keepIn K (.ref fCondL) = true)
    (aSimple : PySem.W.nsIn K mainGlobals "_law_simple" = some (some (.ref fSimple)))
    (lSimple : K.lookup fSimple = some ⟨ocSimple, odSimple, .func (PySem.W.fnOf "_law_simple" "_law_simple" (defArgs sSimple) (defBody sSimple) (defScope sSimple) .none kVSimple dcSimple pmSimple anSimple cdSimple ctSimple), slSimple⟩)
    (cSimple : PySem.W.codeIn K cdSimple "_law_simple" = true)
    (kSimple : PySem.W.keepIn K (.ref fSimple) = true)
    (aKind : PySem.W.nsIn K mainGlobals "_law_kind" = some (some (.ref fKind)))
    (lKind : K.lookup fKind = some ⟨ocKind, odKind, .func (PySem.W.fnOf "_law_kind" "_law_kind" (defArgs sKind) (defBody sKind) (defScope sKind) .none kVKind dcKind pmKind anKind cdKind ctKind), slKind⟩)
    (cKind : PySem.W.codeIn K cdKind "_law_kind" = true)
    (kKind : PySem.W.keepIn K (.ref fKind) = true)
    (aStmt : PySem.W.nsIn K mainGlobals "_law_statement" = some (some (.ref fStmt)))
    (lStmt : K.lookup fStmt = some ⟨ocStmt, odStmt, .func (PySem.W.fnOf "_law_statement" "_law_statement" (defArgs sStmt) (defBody sStmt) (defScope sStmt) .none kVStmt dcStmt pmStmt anStmt cdStmt ctStmt), slStmt⟩)
    (cStmt : PySem.W.codeIn K cdStmt "_law_statement" = true)
    (kStmt : PySem.W.keepIn K (.ref fStmt) = true)
    (aBody : PySem.W.nsIn K mainGlobals "_law_body" = some (some (.ref fBody)))
    (lBody : K.lookup fBody = some ⟨ocBody, odBody, .func (PySem.W.fnOf "_law_body" "_law_body" (defArgs sBody) (defBody sBody) (defScope sBody) .none kVBody dcBody pmBody anBody cdBody ctBody), slBody⟩)
    (cBody : PySem.W.codeIn K cdBody "_law_body" = true)
    (kBody : PySem.W.keepIn K (.ref fBody) = true)
    (aProgL : PySem.W.nsIn K mainGlobals "_law_program" = some (some (.ref fProgL)))
    (lProgL : K.lookup fProgL = some ⟨ocProgL, odProgL, .func (PySem.W.fnOf "_law_program" "_law_program" (defArgs sProgL) (defBody sProgL) (defScope sProgL) .none kVProgL dcProgL pmProgL anProgL cdProgL ctProgL), slProgL⟩)
    (cProgL : PySem.W.codeIn K cdProgL "_law_program" = true)
    (kProgL : PySem.W.keepIn K (.ref fProgL) = true)
    (aWhole : PySem.W.nsIn K mainGlobals "_law_whole" = some (some (.ref fWhole)))
    (lWhole : K.lookup fWhole = some ⟨ocWhole, odWhole, .func (PySem.W.fnOf "_law_whole" "_law_whole" (defArgs sWhole) (defBody sWhole) (defScope sWhole) .none kVWhole dcWhole pmWhole anWhole cdWhole ctWhole), slWhole⟩)
    (cWhole : PySem.W.codeIn K cdWhole "_law_whole" = true)
    (kWhole : PySem.W.keepIn K (.ref fWhole) = true)
    (aLL : PySem.W.nsIn K mainGlobals "_law_lines" = some (some (.ref fLL)))
    (lLL : K.lookup fLL = some ⟨ocLL, odLL, .func (PySem.W.fnOf "_law_lines" "_law_lines" (defArgs sLL) (defBody sLL) (defScope sLL) .none kVLL dcLL pmLL anLL cdLL ctLL), slLL⟩)
    (cLL : PySem.W.codeIn K cdLL "_law_lines" = true)
    (kLL : PySem.W.keepIn K (.ref fLL) = true)
    (aText : PySem.W.nsIn K mainGlobals "_law_text" = some (some (.ref fText)))
    (lText : K.lookup fText = some ⟨ocText, odText, .func (PySem.W.fnOf "_law_text" "_law_text" (defArgs sText) (defBody sText) (defScope sText) .none kVText dcText pmText anText cdText ctText), slText⟩)
    (cText : PySem.W.codeIn K cdText "_law_text" = true)
    (kText : PySem.W.keepIn K (.ref fText) = true)
    (aPln : PySem.W.nsIn K mainGlobals "_law_plain" = some (some (.ref fPln)))
    (lPln : K.lookup fPln = some ⟨ocPln, odPln, .func (PySem.W.fnOf "_law_plain" "_law_plain" (defArgs sPln) (defBody sPln) (defScope sPln) .none kVPln dcPln pmPln anPln cdPln ctPln), slPln⟩)
    (cPln : PySem.W.codeIn K cdPln "_law_plain" = true)
    (kPln : PySem.W.keepIn K (.ref fPln) = true)
    (aLaw : PySem.W.nsIn K mainGlobals "law" = some (some (.ref fLaw)))
    (lLaw : K.lookup fLaw = some ⟨ocLaw, odLaw, .func (PySem.W.fnOf "law" "law" (defArgs sLaw) (defBody sLaw) (defScope sLaw) .none kVLaw dcLaw pmLaw anLaw cdLaw ctLaw), slLaw⟩)
    (cLaw : PySem.W.codeIn K cdLaw "law" = true)
    (kLaw : PySem.W.keepIn K (.ref fLaw) = true)
    (zisinstance : PySem.W.nsIn K mainGlobals "isinstance" = some none)
    (zint : PySem.W.nsIn K mainGlobals "int" = some none)
    (zbool : PySem.W.nsIn K mainGlobals "bool" = some none)
    (zstr : PySem.W.nsIn K mainGlobals "str" = some none)
    (ztuple : PySem.W.nsIn K mainGlobals "tuple" = some none)
    (zlen : PySem.W.nsIn K mainGlobals "len" = some none)
    (zzip : PySem.W.nsIn K mainGlobals "zip" = some none)
    (zall : PySem.W.nsIn K mainGlobals "all" = some none)
    (zabs : PySem.W.nsIn K mainGlobals "abs" = some none)
    (zmax : PySem.W.nsIn K mainGlobals "max" = some none)
    (zmin : PySem.W.nsIn K mainGlobals "min" = some none)
    (zrange : PySem.W.nsIn K mainGlobals "range" = some none)
    (zenumerate : PySem.W.nsIn K mainGlobals "enumerate" = some none)
    (gG : PySem.W.nsIn K mainGlobals "GREATEST_VALUE" = some (some (.int 15 tG)))
    (gL : PySem.W.nsIn K mainGlobals "LONGEST_WAIT" = some (some (.int longest tL)))
    (gS : PySem.W.nsIn K mainGlobals "MOST_STATEMENTS" = some (some (.int 24 tS)))
    (gD : PySem.W.nsIn K mainGlobals "MOST_DEPTH" = some (some (.int 4 tD)))
    (mV : PySem.W.nsIn K mainGlobals "VARIABLES" = some (some (.ref aV)))
    (qV : K.lookup aV = some ⟨.type "tuple", odV, .seq #[.str "a" tV0, .str "b" tV1] nV, slV⟩)
    (mC : PySem.W.nsIn K mainGlobals "CONDITION_SIGNS" = some (some (.ref aC)))
    (qC : K.lookup aC = some ⟨.type "tuple", odC, .seq #[.str "==" tC0, .str "!=" tC1, .str "<" tC2] nC, slC⟩)
    (mA : PySem.W.nsIn K mainGlobals "ASK_SIGNS" = some (some (.ref aA)))
    (qA : K.lookup aA = some ⟨.type "tuple", odA, .seq #[.str "+" tA0, .str "-" tA1, .str "=" tA2] nA, slA⟩)
    (mK : PySem.W.nsIn K mainGlobals "KINDS" = some (some (.ref aK)))
    (qK : K.lookup aK = some ⟨.type "tuple", odK, .seq #[.str "teller" tK0, .str "collector" tK1] nK, slK⟩)
    (mB : PySem.W.nsIn K mainGlobals "BODIES" = some (some (.ref aB)))
    (qB : K.lookup aB = some ⟨.type "dict", none, .dict #[⟨hB0, .str "if" tB0, .int 2 tB2⟩, ⟨hB1, .str "while" tB1, .int 1 tB3⟩] nB, #[]⟩)
    (yB : PySem.W.KeysLit w.params (#[⟨hB0, .str "if" tB0, .int 2 tB2⟩, ⟨hB1, .str "while" tB1, .int 1 tB3⟩] : Array DictEntry).toList)
    (wB : (aB == sysModules) = false)
    (mSh : PySem.W.nsIn K mainGlobals "SHARED_ROLES" = some (some (.ref aSh)))
    (qSh : K.lookup aSh = some ⟨.type "dict", none, .dict #[⟨hSh0, .str "set" tSh0, .ref aSh0⟩, ⟨hSh1, .str "add" tSh1, .ref aSh1⟩, ⟨hSh2, .str "wait" tSh2, .ref aSh2⟩] nSh, #[]⟩)
    (ySh : PySem.W.KeysLit w.params (#[⟨hSh0, .str "set" tSh0, .ref aSh0⟩, ⟨hSh1, .str "add" tSh1, .ref aSh1⟩, ⟨hSh2, .str "wait" tSh2, .ref aSh2⟩] : Array DictEntry).toList)
    (wSh : (aSh == sysModules) = false)
    (qSh0 : K.lookup aSh0 = some ⟨.type "tuple", odSh0, .seq #[.str "variable" tSh00, .str "value" tSh01] nSh0, slSh0⟩)
    (qSh1 : K.lookup aSh1 = some ⟨.type "tuple", odSh1, .seq #[.str "variable" tSh10, .str "term" tSh11] nSh1, slSh1⟩)
    (qSh2 : K.lookup aSh2 = some ⟨.type "tuple", odSh2, .seq #[.str "steps" tSh20] nSh2, slSh2⟩)
    (mTe : PySem.W.nsIn K mainGlobals "TELLER_ROLES" = some (some (.ref aTe)))
    (qTe : K.lookup aTe = some ⟨.type "dict", none, .dict #[⟨hTe0, .str "ask" tTe0, .ref aTe0⟩, ⟨hTe1, .str "answer" tTe1, .ref aTe1⟩] nTe, #[]⟩)
    (yTe : PySem.W.KeysLit w.params (#[⟨hTe0, .str "ask" tTe0, .ref aTe0⟩, ⟨hTe1, .str "answer" tTe1, .ref aTe1⟩] : Array DictEntry).toList)
    (wTe : (aTe == sysModules) = false)
    (qTe0 : K.lookup aTe0 = some ⟨.type "tuple", odTe0, .seq #[.str "sign" tTe00, .str "term" tTe01, .str "variable" tTe02] nTe0, slTe0⟩)
    (qTe1 : K.lookup aTe1 = some ⟨.type "tuple", odTe1, .seq #[.str "answer" tTe10] nTe1, slTe1⟩)
    (mCo : PySem.W.nsIn K mainGlobals "COLLECTOR_ROLES" = some (some (.ref aCo)))
    (qCo : K.lookup aCo = some ⟨.type "dict", none, .dict #[⟨hCo0, .str "grow" tCo0, .ref aCo0⟩, ⟨hCo1, .str "list" tCo1, .ref aCo1⟩] nCo, #[]⟩)
    (yCo : PySem.W.KeysLit w.params (#[⟨hCo0, .str "grow" tCo0, .ref aCo0⟩, ⟨hCo1, .str "list" tCo1, .ref aCo1⟩] : Array DictEntry).toList)
    (wCo : (aCo == sysModules) = false)
    (qCo0 : K.lookup aCo0 = some ⟨.type "tuple", odCo0, .seq #[.str "term" tCo00] nCo0, slCo0⟩)
    (qCo1 : K.lookup aCo1 = some ⟨.type "tuple", odCo1, .seq #[.str "term" tCo10] nCo1, slCo1⟩)
    (ucB : PySem.W.nsIn K mainGlobals "Block" = some (some (.ref cB)))
    (ucD : PySem.W.nsIn K mainGlobals "Reader" = some (some (.ref cD)))
    (aMB : PySem.W.findIn K (.ref cB) "may_branch" = some (some (.ref fMB)))
    (iMB : PySem.W.isFn K (.ref fMB) = true)
    (lMB : K.lookup fMB = some ⟨ocMB, odMB, .func (PySem.W.fnOf "may_branch" "Block.may_branch" (defArgs sMB) (defBody sMB) (defScope sMB) .none kVMB dcMB pmMB anMB cdMB ctMB), slMB⟩)
    (cMB : PySem.W.codeIn K cdMB "Block.may_branch" = true)
    (kMB : PySem.W.keepIn K (.ref fMB) = true)
    (aME : PySem.W.findIn K (.ref cB) "may_end" = some (some (.ref fME)))
    (iME : PySem.W.isFn K (.ref fME) = true)
    (lME : K.lookup fME = some ⟨ocME, odME, .func (PySem.W.fnOf "may_end" "Block.may_end" (defArgs sME) (defBody sME) (defScope sME) .none kVME dcME pmME anME cdME ctME), slME⟩)
    (cME : PySem.W.codeIn K cdME "Block.may_end" = true)
    (kME : PySem.W.keepIn K (.ref fME) = true)
    (aAS : PySem.W.findIn K (.ref cB) "as_statement" = some (some (.ref fAS)))
    (iAS : PySem.W.isFn K (.ref fAS) = true)
    (lAS : K.lookup fAS = some ⟨ocAS, odAS, .func (PySem.W.fnOf "as_statement" "Block.as_statement" (defArgs sAS) (defBody sAS) (defScope sAS) .none kVAS dcAS pmAS anAS cdAS ctAS), slAS⟩)
    (cAS : PySem.W.codeIn K cdAS "Block.as_statement" = true)
    (kAS : PySem.W.keepIn K (.ref fAS) = true)
    (aBI : PySem.W.findIn K (.ref cB) "__init__" = some (some (.ref fBI)))
    (iBI : PySem.W.isFn K (.ref fBI) = true)
    (lBI : K.lookup fBI = some ⟨ocBI, odBI, .func (PySem.W.fnOf "__init__" "Block.__init__" (defArgs sBI) (defBody sBI) (defScope sBI) .none kVBI dcBI pmBI anBI cdBI ctBI), slBI⟩)
    (cBI : PySem.W.codeIn K cdBI "Block.__init__" = true)
    (kBI : PySem.W.keepIn K (.ref fBI) = true)
    (aDH : PySem.W.findIn K (.ref cD) "has_room" = some (some (.ref fDH)))
    (iDH : PySem.W.isFn K (.ref fDH) = true)
    (lDH : K.lookup fDH = some ⟨ocDH, odDH, .func (PySem.W.fnOf "has_room" "Reader.has_room" (defArgs sDH) (defBody sDH) (defScope sDH) .none kVDH dcDH pmDH anDH cdDH ctDH), slDH⟩)
    (cDH : PySem.W.codeIn K cdDH "Reader.has_room" = true)
    (kDH : PySem.W.keepIn K (.ref fDH) = true)
    (aDC : PySem.W.findIn K (.ref cD) "is_complete" = some (some (.ref fDC)))
    (iDC : PySem.W.isFn K (.ref fDC) = true)
    (lDC : K.lookup fDC = some ⟨ocDC, odDC, .func (PySem.W.fnOf "is_complete" "Reader.is_complete" (defArgs sDC) (defBody sDC) (defScope sDC) .none kVDC dcDC pmDC anDC cdDC ctDC), slDC⟩)
    (cDC : PySem.W.codeIn K cdDC "Reader.is_complete" = true)
    (kDC : PySem.W.keepIn K (.ref fDC) = true)
    (aDP : PySem.W.findIn K (.ref cD) "as_program" = some (some (.ref fDP)))
    (iDP : PySem.W.isFn K (.ref fDP) = true)
    (lDP : K.lookup fDP = some ⟨ocDP, odDP, .func (PySem.W.fnOf "as_program" "Reader.as_program" (defArgs sDP) (defBody sDP) (defScope sDP) .none kVDP dcDP pmDP anDP cdDP ctDP), slDP⟩)
    (cDP : PySem.W.codeIn K cdDP "Reader.as_program" = true)
    (kDP : PySem.W.keepIn K (.ref fDP) = true)
    (aDA : PySem.W.findIn K (.ref cD) "allows" = some (some (.ref fDA)))
    (iDA : PySem.W.isFn K (.ref fDA) = true)
    (lDA : K.lookup fDA = some ⟨ocDA, odDA, .func (PySem.W.fnOf "allows" "Reader.allows" (defArgs sDA) (defBody sDA) (defScope sDA) .none kVDA dcDA pmDA anDA cdDA ctDA), slDA⟩)
    (cDA : PySem.W.codeIn K cdDA "Reader.allows" = true)
    (kDA : PySem.W.keepIn K (.ref fDA) = true)
    (aDT : PySem.W.findIn K (.ref cD) "take" = some (some (.ref fDT)))
    (iDT : PySem.W.isFn K (.ref fDT) = true)
    (lDT : K.lookup fDT = some ⟨ocDT, odDT, .func (PySem.W.fnOf "take" "Reader.take" (defArgs sDT) (defBody sDT) (defScope sDT) .none kVDT dcDT pmDT anDT cdDT ctDT), slDT⟩)
    (cDT : PySem.W.codeIn K cdDT "Reader.take" = true)
    (kDT : PySem.W.keepIn K (.ref fDT) = true)
    (aDI : PySem.W.findIn K (.ref cD) "__init__" = some (some (.ref fDI)))
    (iDI : PySem.W.isFn K (.ref fDI) = true)
    (lDI : K.lookup fDI = some ⟨ocDI, odDI, .func (PySem.W.fnOf "__init__" "Reader.__init__" (defArgs sDI) (defBody sDI) (defScope sDI) .none kVDI dcDI pmDI anDI cdDI ctDI), slDI⟩)
    (cDI : PySem.W.codeIn K cdDI "Reader.__init__" = true)
    (kDI : PySem.W.keepIn K (.ref fDI) = true)
    (pgB : PySem.W.plainGet K cB Str.empty = true)
    (hdB : PySem.W.hasDictIn K cB = true)
    (poB : PySem.W.plainOver K cB = true)
    (saB : PySem.W.findIn K (.ref cB) "__setattr__" = some (some (.builtin "object.__setattr__")))
    (mkB : PySem.W.makesIn K cB = true)
    (kcB : PySem.W.keepIn K (.ref cB) = true)
    (nB_word : PySem.W.findIn K (.ref cB) "word" = some none)
    (nB_condition : PySem.W.findIn K (.ref cB) "condition" = some none)
    (nB_bodies : PySem.W.findIn K (.ref cB) "bodies" = some none)
    (pgD : PySem.W.plainGet K cD Str.empty = true)
    (hdD : PySem.W.hasDictIn K cD = true)
    (poD : PySem.W.plainOver K cD = true)
    (saD : PySem.W.findIn K (.ref cD) "__setattr__" = some (some (.builtin "object.__setattr__")))
    (mkD : PySem.W.makesIn K cD = true)
    (kcD : PySem.W.keepIn K (.ref cD) = true)
    (nD_kind : PySem.W.findIn K (.ref cD) "kind" = some none)
    (nD_many : PySem.W.findIn K (.ref cD) "many" = some none)
    (nD_blocks : PySem.W.findIn K (.ref cD) "blocks" = some none)
    : ∃ fd : FuncData, (∀ (s : Shared) (v : Value), BindsTo s fd ⟨[v], []⟩ [("_law_script", v)]) ∧ ∀ base : Heap, K.In base → base.Ns mainGlobals mg → FnOk l.prog w K mg base CX0 15 fa fd ["_law_script"] (spLaw K) := by
  have e := hfa.symm.trans (PySem.W.mg_of X G aLaw)
  cases e
  have FFrom := fun_mk (st := sFrom) lFrom cFrom kFrom
  have bFrom := FFrom.binds (ps := ["thing", "least"]) fun _ _ _ _ _ _ us hl => match us, hl with | [_, _], _ => rfl
  have FInt := fun_mk (st := sInt) lInt cInt kInt
  have bInt := FInt.binds (ps := ["thing", "least", "greatest"]) fun _ _ _ _ _ _ us hl => match us, hl with | [_, _, _], _ => rfl
  have FTerm := fun_mk (st := sTerm) lTerm cTerm kTerm
  have bTerm := FTerm.binds (ps := ["thing"]) fun _ _ _ _ _ _ us hl => match us, hl with | [_], _ => rfl
  have FCond := fun_mk (st := sCond) lCond cCond kCond
  have bCond := FCond.binds (ps := ["thing"]) fun _ _ _ _ _ _ us hl => match us, hl with | [_], _ => rfl
  have FPart := fun_mk (st := sPart) lPart cPart kPart
  have bPart := FPart.binds (ps := ["thing", "role"]) fun _ _ _ _ _ _ us hl => match us, hl with | [_, _], _ => rfl
  have FWord := fun_mk (st := sWord) lWord cWord kWord
  have bWord := FWord.binds (ps := ["thing"]) fun _ _ _ _ _ _ us hl => match us, hl with | [_], _ => rfl
  have FRoles := fun_mk (st := sRoles) lRoles cRoles kRoles
  have bRoles := FRoles.binds (ps := ["word", "kind"]) fun _ _ _ _ _ _ us hl => match us, hl with | [_, _], _ => rfl
  have FPlain := fun_mk (st := sPlain) lPlain cPlain kPlain
  have bPlain := FPlain.binds (ps := ["thing", "kind"]) fun _ _ _ _ _ _ us hl => match us, hl with | [_, _], _ => rfl
  have FOut := fun_mk (st := sOut) lOut cOut kOut
  have bOut := FOut.binds (ps := ["thing", "kind"]) fun _ _ _ _ _ _ us hl => match us, hl with | [_, _], _ => rfl
  have FBodies := fun_mk (st := sBodies) lBodies cBodies kBodies
  have bBodies := FBodies.binds (ps := ["statement"]) fun _ _ _ _ _ _ us hl => match us, hl with | [_], _ => rfl
  have FProg := fun_mk (st := sProg) lProg cProg kProg
  have bProg := FProg.binds (ps := ["thing"]) fun _ _ _ _ _ _ us hl => match us, hl with | [_], _ => rfl
  have FShow := fun_mk (st := sShow) lShow cShow kShow
  have bShow := FShow.binds (ps := ["program"]) fun _ _ _ _ _ _ us hl => match us, hl with | [_], _ => rfl
  have FBL := fun_mk (st := sBL) lBL cBL kBL
  have bBL := FBL.binds (ps := ["body"]) fun _ _ _ _ _ _ us hl => match us, hl with | [_], _ => rfl
  have FSL := fun_mk (st := sSL) lSL cSL kSL
  have bSL := FSL.binds (ps := ["statement"]) fun _ _ _ _ _ _ us hl => match us, hl with | [_], _ => rfl
  have FPL := fun_mk (st := sPL) lPL cPL kPL
  have bPL := FPL.binds (ps := ["statement"]) fun _ _ _ _ _ _ us hl => match us, hl with | [_], _ => rfl
  have FJn := fun_mk (st := sJn) lJn cJn kJn
  have bJn := FJn.binds (ps := ["parts"]) fun _ _ _ _ _ _ us hl => match us, hl with | [_], _ => rfl
  have FDec := fun_mk (st := sDec) lDec cDec kDec
  have bDec := FDec.binds (ps := ["word", "most"]) fun _ _ _ _ _ _ us hl => match us, hl with | [_, _], _ => rfl
  have FNW := fun_mk (st := sNW) lNW cNW kNW
  have bNW := FNW.binds (ps := ["word"]) fun _ _ _ _ _ _ us hl => match us, hl with | [_], _ => rfl
  have FAP := fun_mk (st := sAP) lAP cAP kAP
  have bAP := FAP.binds (ps := ["words"]) fun _ _ _ _ _ _ us hl => match us, hl with | [_], _ => rfl
  have FLP := fun_mk (st := sLP) lLP cLP kLP
  have bLP := FLP.binds (ps := ["line"]) fun _ _ _ _ _ _ us hl => match us, hl with | [_], _ => rfl
  have FOpn := fun_mk (st := sOpn) lOpn cOpn kOpn
  have bOpn := FOpn.binds (ps := ["parts"]) fun _ _ _ _ _ _ us hl => match us, hl with | [_], _ => rfl
  have FRead := fun_mk (st := sRead) lRead cRead kRead
  have bRead := FRead.binds (ps := ["text"]) fun _ _ _ _ _ _ us hl => match us, hl with | [_], _ => rfl
  have FBag := fun_mk (st := sBag) lBag cBag kBag
  have bBag := FBag.binds (ps := ["_law_script", "_law_k"]) fun _ _ _ _ _ _ us hl => match us, hl with | [_, _], _ => rfl
  have FDraw := fun_mk (st := sDraw) lDraw cDraw kDraw
  have bDraw := FDraw.binds (ps := ["_law_bag_here", "_law_many"]) fun _ _ _ _ _ _ us hl => match us, hl with | [_, _], _ => rfl
  have FLarge := fun_mk (st := sLarge) lLarge cLarge kLarge
  have bLarge := FLarge.binds (ps := ["_law_bag_here", "_law_many"]) fun _ _ _ _ _ _ us hl => match us, hl with | [_, _], _ => rfl
  have FSteps := fun_mk (st := sSteps) lSteps cSteps kSteps
  have bSteps := FSteps.binds (ps := ["_law_bag_here"]) fun _ _ _ _ _ _ us hl => match us, hl with | [_], _ => rfl
  have FTermL := fun_mk (st := sTermL) lTermL cTermL kTermL
  have bTermL := FTermL.binds (ps := ["_law_bag_here"]) fun _ _ _ _ _ _ us hl => match us, hl with | [_], _ => rfl
  have FCondL := fun_mk (st := sCondL) lCondL cCondL kCondL
  have bCondL := FCondL.binds (ps := ["_law_bag_here"]) fun _ _ _ _ _ _ us hl => match us, hl with | [_], _ => rfl
  have FSimple := fun_mk (st := sSimple) lSimple cSimple kSimple
  have bSimple := FSimple.binds (ps := ["_law_bag_here", "_law_kind_here"]) fun _ _ _ _ _ _ us hl => match us, hl with | [_, _], _ => rfl
  have FKind := fun_mk (st := sKind) lKind cKind kKind
  have bKind := FKind.binds (ps := ["_law_bag_here"]) fun _ _ _ _ _ _ us hl => match us, hl with | [_], _ => rfl
  have FStmt := fun_mk (st := sStmt) lStmt cStmt kStmt
  have bStmt := FStmt.binds (ps := ["_law_bag_here", "_law_kind_here", "_law_room", "_law_depth"]) fun _ _ _ _ _ _ us hl => match us, hl with | [_, _, _, _], _ => rfl
  have FBody := fun_mk (st := sBody) lBody cBody kBody
  have bBody := FBody.binds (ps := ["_law_bag_here", "_law_kind_here", "_law_room", "_law_depth", "_law_most"]) fun _ _ _ _ _ _ us hl => match us, hl with | [_, _, _, _, _], _ => rfl
  have FProgL := fun_mk (st := sProgL) lProgL cProgL kProgL
  have bProgL := FProgL.binds (ps := ["_law_bag_here", "_law_kind_here", "_law_most"]) fun _ _ _ _ _ _ us hl => match us, hl with | [_, _, _], _ => rfl
  have FWhole := fun_mk (st := sWhole) lWhole cWhole kWhole
  have bWhole := FWhole.binds (ps := ["_law_thing"]) fun _ _ _ _ _ _ us hl => match us, hl with | [_], _ => rfl
  have FLL := fun_mk (st := sLL) lLL cLL kLL
  have bLL := FLL.binds (ps := ["_law_body_here"]) fun _ _ _ _ _ _ us hl => match us, hl with | [_], _ => rfl
  have FText := fun_mk (st := sText) lText cText kText
  have bText := FText.binds (ps := ["_law_program_here"]) fun _ _ _ _ _ _ us hl => match us, hl with | [_], _ => rfl
  have FPln := fun_mk (st := sPln) lPln cPln kPln
  have bPln := FPln.binds (ps := ["_law_thing"]) fun _ _ _ _ _ _ us hl => match us, hl with | [_], _ => rfl
  have FLaw := fun_mk (st := sLaw) lLaw cLaw kLaw
  let T : Gs K mg := ⟨PySem.W.mg_none_of X G zisinstance, PySem.W.mg_none_of X G zint, PySem.W.mg_none_of X G zbool, PySem.W.mg_none_of X G zstr, PySem.W.mg_none_of X G ztuple, PySem.W.mg_none_of X G zlen, PySem.W.mg_none_of X G zzip, PySem.W.mg_none_of X G zall,
    aV, PySem.W.mg_of X G mV, sqt_of qV (by show 2 ≤ sizeLine; decide) (.cons ⟨_, rfl⟩ (.cons ⟨_, rfl⟩ (.nil))), aC, PySem.W.mg_of X G mC, sqt_of qC (by show 3 ≤ sizeLine; decide) (.cons ⟨_, rfl⟩ (.cons ⟨_, rfl⟩ (.cons ⟨_, rfl⟩ (.nil)))), aA, PySem.W.mg_of X G mA, sqt_of qA (by show 3 ≤ sizeLine; decide) (.cons ⟨_, rfl⟩ (.cons ⟨_, rfl⟩ (.cons ⟨_, rfl⟩ (.nil)))), aK, PySem.W.mg_of X G mK, sqt_of qK (by show 2 ≤ sizeLine; decide) (.cons ⟨_, rfl⟩ (.cons ⟨_, rfl⟩ (.nil))),
    tG, PySem.W.mg_of X G gG, tL, PySem.W.mg_of X G gL, tS, PySem.W.mg_of X G gS, tD, PySem.W.mg_of X G gD⟩
  have T2 : G2 mg := ⟨PySem.W.mg_none_of X G zabs, PySem.W.mg_none_of X G zmax, PySem.W.mg_none_of X G zmin, PySem.W.mg_none_of X G zrange⟩
  let D : Gd K w mg := ⟨aB, PySem.W.mg_of X G mB, ⟨⟨_, _, qB, yB, .cons ⟨_, rfl⟩ (.cons ⟨_, rfl⟩ (.nil))⟩, wB⟩,
    aSh, aSh0, aSh1, aSh2, PySem.W.mg_of X G mSh, ⟨⟨_, _, qSh, ySh, .cons rfl (.cons rfl (.cons rfl (.nil)))⟩, wSh⟩, sqt_of qSh0 (by show 2 ≤ sizeLine; decide) (.cons ⟨_, rfl⟩ (.cons ⟨_, rfl⟩ (.nil))), sqt_of qSh1 (by show 2 ≤ sizeLine; decide) (.cons ⟨_, rfl⟩ (.cons ⟨_, rfl⟩ (.nil))), sqt_of qSh2 (by show 1 ≤ sizeLine; decide) (.cons ⟨_, rfl⟩ (.nil)),
    aTe, aTe0, aTe1, PySem.W.mg_of X G mTe, ⟨⟨_, _, qTe, yTe, .cons rfl (.cons rfl (.nil))⟩, wTe⟩, sqt_of qTe0 (by show 3 ≤ sizeLine; decide) (.cons ⟨_, rfl⟩ (.cons ⟨_, rfl⟩ (.cons ⟨_, rfl⟩ (.nil)))), sqt_of qTe1 (by show 1 ≤ sizeLine; decide) (.cons ⟨_, rfl⟩ (.nil)),
    aCo, aCo0, aCo1, PySem.W.mg_of X G mCo, ⟨⟨_, _, qCo, yCo, .cons rfl (.cons rfl (.nil))⟩, wCo⟩, sqt_of qCo0 (by show 1 ≤ sizeLine; decide) (.cons ⟨_, rfl⟩ (.nil)), sqt_of qCo1 (by show 1 ≤ sizeLine; decide) (.cons ⟨_, rfl⟩ (.nil))⟩
  have FMB := fun_mk (st := sMB) lMB cMB kMB
  have bMB := FMB.binds (ps := ["self"]) fun _ _ _ _ _ _ us hl => match us, hl with | [_], _ => rfl
  have FME := fun_mk (st := sME) lME cME kME
  have bME := FME.binds (ps := ["self"]) fun _ _ _ _ _ _ us hl => match us, hl with | [_], _ => rfl
  have FAS := fun_mk (st := sAS) lAS cAS kAS
  have bAS := FAS.binds (ps := ["self"]) fun _ _ _ _ _ _ us hl => match us, hl with | [_], _ => rfl
  have FBI := fun_mk (st := sBI) lBI cBI kBI
  have bBI := FBI.binds (ps := ["self", "word", "condition"]) fun _ _ _ _ _ _ us hl => match us, hl with | [_, _, _], _ => rfl
  have FDH := fun_mk (st := sDH) lDH cDH kDH
  have bDH := FDH.binds (ps := ["self"]) fun _ _ _ _ _ _ us hl => match us, hl with | [_], _ => rfl
  have FDC := fun_mk (st := sDC) lDC cDC kDC
  have bDC := FDC.binds (ps := ["self"]) fun _ _ _ _ _ _ us hl => match us, hl with | [_], _ => rfl
  have FDP := fun_mk (st := sDP) lDP cDP kDP
  have bDP := FDP.binds (ps := ["self"]) fun _ _ _ _ _ _ us hl => match us, hl with | [_], _ => rfl
  have FDA := fun_mk (st := sDA) lDA cDA kDA
  have bDA := FDA.binds (ps := ["self", "parts"]) fun _ _ _ _ _ _ us hl => match us, hl with | [_, _], _ => rfl
  have FDT := fun_mk (st := sDT) lDT cDT kDT
  have bDT := FDT.binds (ps := ["self", "parts"]) fun _ _ _ _ _ _ us hl => match us, hl with | [_, _], _ => rfl
  have FDI := fun_mk (st := sDI) lDI cDI kDI
  have bDI := FDI.binds (ps := ["self", "kind"]) fun _ _ _ _ _ _ us hl => match us, hl with | [_, _], _ => rfl
  have NB : BNo K cB := ⟨⟨pgB, hdB, poB, saB⟩, nB_word, nB_condition, nB_bodies⟩
  have ND : DNo K cD := ⟨⟨pgD, hdD, poD, saD⟩, nD_kind, nD_many, nD_blocks⟩
  have menum := PySem.W.mg_none_of X G zenumerate
  refine ⟨PySem.W.fnOf "law" "law" (defArgs sLaw) (defBody sLaw) (defScope sLaw) .none kVLaw dcLaw pmLaw anLaw cdLaw ctLaw, fun s v => .of_eq rfl, fun base _ _ => ?_⟩
  let CFrom : Cal l.prog w K mg base 1 "is_integer_from" ["thing", "least"] (spFrom K) := ⟨_, _, ok_from FFrom T, bFrom, kFrom, PySem.W.mg_of X G aFrom⟩
  let CInt : Cal l.prog w K mg base 2 "is_integer_from_to" ["thing", "least", "greatest"] (spInt K) := ⟨_, _, ok_int FInt CFrom, bInt, kInt, PySem.W.mg_of X G aInt⟩
  let CTerm : Cal l.prog w K mg base 3 "is_term" ["thing"] (sp1 isTerm K) := ⟨_, _, ok_term FTerm T CInt, bTerm, kTerm, PySem.W.mg_of X G aTerm⟩
  let CCond : Cal l.prog w K mg base 4 "is_condition" ["thing"] (sp1 isCond K) := ⟨_, _, ok_cond FCond T CTerm, bCond, kCond, PySem.W.mg_of X G aCond⟩
  let CPart : Cal l.prog w K mg base 4 "is_part" ["thing", "role"] (spPart K) := ⟨_, _, ok_part FPart T CInt CTerm, bPart, kPart, PySem.W.mg_of X G aPart⟩
  let CWord : Cal l.prog w K mg base 1 "word_of" ["thing"] (spWord K) := ⟨_, _, ok_word FWord T, bWord, kWord, PySem.W.mg_of X G aWord⟩
  let CRoles : Cal l.prog w K mg base 1 "roles_of" ["word", "kind"] (spRoles K) := ⟨_, _, ok_roles FRoles D, bRoles, kRoles, PySem.W.mg_of X G aRoles⟩
  let CPlain : Cal l.prog w K mg base 5 "is_plain_statement" ["thing", "kind"] (sp2 isPlain K) := ⟨_, _, ok_plain FPlain T CWord CRoles CPart, bPlain, kPlain, PySem.W.mg_of X G aPlain⟩
  let COut : Cal l.prog w K mg base 6 "is_outside_of_statement" ["thing", "kind"] (sp2 isOut K) := ⟨_, _, ok_out FOut T D CWord CCond CPlain, bOut, kOut, PySem.W.mg_of X G aOut⟩
  let CBodies : Cal l.prog w K mg base 1 "bodies_of" ["statement"] (spBods K) := ⟨_, _, ok_bodies FBodies T D, bBodies, kBodies, PySem.W.mg_of X G aBodies⟩
  let CProg : Cal l.prog w K mg base 7 "is_program" ["thing"] (spProg K) := ⟨_, _, ok_prog FProg T COut CBodies, bProg, kProg, PySem.W.mg_of X G aProg⟩
  let CBag : Cal l.prog w K mg base 1 "_law_bag" ["_law_script", "_law_k"] (spBag K) := ⟨_, _, ok_bag FBag T T2, bBag, kBag, PySem.W.mg_of X G aBag⟩
  let CDraw : Cal l.prog w K mg base 1 "_law_draw" ["_law_bag_here", "_law_many"] spDraw := ⟨_, _, ok_draw FDraw, bDraw, kDraw, PySem.W.mg_of X G aDraw⟩
  let CLarge : Cal l.prog w K mg base 2 "_law_large" ["_law_bag_here", "_law_many"] spLarge := ⟨_, _, ok_large FLarge CDraw, bLarge, kLarge, PySem.W.mg_of X G aLarge⟩
  let CSteps : Cal l.prog w K mg base 3 "_law_steps" ["_law_bag_here"] spSteps := ⟨_, _, ok_steps FSteps CDraw CLarge, bSteps, kSteps, PySem.W.mg_of X G aSteps⟩
  let CTermL : Cal l.prog w K mg base 2 "_law_term" ["_law_bag_here"] (spTermL K) := ⟨_, _, ok_termL FTermL CDraw, bTermL, kTermL, PySem.W.mg_of X G aTermL⟩
  let CCondL : Cal l.prog w K mg base 3 "_law_condition" ["_law_bag_here"] (spCondL K) := ⟨_, _, ok_condL FCondL CDraw CTermL, bCondL, kCondL, PySem.W.mg_of X G aCondL⟩
  let CSimple : Cal l.prog w K mg base 4 "_law_simple" ["_law_bag_here", "_law_kind_here"] (spSimple K) := ⟨_, _, ok_simple FSimple CDraw CTermL CSteps, bSimple, kSimple, PySem.W.mg_of X G aSimple⟩
  let CKind : Cal l.prog w K mg base 2 "_law_kind" ["_law_bag_here"] spKind := ⟨_, _, ok_kind FKind CDraw, bKind, kKind, PySem.W.mg_of X G aKind⟩
  let CBody : Cal l.prog w K mg base 13 "_law_body" ["_law_bag_here", "_law_kind_here", "_law_room", "_law_depth", "_law_most"] (spBody K 4) := ⟨_, _, both FBody bBody (PySem.W.mg_of X G aBody) FStmt bStmt (PySem.W.mg_of X G aStmt) T T2 CDraw CSimple CCondL 4, bBody, kBody, PySem.W.mg_of X G aBody⟩
  let CProgL : Cal l.prog w K mg base 14 "_law_program" ["_law_bag_here", "_law_kind_here", "_law_most"] (spProgL K) := ⟨_, _, ok_progL FProgL CDraw CBody, bProgL, kProgL, PySem.W.mg_of X G aProgL⟩
  let CWhole : Cal l.prog w K mg base 1 "_law_whole" ["_law_thing"] (spL1 isInt K) := ⟨_, _, ok_whole FWhole T, bWhole, kWhole, PySem.W.mg_of X G aWhole⟩
  let CJn : Cal l.prog w K mg base 1 "joined" ["parts"] (spJn K) := ⟨_, _, ok_Jn FJn T, bJn, kJn, PySem.W.mg_of X G aJn⟩
  let CPL : Cal l.prog w K mg base 2 "plain_line" ["statement"] (spPL K) := ⟨_, _, ok_PL FPL CJn, bPL, kPL, PySem.W.mg_of X G aPL⟩
  let CBL : Cal l.prog w K mg base 10 "body_lines" ["body"] (spBL K 4) := ⟨_, _, recT FBL bBL (PySem.W.mg_of X G aBL) FSL bSL (PySem.W.mg_of X G aSL) T CBodies CPL CJn 4, bBL, kBL, PySem.W.mg_of X G aBL⟩
  let CShow : Cal l.prog w K mg base 11 "show" ["program"] (spShow K) := ⟨_, _, ok_show FShow CProg CBL, bShow, kShow, PySem.W.mg_of X G aShow⟩
  let CLL : Cal l.prog w K mg base 6 "_law_lines" ["_law_body_here"] (spLL K 4) := ⟨_, _, recLL FLL bLL (PySem.W.mg_of X G aLL) T 4, bLL, kLL, PySem.W.mg_of X G aLL⟩
  let CText : Cal l.prog w K mg base 7 "_law_text" ["_law_program_here"] (spText K) := ⟨_, _, ok_text FText CLL, bText, kText, PySem.W.mg_of X G aText⟩
  let CPln : Cal l.prog w K mg base 12 "_law_plain" ["_law_thing"] (spPln K 10) := ⟨_, _, recPln FPln bPln (PySem.W.mg_of X G aPln) T CWhole 10, bPln, kPln, PySem.W.mg_of X G aPln⟩
  let CDec : Cal l.prog w K mg base 1 "is_decimal" ["word", "most"] (spDec K) := ⟨_, _, ok_Dec FDec T, bDec, kDec, PySem.W.mg_of X G aDec⟩
  let CNW : Cal l.prog w K mg base 2 "number_or_word" ["word"] (spNW K) := ⟨_, _, ok_NW FNW T CDec, bNW, kNW, PySem.W.mg_of X G aNW⟩
  let CAP : Cal l.prog w K mg base 3 "ask_parts" ["words"] (spAP K) := ⟨_, _, ok_AP FAP T CNW, bAP, kAP, PySem.W.mg_of X G aAP⟩
  let CLP : Cal l.prog w K mg base 4 "line_parts" ["line"] (spLP K) := ⟨_, _, ok_LP FLP T D CNW CAP, bLP, kLP, PySem.W.mg_of X G aLP⟩
  let COpn : Cal l.prog w K mg base 5 "is_opening" ["parts"] (spOpn K) := ⟨_, _, ok_Opn FOpn T D CCond, bOpn, kOpn, PySem.W.mg_of X G aOpn⟩
  have GBI := ok_BI (P := l.prog) (w := w) (mg := mg) (base := base) FBI NB
  let MMB : MCl l.prog w K mg base 1 cB "may_branch" ["self"] (spMB K cB) := ⟨_, _, ok_MB FMB T NB, bMB, ⟨aMB, iMB, kMB⟩⟩
  let MME : MCl l.prog w K mg base 1 cB "may_end" ["self"] (spME K cB) := ⟨_, _, ok_ME FME T D NB, bME, ⟨aME, iME, kME⟩⟩
  let MAS : MCl l.prog w K mg base 2 cB "as_statement" ["self"] (spAS K cB) := ⟨_, _, ok_AS FAS T NB MMB, bAS, ⟨aAS, iAS, kAS⟩⟩
  let MDH : MCl l.prog w K mg base 1 cD "has_room" ["self"] (spDH K cD cB) := ⟨_, _, ok_DH FDH T ND, bDH, ⟨aDH, iDH, kDH⟩⟩
  let MDC : MCl l.prog w K mg base 1 cD "is_complete" ["self"] (spDC K cD cB) := ⟨_, _, ok_DC FDC T ND, bDC, ⟨aDC, iDC, kDC⟩⟩
  let MDP : MCl l.prog w K mg base 1 cD "as_program" ["self"] (spDP K cD cB) := ⟨_, _, ok_DP FDP T ND NB, bDP, ⟨aDP, iDP, kDP⟩⟩
  let MDA : MCl l.prog w K mg base 6 cD "allows" ["self", "parts"] (spDA K cD cB) := ⟨_, _, ok_DA FDA ND NB MME MMB MDH COpn CPlain, bDA, ⟨aDA, iDA, kDA⟩⟩
  let MDT : MCl l.prog w K mg base 6 cD "take" ["self", "parts"] (spDT K cD cB) := ⟨_, _, ok_DT FDT ND NB MAS COpn (PySem.W.mg_of X G ucB) ⟨mkB, aBI, iBI, kcB⟩ GBI bBI, bDT, ⟨aDT, iDT, kDT⟩⟩
  have GDI := ok_DI (P := l.prog) (w := w) (base := base) FDI ND (PySem.W.mg_of X G ucB) ⟨mkB, aBI, iBI, kcB⟩ GBI bBI
  let CRead : Cal l.prog w K mg base 7 "read" ["text"] (spRead K) := ⟨_, _, ok_Read FRead T menum ND (PySem.W.mg_of X G ucD) ⟨mkD, aDI, iDI, kcD⟩ GDI bDI CLP MDA MDT MDC MDP, bRead, kRead, PySem.W.mg_of X G aRead⟩
  have kR := fun_kbN FRead (ps := ["text"]) ["text"] (fun us ws => us ++ ws) (fun r1 r2 => r1.append r2) 0 (fun _ _ _ _ _ _ us ws h1 h2 => match us, ws, h1, h2 with | [], [_], _, _ => rfl)
  exact ok_law FLaw T T2 CBag CKind CProgL CText CShow CRead kR CPln
theorem walk {l : PySem.W.OpenLaw} {q : Program} {loose : List Str} {XP : (Str → Option Value) → Heap → Prop} {YP : World → Heap → Prop} {d : DefRec} {K : Params → PySem.W.Frag} (hn : l.most = some 63) (hdf : d.params.defaults = [])
    (hY : ∀ (w : World) (h : Heap), YP w h → (K w.params).In h)
    (F : ∀ (w : World) (mg : Str → Option Value) (fa : Addr) (h : Heap), (K w.params).In h → h.Ns mainGlobals mg → mg d.name = some (.ref fa) →
      ∃ fd : FuncData, (∀ (s : Shared) (u : Value), BindsTo s fd ⟨[u], []⟩ [("_law_script", u)]) ∧ ∀ base : Heap, (K w.params).In base → base.Ns mainGlobals mg → FnOk l.prog w (K w.params) mg base CX0 15 fa fd ["_law_script"] (spLaw (K w.params))) :
    PySem.W.WalkO q loose XP YP l.row.toRowW d [] (fun f vs => PySem.call f vs) :=
  L2.walk_of (n := 63) (k := 15) (x := "_law_script") (CX := fun _ => CX0) (sp := fun w => spLaw (K w.params)) hn (by decide) hdf ⟨rfl, by decide, by decide⟩ hY F (fun _ _ a ns hl _ hS => ⟨a, ns, rfl, hS, hl, fun _ => rfl⟩) fun _ _ _ _ _ z => z
end My
open PySem PySem.W PyProof.Rows
set_option maxRecDepth 100000 in
set_option maxHeartbeats 0 in
theorem PySem.Challenge.cw_neithertells_k04_whole_texts_there_and_b_holds : PySem.Challenge.rw_neithertells_k04_whole_texts_there_and_b.Holds := by
  w_on; o_law; k_head; (case hw => w_witness2)
  k_fill
  refine My.walk (l := PySem.Challenge.rw_neithertells_k04_whole_texts_there_and_b) rfl rfl (fun w h Y => PySem.W.kIn_of Y) ?F
  case F =>
    intro w mg fa h KX G hmg
    refine' My.all_mk KX G hmg ?aFrom ?lFrom ?cFrom ?kFrom ?aInt ?lInt ?cInt ?kInt ?aTerm ?lTerm ?cTerm ?kTerm ?aCond ?lCond ?cCond ?kCond ?aPart ?lPart ?cPart ?kPart ?aWord ?lWord ?cWord ?kWord ?aRoles ?lRoles ?cRoles ?kRoles ?aPlain ?lPlain ?cPlain ?kPlain ?aOut ?lOut ?cOut ?kOut ?aBodies ?lBodies ?cBodies ?kBodies ?aProg ?lProg ?cProg ?kProg ?aShow ?lShow ?cShow ?kShow ?aBL ?lBL ?cBL ?kBL ?aSL ?lSL ?cSL ?kSL ?aPL ?lPL ?cPL ?kPL ?aJn ?lJn ?cJn ?kJn ?aDec ?lDec ?cDec ?kDec ?aNW ?lNW ?cNW ?kNW ?aAP ?lAP ?cAP ?kAP ?aLP ?lLP ?cLP ?kLP ?aOpn ?lOpn ?cOpn ?kOpn ?aRead ?lRead ?cRead ?kRead ?aBag ?lBag ?cBag ?kBag ?aDraw ?lDraw ?cDraw ?kDraw ?aLarge ?lLarge ?cLarge ?kLarge ?aSteps ?lSteps ?cSteps ?kSteps ?aTermL ?lTermL ?cTermL ?kTermL ?aCondL ?lCondL ?cCondL ?kCondL ?aSimple ?lSimple ?cSimple ?kSimple ?aKind ?lKind ?cKind ?kKind ?aStmt ?lStmt ?cStmt ?kStmt ?aBody ?lBody ?cBody ?kBody ?aProgL ?lProgL ?cProgL ?kProgL ?aWhole ?lWhole ?cWhole ?kWhole ?aLL ?lLL ?cLL ?kLL ?aText ?lText ?cText ?kText ?aPln ?lPln ?cPln ?kPln ?aLaw ?lLaw ?cLaw ?kLaw ?zisinstance ?zint ?zbool ?zstr ?ztuple ?zlen ?zzip ?zall ?zabs ?zmax ?zmin ?zrange ?zenumerate ?gG ?gL ?gS ?gD ?mV ?qV ?mC ?qC ?mA ?qA ?mK ?qK ?mB ?qB ?yB ?wB ?mSh ?qSh ?ySh ?wSh ?qSh0 ?qSh1 ?qSh2 ?mTe ?qTe ?yTe ?wTe ?qTe0 ?qTe1 ?mCo ?qCo ?yCo ?wCo ?qCo0 ?qCo1 ?ucB ?ucD ?aMB ?iMB ?lMB ?cMB ?kMB ?aME ?iME ?lME ?cME ?kME ?aAS ?iAS ?lAS ?cAS ?kAS ?aBI ?iBI ?lBI ?cBI ?kBI ?aDH ?iDH ?lDH ?cDH ?kDH ?aDC ?iDC ?lDC ?cDC ?kDC ?aDP ?iDP ?lDP ?cDP ?kDP ?aDA ?iDA ?lDA ?cDA ?kDA ?aDT ?iDT ?lDT ?cDT ?kDT ?aDI ?iDI ?lDI ?cDI ?kDI ?pgB ?hdB ?poB ?saB ?mkB ?kcB ?nB_word ?nB_condition ?nB_bodies ?pgD ?hdD ?poD ?saD ?mkD ?kcD ?nD_kind ?nD_many ?nD_blocks
    (case aFrom => k_is)
    (case lFrom => k_is)
    (case cFrom => k_is)
    (case kFrom => k_is)
    (case aInt => k_is)
    (case lInt => k_is)
    (case cInt => k_is)
    (case kInt => k_is)
    (case aTerm => k_is)
    (case lTerm => k_is)
    (case cTerm => k_is)
    (case kTerm => k_is)
    (case aCond => k_is)
    (case lCond => k_is)
    (case cCond => k_is)
    (case kCond => k_is)
    (case aPart => k_is)
    (case lPart => k_is)
    (case cPart => k_is)
    (case kPart => k_is)
    (case aWord => k_is)
    (case lWord => k_is)
    (case cWord => k_is)
    (case kWord => k_is)
    (case aRoles => k_is)
    (case lRoles => k_is)
    (case cRoles => k_is)
    (case kRoles => k_is)
    (case aPlain => k_is)
    (case lPlain => k_is)
    (case cPlain => k_is)
    (case kPlain => k_is)
    (case aOut => k_is)
    (case lOut => k_is)
    (case cOut => k_is)
    (case kOut => k_is)
    (case aBodies => k_is)
    (case lBodies => k_is)
    (case cBodies => k_is)
    (case kBodies => k_is)
    (case aProg => k_is)
    (case lProg => k_is)
    (case cProg => k_is)
    (case kProg => k_is)
    (case aShow => k_is)
    (case lShow => k_is)
    (case cShow => k_is)
    (case kShow => k_is)
    (case aBL => k_is)
    (case lBL => k_is)
    (case cBL => k_is)
    (case kBL => k_is)
    (case aSL => k_is)
    (case lSL => k_is)
    (case cSL => k_is)
    (case kSL => k_is)
    (case aPL => k_is)
    (case lPL => k_is)
    (case cPL => k_is)
    (case kPL => k_is)
    (case aJn => k_is)
    (case lJn => k_is)
    (case cJn => k_is)
    (case kJn => k_is)
    (case aDec => k_is)
    (case lDec => k_is)
    (case cDec => k_is)
    (case kDec => k_is)
    (case aNW => k_is)
    (case lNW => k_is)
    (case cNW => k_is)
    (case kNW => k_is)
    (case aAP => k_is)
    (case lAP => k_is)
    (case cAP => k_is)
    (case kAP => k_is)
    (case aLP => k_is)
    (case lLP => k_is)
    (case cLP => k_is)
    (case kLP => k_is)
    (case aOpn => k_is)
    (case lOpn => k_is)
    (case cOpn => k_is)
    (case kOpn => k_is)
    (case aRead => k_is)
    (case lRead => k_is)
    (case cRead => k_is)
    (case kRead => k_is)
    (case aBag => k_is)
    (case lBag => k_is)
    (case cBag => k_is)
    (case kBag => k_is)
    (case aDraw => k_is)
    (case lDraw => k_is)
    (case cDraw => k_is)
    (case kDraw => k_is)
    (case aLarge => k_is)
    (case lLarge => k_is)
    (case cLarge => k_is)
    (case kLarge => k_is)
    (case aSteps => k_is)
    (case lSteps => k_is)
    (case cSteps => k_is)
    (case kSteps => k_is)
    (case aTermL => k_is)
    (case lTermL => k_is)
    (case cTermL => k_is)
    (case kTermL => k_is)
    (case aCondL => k_is)
    (case lCondL => k_is)
    (case cCondL => k_is)
    (case kCondL => k_is)
    (case aSimple => k_is)
    (case lSimple => k_is)
    (case cSimple => k_is)
    (case kSimple => k_is)
    (case aKind => k_is)
    (case lKind => k_is)
    (case cKind => k_is)
    (case kKind => k_is)
    (case aStmt => k_is)
    (case lStmt => k_is)
    (case cStmt => k_is)
    (case kStmt => k_is)
    (case aBody => k_is)
    (case lBody => k_is)
    (case cBody => k_is)
    (case kBody => k_is)
    (case aProgL => k_is)
    (case lProgL => k_is)
    (case cProgL => k_is)
    (case kProgL => k_is)
    (case aWhole => k_is)
    (case lWhole => k_is)
    (case cWhole => k_is)
    (case kWhole => k_is)
    (case aLL => k_is)
    (case lLL => k_is)
    (case cLL => k_is)
    (case kLL => k_is)
    (case aText => k_is)
    (case lText => k_is)
    (case cText => k_is)
    (case kText => k_is)
    (case aPln => k_is)
    (case lPln => k_is)
    (case cPln => k_is)
    (case kPln => k_is)
    (case aLaw => k_is)
    (case lLaw => k_is)
    (case cLaw => k_is)
    (case kLaw => k_is)
    (case zisinstance => k_is)
    (case zint => k_is)
    (case zbool => k_is)
    (case zstr => k_is)
    (case ztuple => k_is)
    (case zlen => k_is)
    (case zzip => k_is)
    (case zall => k_is)
    (case zabs => k_is)
    (case zmax => k_is)
    (case zmin => k_is)
    (case zrange => k_is)
    (case zenumerate => k_is)
    (case gG => k_is)
    (case gL => k_is)
    (case gS => k_is)
    (case gD => k_is)
    (case mV => k_is)
    (case qV => k_is)
    (case mC => k_is)
    (case qC => k_is)
    (case mA => k_is)
    (case qA => k_is)
    (case mK => k_is)
    (case qK => k_is)
    (case mB => k_is)
    (case qB => k_is)
    (case yB => first | k_is | (simp [PySem.W.KeysLit]))
    (case wB => first | rfl | decide | k_is)
    (case mSh => k_is)
    (case qSh => k_is)
    (case ySh => first | k_is | (simp [PySem.W.KeysLit]))
    (case wSh => first | rfl | decide | k_is)
    (case qSh0 => k_is)
    (case qSh1 => k_is)
    (case qSh2 => k_is)
    (case mTe => k_is)
    (case qTe => k_is)
    (case yTe => first | k_is | (simp [PySem.W.KeysLit]))
    (case wTe => first | rfl | decide | k_is)
    (case qTe0 => k_is)
    (case qTe1 => k_is)
    (case mCo => k_is)
    (case qCo => k_is)
    (case yCo => first | k_is | (simp [PySem.W.KeysLit]))
    (case wCo => first | rfl | decide | k_is)
    (case qCo0 => k_is)
    (case qCo1 => k_is)
    (case ucB => k_is)
    (case ucD => k_is)
    (case aMB => k_is)
    (case iMB => k_is)
    (case lMB => k_is)
    (case cMB => k_is)
    (case kMB => k_is)
    (case aME => k_is)
    (case iME => k_is)
    (case lME => k_is)
    (case cME => k_is)
    (case kME => k_is)
    (case aAS => k_is)
    (case iAS => k_is)
    (case lAS => k_is)
    (case cAS => k_is)
    (case kAS => k_is)
    (case aBI => k_is)
    (case iBI => k_is)
    (case lBI => k_is)
    (case cBI => k_is)
    (case kBI => k_is)
    (case aDH => k_is)
    (case iDH => k_is)
    (case lDH => k_is)
    (case cDH => k_is)
    (case kDH => k_is)
    (case aDC => k_is)
    (case iDC => k_is)
    (case lDC => k_is)
    (case cDC => k_is)
    (case kDC => k_is)
    (case aDP => k_is)
    (case iDP => k_is)
    (case lDP => k_is)
    (case cDP => k_is)
    (case kDP => k_is)
    (case aDA => k_is)
    (case iDA => k_is)
    (case lDA => k_is)
    (case cDA => k_is)
    (case kDA => k_is)
    (case aDT => k_is)
    (case iDT => k_is)
    (case lDT => k_is)
    (case cDT => k_is)
    (case kDT => k_is)
    (case aDI => k_is)
    (case iDI => k_is)
    (case lDI => k_is)
    (case cDI => k_is)
    (case kDI => k_is)
    (case pgB => k_is)
    (case hdB => k_is)
    (case poB => k_is)
    (case saB => k_is)
    (case mkB => k_is)
    (case kcB => k_is)
    (case nB_word => k_is)
    (case nB_condition => k_is)
    (case nB_bodies => k_is)
    (case pgD => k_is)
    (case hdD => k_is)
    (case poD => k_is)
    (case saD => k_is)
    (case mkD => k_is)
    (case kcD => k_is)
    (case nD_kind => k_is)
    (case nD_many => k_is)
    (case nD_blocks => k_is)


import PyProof.Rows.All
import Wide.All
import OpenK.AllK
import Wide.FinOn
import HandS.ForMost
import HandS.IsInst
import HandS.Zip
import HandS.More
import HandS.TupAny
import HandS.TupLe
import HandS.Wide
import HandS.NoneIn
import HandS.Deep
import HandS.Star
import HandS.FStr
import HandS.RaiseMore
import PyProof.Rows.StrJoinMade
import HandS.ForExc
import HandS.ExcIs
import HandS.StrMore
import KE.IntTextLaws
import HandS.Iter
import KE.GoesEnumKw
import PyProof.Rows.CallKwBuiltin
import HandS.ExcInit
import HandS.ExcField
import HandS.ClsMeth
import HandS.Defaults
import HandS.MakeKwOnly
import HandS.Walk
import KE.KExcIs
import PyProof.FString2
import PySem.Challenge.RW_neithertells_k06_texts_at_their_bounds
set_option Elab.async false
set_option linter.all false
set_option maxRecDepth 100000
set_option maxHeartbeats 8000000
namespace My
open PySem L2
def top (i : Nat) : Stmt := PySem.Challenge.pw_neithertells_k06_texts_at_their_bounds.main.body.getD i (.Pass ⟨0, 0, 0, 0⟩)
abbrev sFrom : Stmt := top 16
abbrev sInt : Stmt := top 17
abbrev sTerm : Stmt := top 18
abbrev sCond : Stmt := top 19
abbrev sPart : Stmt := top 20
abbrev sWord : Stmt := top 21
abbrev sRoles : Stmt := top 22
abbrev sPlain : Stmt := top 23
/-! ### the mathematics of programs -/
def inS (d : PyData) (zs : List Str) : Bool := match d with | .str z => zs.any (· == z) | _ => false
def intIn (d : PyData) (lo hi : Int) : Bool := match d with | .int i => decide (lo ≤ i) && decide (i ≤ hi) | _ => false
def intFrom (d : PyData) (lo : Int) : Bool := match d with | .int i => decide (lo ≤ i) | _ => false
def vars : List Str := ["a", "b"]
def signs : List Str := ["==", "!=", "<"]
def asks : List Str := ["+", "-", "="]
def kinds : List Str := ["teller", "collector"]
def isTerm (d : PyData) : Bool := inS d vars || intIn d 0 15
def isCond (d : PyData) : Bool := match d with
  | .tuple [x, y, z] => inS x vars && inS y signs && isTerm z
  | _ => false
def longest : Int := 1000000000000000000000000000000
def isPart (d : PyData) (r : Str) : Bool :=
  if r = "variable" then inS d vars else if r = "term" then isTerm d else if r = "sign" then inS d asks else if r = "steps" then intIn d 1 longest
  else if r = "answer" then intIn d 0 1 else intIn d 0 15

/-! ### rules -/
section
variable {X : Cx}
theorem depth_strs (zs : List Str) : PyData.depthAll (zs.map PyData.str) = 0 := by
  induction zs with
  | nil => rfl
  | cons z r ih => simp only [List.map_cons, PyData.depthAll, PyData.depth, ih]; rfl
theorem lay_strs : ∀ (zs : List Str), zs.all PyData.strOk = true → PyData.canLayAll0 (zs.map PyData.str) = true
  | [], _ => by simp [PyData.canLayAll0]
  | z :: r, h => by
    simp only [List.all_cons, Bool.and_eq_true] at h
    simp only [List.map_cons, PyData.canLayAll0, PyData.canLay0, Bool.and_eq_true]
    exact ⟨h.1, lay_strs r h.2⟩
theorem any_strs (d : PyData) : ∀ (zs : List Str), ((zs.map PyData.str).any fun y => PyData.eqv y d) = inS d zs
  | [] => by cases d <;> rfl
  | z :: r => by
    have ih := any_strs d r
    rw [List.map_cons, List.any_cons, ih]
    cases d <;> simp [inS, PyData.eqv]
theorem dp_strs {K : PySem.W.Frag} {H : Hp} : ∀ zs : List Str, DpAll K H (zs.map V.str) (zs.map PyData.str)
  | [] => .nil
  | z :: r => .cons (.str z) (dp_strs r)
def rInS (K : PySem.W.Frag) (neg : Bool) : R2 := fun x y H Q => ∃ (d : PyData) (zs : List Str) (p : Addr), y = .ref p ∧ Dp K H x d ∧ d.canLay0 = true ∧ SqT K H p (zs.map V.str) ∧ zs.all PyData.strOk = true ∧
  Q (.bl (if neg then !inS d zs else inS d zs)) H
theorem op_inS (hu : X.A.units + 65 < cLine) : OpR X (compareOp .In) (rInS X.K false) := by
  intro pins s σ H x y v u Q I rx ry h
  obtain ⟨d, zs, p, rfl, hd, ld, hz, oz, q⟩ := h
  obtain ⟨as, r1⟩ := Dp.reads I d x v hd rx
  obtain ⟨bs, r2⟩ := Dp.reads I (.tuple (zs.map PyData.str)) (.ref p) u (.tup hz (dp_strs zs)) ry
  refine SeqAt.in_tuple_reads r2 r1 (lay_strs zs oz) ld ?_ ⟨.bl _, H, I, rfl, ?_⟩
  · rw [depth_strs]
    have := Nat.min_le_left 0 d.depth
    omega
  · rw [any_strs]; exact q
theorem op_notInS (hu : X.A.units + 65 < cLine) : OpR X (compareOp .NotIn) (rInS X.K true) := by
  intro pins s σ H x y v u Q I rx ry h
  obtain ⟨d, zs, p, rfl, hd, ld, hz, oz, q⟩ := h
  obtain ⟨as, r1⟩ := Dp.reads I d x v hd rx
  obtain ⟨bs, r2⟩ := Dp.reads I (.tuple (zs.map PyData.str)) (.ref p) u (.tup hz (dp_strs zs)) ry
  refine SeqAt.notIn_tuple_reads r2 r1 (lay_strs zs oz) ld ?_ ⟨.bl _, H, I, rfl, ?_⟩
  · rw [depth_strs]
    have := Nat.min_le_left 0 d.depth
    omega
  · rw [any_strs]; exact q
end
section
variable {X : Cx}
theorem pe_gref {x : Str} {a : Addr} {pos : Pos} (hg : Gl X x) (hm : X.mg x = some (.ref a)) (hd : (x == ("__debug__" : Str)) = false := by decide) : PE X (.Name x pos) (tC (.ref a)) := pe_glob hg hm rfl hd
theorem pe_gint {x : Str} {i : Int} {t : Tok} {pos : Pos} (hg : Gl X x) (hm : X.mg x = some (.int i t)) (hd : (x == ("__debug__" : Str)) = false := by decide) : PE X (.Name x pos) (tC (.int i)) := pe_glob hg hm ⟨t, rfl⟩ hd
end
/-- the name of the type -/
def tyN : PyData → String
  | .none => "NoneType"
  | .bool _ => "bool"
  | .int _ => "int"
  | .str _ => "str"
  | .list _ => "list"
  | .tuple _ => "tuple"
  | .dict _ => "dict"
theorem dp_ty {K : PySem.W.Frag} {H : Hp} {v : V} {d : PyData} (h : Dp K H v d) : TyX K H v (.type (tyN d)) := by
  cases h with
  | non => exact .base .non
  | bl b => exact .base (.bl b)
  | int i => exact .base (.int i)
  | str x => exact .base (.str x)
  | lst hs _ =>
    rcases hs with (h | ⟨o, h⟩) | ⟨o, its, n, hk, hc, _⟩
    · exact .base (.lst h)
    · exact .base (.frz h)
    · exact .kList hk hc
  | tup hs _ =>
    rcases hs with (h | ⟨o, h⟩) | ⟨o, its, n, hk, hc, _⟩
    · exact .base (.tup h)
    · exact .fTuple h
    · exact .kTuple hk hc
def isT (d : PyData) (T : String) : Bool := match d with
  | .bool _ => T == "bool" || T == "int"
  | _ => tyN d == T
theorem kit_isT {K : PySem.W.Frag} (d : PyData) {T : String} (h : T = "int" ∨ T = "bool" ∨ T = "str" ∨ T = "tuple" ∨ T = "list") (nd : ∀ k, d ≠ .dict k) : PySem.W.kitOne K (.type (tyN d)) (.type T) = some (isT d T) := by
  refine kit_ty ?_
  rcases h with rfl | rfl | rfl | rfl | rfl <;> cases d <;> first | (exact absurd rfl (nd _)) | (simp only [tyN, isT]; decide +kernel)

/-! ### what the module's names hold -/
structure Gs (K : PySem.W.Frag) (mg : Str → Option Value) where
  isi : mg "isinstance" = none
  int : mg "int" = none
  bool : mg "bool" = none
  str : mg "str" = none
  tup : mg "tuple" = none
  len : mg "len" = none
  zip : mg "zip" = none
  all : mg "all" = none
  aV : Addr
  mV : mg "VARIABLES" = some (.ref aV)
  kV : ∀ H, SqT K H aV (vars.map V.str)
  aC : Addr
  mC : mg "CONDITION_SIGNS" = some (.ref aC)
  kC : ∀ H, SqT K H aC (signs.map V.str)
  aA : Addr
  mA : mg "ASK_SIGNS" = some (.ref aA)
  kA : ∀ H, SqT K H aA (asks.map V.str)
  aK : Addr
  mK : mg "KINDS" = some (.ref aK)
  kK : ∀ H, SqT K H aK (kinds.map V.str)
  tG : Tok
  mG : mg "GREATEST_VALUE" = some (.int 15 tG)
  tL : Tok
  mL : mg "LONGEST_WAIT" = some (.int longest tL)
  tS : Tok
  mS : mg "MOST_STATEMENTS" = some (.int 24 tS)
  tD : Tok
  mD : mg "MOST_DEPTH" = some (.int 4 tD)

/-! ### promises -/
abbrev Lay (d : PyData) : Prop := d.canLay0 = true
def spInt (K : PySem.W.Frag) : Sp := fun vs H Q _ => ∃ (v : V) (d : PyData) (lo hi : Int), vs = [v, .int lo, .int hi] ∧ Dp K H v d ∧ Q (.bl (intIn d lo hi)) H
def spFrom (K : PySem.W.Frag) : Sp := fun vs H Q _ => ∃ (v : V) (d : PyData) (lo : Int), vs = [v, .int lo] ∧ Dp K H v d ∧ Q (.bl (intFrom d lo)) H
def sp1 (f : PyData → Bool) (K : PySem.W.Frag) : Sp := fun vs H Q _ => ∃ (v : V) (d : PyData), vs = [v] ∧ Dp K H v d ∧ Lay d ∧ Q (.bl (f d)) H
theorem dp_nd {K : PySem.W.Frag} {H : Hp} {v : V} {d : PyData} (h : Dp K H v d) : ∀ k, d ≠ .dict k := by
  intro k e
  subst e
  cases h
section
variable {P : Program} {w : World} {K : PySem.W.Frag} {mg : Str → Option Value} {base : Heap}
theorem scFrom : FnScope ["thing", "least"] ["thing", "least"] (defScope sFrom) := ⟨rfl, rfl, rfl, by decide +kernel, rfl, by decide +kernel, by decide +kernel⟩
theorem ok_from {f : Addr} {fd : FuncData} (F : Fun K "is_integer_from" "is_integer_from" sFrom f fd) (T : Gs K mg) : FnOk P w K mg base CX0 1 f fd ["thing", "least"] (spFrom K) := by
  refine F.ok scFrom (fun vs H Q E h => ?_) (fun cdv A outer s H vs Q E hr h => ?_)
  · obtain ⟨v, d, lo, rfl, _⟩ := h
    rfl
  obtain ⟨v, d, lo, rfl, hd, q⟩ := h
  refine ⟨_, pss_one (ps_ret (pe_and (pe_callB call_isi (by rfl) T.isi (by decide +kernel) (pa_cons (pv 0) (pa_cons (pe_bltn (v := .ty "int") (by rfl) T.int (by decide +kernel) rfl) pa_nil)))
    (pe_and (pe_not (pe_callB call_isi (by rfl) T.isi (by decide +kernel) (pa_cons (pv 0) (pa_cons (pe_bltn (v := .ty "bool") (by rfl) T.bool (by decide +kernel) rfl) pa_nil))))
      (pe_one (pe_cmpR op_le (pv 1) (pv 0) (by rfl)))))), ?_⟩
  refine ⟨_, rfl, v, .ty "int", _, _, _, rfl, .ty _, dp_ty hd, kit_isT d (by simp) (dp_nd hd), _, rfl, ?_⟩
  cases hd with
  | int i =>
    refine ite2 (fun _ => ?_) (fun c => absurd (by rfl) c)
    refine ⟨_, rfl, _, .ty "bool", _, _, _, rfl, .ty _, dp_ty (.int i), kit_isT (.int i) (by simp) (fun _ e => nomatch e), _, rfl, _, rfl, ?_⟩
    refine ite2 (fun _ => ?_) (fun c => absurd (by rfl) c)
    exact ⟨_, rfl, _, rfl, _, _, rfl, rfl, q⟩
  | bl b =>
    refine ite2 (fun _ => ?_) (fun c => absurd (by rfl) c)
    refine ⟨_, rfl, _, .ty "bool", _, _, _, rfl, .ty _, dp_ty (.bl b), kit_isT (.bool b) (by simp) (fun _ e => nomatch e), _, rfl, _, rfl, ?_⟩
    exact ite2 (fun c => absurd (show false = true from c) (by decide)) (fun _ => q)
  | non => exact ite2 (fun c => absurd (show false = true from c) (by decide)) (fun _ => q)
  | str x => exact ite2 (fun c => absurd (show false = true from c) (by decide)) (fun _ => q)
  | lst _ _ => exact ite2 (fun c => absurd (show false = true from c) (by decide)) (fun _ => q)
  | tup _ _ => exact ite2 (fun c => absurd (show false = true from c) (by decide)) (fun _ => q)
structure Cal (P : Program) (w : World) (K : PySem.W.Frag) (mg : Str → Option Value) (base : Heap) (k : Nat) (x : Str) (ps : List Str) (sp : Sp) where
  f : Addr
  fd : FuncData
  G : FnOk P w K mg base CX0 k f fd ps sp
  b : Binds K fd ps []
  kp : PySem.W.keepIn K (.ref f) = true
  m : mg x = some (.ref f)
theorem scInt : FnScope ["thing", "least", "greatest"] ["thing", "least", "greatest"] (defScope sInt) := ⟨rfl, rfl, rfl, by decide +kernel, rfl, by decide +kernel, by decide +kernel⟩
theorem ok_int {f : Addr} {fd : FuncData} (F : Fun K "is_integer_from_to" "is_integer_from_to" sInt f fd) (CF : Cal P w K mg base 1 "is_integer_from" ["thing", "least"] (spFrom K)) : FnOk P w K mg base CX0 2 f fd ["thing", "least", "greatest"] (spInt K) := by
  refine F.ok scInt (fun vs H Q E h => ?_) (fun cdv A outer s H vs Q E hr h => ?_)
  · obtain ⟨v, d, lo, hi, rfl, _⟩ := h
    rfl
  obtain ⟨v, d, lo, hi, rfl, hd, q⟩ := h
  refine ⟨_, pss_one (ps_ret (pe_and (pe_call CF.G hr rfl CF.m CF.kp CF.b .nil pass0 (pa_cons (pv 0) (pa_cons (pv 1) pa_nil))) (pe_one (pe_cmpR op_le (pv 0) (pv 2) (by rfl))))), ?_⟩
  refine ⟨_, rfl, _, rfl, v, d, lo, rfl, hd, _, rfl, ?_⟩
  cases hd with
  | int i =>
    by_cases h1 : lo ≤ i
    · have e : intIn (.int i) lo hi = decide (i ≤ hi) := by simp [intIn, h1]
      rw [e] at q
      refine ite2 (fun _ => ⟨_, rfl, _, rfl, _, _, rfl, rfl, q⟩) (fun c => absurd (show decide (lo ≤ i) = true from decide_eq_true h1) c)
    · have e : intIn (.int i) lo hi = false := by simp [intIn, h1]
      rw [e] at q
      have e2 : intFrom (.int i) lo = false := decide_eq_false h1
      rw [e2]
      exact iteF q
  | bl b => exact ite2 (fun c => absurd (show false = true from c) (by decide)) (fun _ => q)
  | non => exact ite2 (fun c => absurd (show false = true from c) (by decide)) (fun _ => q)
  | str x => exact ite2 (fun c => absurd (show false = true from c) (by decide)) (fun _ => q)
  | lst _ _ => exact ite2 (fun c => absurd (show false = true from c) (by decide)) (fun _ => q)
  | tup _ _ => exact ite2 (fun c => absurd (show false = true from c) (by decide)) (fun _ => q)
end
theorem hu65 {k : Nat} {A : Around} (hr : Room k A) : A.units + 65 < cLine := by have := hr.un; omega
theorem dp_tup_inv {K : PySem.W.Frag} {H : Hp} {v : V} {ds : List PyData} (h : Dp K H v (.tuple ds)) : ∃ a xs, v = .ref a ∧ SqT K H a xs ∧ DpAll K H xs ds := by
  cases h with
  | tup hs ha => exact ⟨_, _, rfl, hs, ha⟩
theorem dpAll_len {K : PySem.W.Frag} {H : Hp} : ∀ {xs : List V} {ds : List PyData}, DpAll K H xs ds → xs.length = ds.length
  | _, _, .nil => rfl
  | _, _, .cons _ t => by rw [List.length_cons, List.length_cons, dpAll_len t]
theorem dpAll_get {K : PySem.W.Frag} {H : Hp} : ∀ {xs : List V} {ds : List PyData} {i : Nat} {x : V}, DpAll K H xs ds → xs[i]? = some x → ∃ d, ds[i]? = some d ∧ Dp K H x d
  | _, _, 0, _, .cons h _, e => by
    cases e
    exact ⟨_, rfl, h⟩
  | _, _, i + 1, _, .cons _ t, e => dpAll_get (i := i) t e
theorem lay_mem : ∀ {ds : List PyData}, PyData.canLayAll0 ds = true → ∀ d ∈ ds, Lay d
  | x :: r, h, d, m => by
    simp only [PyData.canLayAll0, Bool.and_eq_true] at h
    rcases List.mem_cons.mp m with e | m
    · rw [e]; exact h.1
    · exact lay_mem h.2 d m
theorem lay_tup {ds : List PyData} (h : Lay (.tuple ds)) : PyData.canLayAll0 ds = true := by
  unfold Lay at h
  simpa only [PyData.canLay0] using h
theorem isT_tup {d : PyData} (h : isT d "tuple" = true) : ∃ ds, d = .tuple ds := by
  cases d with
  | tuple ds => exact ⟨ds, rfl⟩
  | _ => simp [isT, tyN] at h
theorem isT_str {d : PyData} (h : isT d "str" = true) : ∃ z, d = .str z := by
  cases d with
  | str ds => exact ⟨ds, rfl⟩
  | _ => simp [isT, tyN] at h
theorem same_new {H : Hp} {p : Addr} (h : H p = none) (o : HO) : Same H (upd H p o) := fun b u q => by rw [upd_ne (ne_of_none q h)]; exact q
theorem Same.tup {K : PySem.W.Frag} {H H' : Hp} {a : Addr} {xs : List V} (e : Same H H') (h : SqT K H a xs) : SqT K H' a xs := by
  rcases h with (h | ⟨o, h⟩) | h
  · exact .inl (.inl (e _ _ h))
  · exact .inl (.inr ⟨o, e _ _ h⟩)
  · exact .inr h
mutual
theorem dp_mono {K : PySem.W.Frag} {H H' : Hp} (e : Same H H') : ∀ (d : PyData) (v : V), Dp K H v d → Dp K H' v d
  | .none, _, h => by cases h; exact .non
  | .bool b, _, h => by cases h; exact .bl b
  | .int i, _, h => by cases h; exact .int i
  | .str x, _, h => by cases h; exact .str x
  | .list ds, _, h => by
    cases h with
    | lst hs ha => exact .lst (e.seq hs) (dpAll_mono e ds _ ha)
  | .tuple ds, _, h => by
    cases h with
    | tup hs ha => exact .tup (Same.tup e hs) (dpAll_mono e ds _ ha)
  | .dict _, _, h => by cases h
theorem dpAll_mono {K : PySem.W.Frag} {H H' : Hp} (e : Same H H') : ∀ (ds : List PyData) (vs : List V), DpAll K H vs ds → DpAll K H' vs ds
  | [], _, h => by cases h; exact .nil
  | d :: ds, _, h => by
    cases h with
    | cons hd ht => exact .cons (dp_mono e d _ hd) (dpAll_mono e ds _ ht)
end
def wordOf : PyData → Option Str
  | .tuple (.str z :: _) => some z
  | _ => none
def wV : Option Str → V
  | some z => .str z
  | none => .non
def spPart (K : PySem.W.Frag) : Sp := fun vs H Q _ => ∃ (v : V) (d : PyData) (r : Str), vs = [v, .str r] ∧ Dp K H v d ∧ Lay d ∧ Q (.bl (isPart d r)) H
def spWord (K : PySem.W.Frag) : Sp := fun vs H Q _ => ∃ (v : V) (d : PyData), vs = [v] ∧ Dp K H v d ∧ Q (wV (wordOf d)) H
section
variable {P : Program} {w : World} {K : PySem.W.Frag} {mg : Str → Option Value} {base : Heap}
theorem scTerm : FnScope ["thing"] ["thing"] (defScope sTerm) := ⟨rfl, rfl, rfl, by decide +kernel, rfl, by decide +kernel, by decide +kernel⟩
theorem ok_term {f : Addr} {fd : FuncData} (F : Fun K "is_term" "is_term" sTerm f fd) (T : Gs K mg) (CI : Cal P w K mg base 2 "is_integer_from_to" ["thing", "least", "greatest"] (spInt K)) :
    FnOk P w K mg base CX0 3 f fd ["thing"] (sp1 isTerm K) := by
  refine F.ok scTerm (fun vs H Q E h => ?_) (fun cdv A outer s H vs Q E hr h => ?_)
  · obtain ⟨v, d, rfl, _⟩ := h
    rfl
  obtain ⟨v, d, rfl, hd, ld, q⟩ := h
  refine ⟨_, pss_one (ps_ret (pe_or (pe_cmpR (op_inS (hu65 hr)) (pv 0) (pe_gref rfl T.mV) (by rfl)) (pe_one (pe_call CI.G hr rfl CI.m CI.kp CI.b .nil pass0 (pa_cons (pv 0) (pa_cons pe_int (pa_cons (pe_gint rfl T.mG) pa_nil))))))), ?_⟩
  refine ⟨_, rfl, d, vars, T.aV, rfl, hd, ld, T.kV _, by decide +kernel, _, rfl, ?_⟩
  refine ite2 (fun c => ?_) (fun c => ?_)
  · have e : isTerm d = true := by unfold isTerm; rw [show inS d vars = true from c]; rfl
    rw [e] at q
    exact q
  · refine ⟨_, rfl, v, d, 0, 15, rfl, hd, ?_⟩
    have e : isTerm d = intIn d 0 15 := by unfold isTerm; rw [show inS d vars = false from Bool.eq_false_iff.mpr c]; rfl
    rw [e] at q
    exact q
theorem scCond : FnScope ["thing", "variable", "sign", "term"] ["thing"] (defScope sCond) := ⟨rfl, rfl, rfl, by decide +kernel, rfl, by decide +kernel, by decide +kernel⟩
theorem ok_cond {f : Addr} {fd : FuncData} (F : Fun K "is_condition" "is_condition" sCond f fd) (T : Gs K mg) (CT : Cal P w K mg base 3 "is_term" ["thing"] (sp1 isTerm K)) :
    FnOk P w K mg base CX0 4 f fd ["thing"] (sp1 isCond K) := by
  refine F.ok scCond (fun vs H Q E h => ?_) (fun cdv A outer s H vs Q E hr h => ?_)
  · obtain ⟨v, d, rfl, _⟩ := h
    rfl
  obtain ⟨v, d, rfl, hd, ld, q⟩ := h
  refine ⟨_, pss_cons (ps_if (PW.pt (pw_or (pt_not (pt_val (pe_callB call_isi (by rfl) T.isi (by decide +kernel) (pa_cons (pv 0) (pa_cons (pe_bltn (v := .ty "tuple") (by rfl) T.tup (by decide +kernel) rfl) pa_nil)))))
      (pw_or1 (pt_cmpR op_ne (pe_callB call_len_seq (by rfl) T.len PySem.boot_len (pa_cons (pv 0) pa_nil)) pe_int (nomark _))))) (pss_one (ps_ret pe_bl)) pss_nil)
    (pss_cons (ps_asg (pv 0) (pg_tup (by rfl) (pgs_cons (pg_name (i := 1) scCond.nd rfl (.inl rfl)) (pgs_cons (pg_name (i := 2) scCond.nd rfl (.inl rfl)) (pgs_cons (pg_name (i := 3) scCond.nd rfl (.inl rfl)) pgs_nil)))))
    (pss_one (ps_ret (pe_and (pe_cmpR (op_inS (hu65 hr)) (pv 1) (pe_gref rfl T.mV) (by rfl)) (pe_and (pe_cmpR (op_inS (hu65 hr)) (pv 2) (pe_gref rfl T.mC) (by rfl))
      (pe_one (pe_call CT.G hr rfl CT.m CT.kp CT.b .nil pass0 (pa_cons (pv 3) pa_nil)))))))), ?_⟩
  refine ⟨_, rfl, v, .ty "tuple", _, _, _, rfl, .ty _, dp_ty hd, kit_isT d (by simp) (dp_nd hd), _, rfl, ?_⟩
  cases ht : isT d "tuple" with
  | false =>
    refine iteT (iteT ?_)
    have e : isCond d = false := by cases d <;> first | rfl | (simp [isT, tyN] at ht)
    rw [e] at q
    exact q
  | true =>
    obtain ⟨ds, rfl⟩ := isT_tup ht
    obtain ⟨a, xs, rfl, hs, ha⟩ := dp_tup_inv hd
    have hl := dpAll_len ha
    refine iteF ⟨_, rfl, a, xs, rfl, .inr hs, rfl, _, rfl, ?_⟩
    by_cases h3 : ds.length = 3
    · have c : V.int ((xs.length : Nat) : Int) = V.int 3 := by rw [hl, h3]; rfl
      refine iteNS c ?_
      cases ha with
      | nil => cases h3
      | cons h0 t1 =>
        cases t1 with
        | nil => cases h3
        | cons h1 t2 =>
          cases t2 with
          | nil => cases h3
          | cons h2 t3 =>
            cases t3 with
            | cons _ _ => simp at h3
            | nil =>
              rename_i x0 d0 x1 d1 x2 d2
              have lm := lay_mem (lay_tup ld)
              refine ⟨_, rfl, a, _, rfl, hs, rfl, _, _, rfl, _, _, rfl, _, _, rfl, rfl, ?_⟩
              refine ⟨_, rfl, d0, vars, T.aV, rfl, h0, lm _ (by simp), T.kV _, by decide +kernel, _, rfl, ?_⟩
              have e : isCond (.tuple [d0, d1, d2]) = (inS d0 vars && inS d1 signs && isTerm d2) := rfl
              rw [e] at q
              cases c1 : inS d0 vars with
              | false => rw [c1] at q; exact iteF q
              | true =>
                refine iteT ⟨_, rfl, d1, signs, T.aC, rfl, h1, lm _ (by simp), T.kC _, by decide +kernel, _, rfl, ?_⟩
                cases c2 : inS d1 signs with
                | false => rw [c1, c2] at q; exact iteF q
                | true =>
                  rw [c1, c2] at q
                  exact iteT ⟨_, rfl, _, d2, rfl, h2, lm _ (by simp), q⟩
    · refine ite2 (fun _ => ?_) (fun c => absurd ?_ c)
      · have e : isCond (.tuple ds) = false := by
          match ds, h3 with
          | [], _ => rfl
          | [_], _ => rfl
          | [_, _], _ => rfl
          | [_, _, _], h => exact absurd rfl h
          | _ :: _ :: _ :: _ :: _, _ => rfl
        rw [e] at q
        exact q
      · rw [Bool.not_eq_true', decide_eq_false_iff_not]
        intro z
        have z' : ((xs.length : Nat) : Int) = 3 := by injection z
        omega
end
section
variable {P : Program} {w : World} {K : PySem.W.Frag} {mg : Str → Option Value} {base : Heap}
theorem scPart : FnScope ["thing", "role"] ["thing", "role"] (defScope sPart) := ⟨rfl, rfl, rfl, by decide +kernel, rfl, by decide +kernel, by decide +kernel⟩
theorem ok_part {f : Addr} {fd : FuncData} (F : Fun K "is_part" "is_part" sPart f fd) (T : Gs K mg) (CI : Cal P w K mg base 2 "is_integer_from_to" ["thing", "least", "greatest"] (spInt K)) (CT : Cal P w K mg base 3 "is_term" ["thing"] (sp1 isTerm K)) :
    FnOk P w K mg base CX0 4 f fd ["thing", "role"] (spPart K) := by
  refine F.ok scPart (fun vs H Q E h => ?_) (fun cdv A outer s H vs Q E hr h => ?_)
  · obtain ⟨v, d, r, rfl, _⟩ := h
    rfl
  obtain ⟨v, d, r, rfl, hd, ld, q⟩ := h
  have hr1 : Room 2 _ := hr.mono (by decide)
  refine ⟨_, pss_cons (ps_if (pt_cmpR op_eq (pv 1) pe_str (nomark _)) (pss_one (ps_ret (pe_cmpR (op_inS (hu65 hr)) (pv 0) (pe_gref rfl T.mV) (by rfl)))) pss_nil)
    (pss_cons (ps_if (pt_cmpR op_eq (pv 1) pe_str (nomark _)) (pss_one (ps_ret (pe_call CT.G hr rfl CT.m CT.kp CT.b .nil pass0 (pa_cons (pv 0) pa_nil)))) pss_nil)
    (pss_cons (ps_if (pt_cmpR op_eq (pv 1) pe_str (nomark _)) (pss_one (ps_ret (pe_cmpR (op_inS (hu65 hr)) (pv 0) (pe_gref rfl T.mA) (by rfl)))) pss_nil)
    (pss_cons (ps_if (pt_cmpR op_eq (pv 1) pe_str (nomark _)) (pss_one (ps_ret (pe_call CI.G hr1 rfl CI.m CI.kp CI.b .nil pass0 (pa_cons (pv 0) (pa_cons pe_int (pa_cons (pe_gint rfl T.mL) pa_nil)))))) pss_nil)
    (pss_cons (ps_if (pt_cmpR op_eq (pv 1) pe_str (nomark _)) (pss_one (ps_ret (pe_call CI.G hr1 rfl CI.m CI.kp CI.b .nil pass0 (pa_cons (pv 0) (pa_cons pe_int (pa_cons pe_int pa_nil)))))) pss_nil)
    (pss_one (ps_ret (pe_call CI.G hr1 rfl CI.m CI.kp CI.b .nil pass0 (pa_cons (pv 0) (pa_cons pe_int (pa_cons (pe_gint rfl T.mG) pa_nil)))))))))), ?_⟩
  have ne : ∀ {z : Str}, ¬ decide (V.str r = V.str z) = true → ¬ r = z := fun c e => c (decide_eq_true (by rw [e]))
  have eq : ∀ {z : Str}, decide (V.str r = V.str z) = true → r = z := fun c => by
    have c' := of_decide_eq_true c
    injection c'
  unfold isPart at q
  refine ⟨_, rfl, rfl, _, rfl, ite2 (fun c => ?_) (fun c => ?_)⟩
  · rw [if_pos (eq c)] at q
    exact ⟨_, rfl, d, vars, T.aV, rfl, hd, ld, T.kV _, by decide +kernel, q⟩
  rw [if_neg (ne c)] at q
  refine ⟨_, rfl, rfl, _, rfl, ite2 (fun c => ?_) (fun c => ?_)⟩
  · rw [if_pos (eq c)] at q
    exact ⟨_, rfl, v, d, rfl, hd, ld, q⟩
  rw [if_neg (ne c)] at q
  refine ⟨_, rfl, rfl, _, rfl, ite2 (fun c => ?_) (fun c => ?_)⟩
  · rw [if_pos (eq c)] at q
    exact ⟨_, rfl, d, asks, T.aA, rfl, hd, ld, T.kA _, by decide +kernel, q⟩
  rw [if_neg (ne c)] at q
  refine ⟨_, rfl, rfl, _, rfl, ite2 (fun c => ?_) (fun c => ?_)⟩
  · rw [if_pos (eq c)] at q
    exact ⟨_, rfl, v, d, _, _, rfl, hd, q⟩
  rw [if_neg (ne c)] at q
  refine ⟨_, rfl, rfl, _, rfl, ite2 (fun c => ?_) (fun c => ?_)⟩
  · rw [if_pos (eq c)] at q
    exact ⟨_, rfl, v, d, _, _, rfl, hd, q⟩
  rw [if_neg (ne c)] at q
  exact ⟨_, rfl, v, d, _, _, rfl, hd, q⟩
theorem scWord : FnScope ["thing"] ["thing"] (defScope sWord) := ⟨rfl, rfl, rfl, by decide +kernel, rfl, by decide +kernel, by decide +kernel⟩
theorem ok_word {f : Addr} {fd : FuncData} (F : Fun K "word_of" "word_of" sWord f fd) (T : Gs K mg) : FnOk P w K mg base CX0 1 f fd ["thing"] (spWord K) := by
  refine F.ok scWord (fun vs H Q E h => ?_) (fun cdv A outer s H vs Q E hr h => ?_)
  · obtain ⟨v, d, rfl, _⟩ := h
    rfl
  obtain ⟨v, d, rfl, hd, q⟩ := h
  refine ⟨_, pss_cons (ps_if (PW.pt (pw_and (pt_val (pe_callB call_isi (by rfl) T.isi (by decide +kernel) (pa_cons (pv 0) (pa_cons (pe_bltn (v := .ty "tuple") (by rfl) T.tup (by decide +kernel) rfl) pa_nil))))
      (pw_and (pt_cmpR op_gt (pe_callB call_len_seq (by rfl) T.len PySem.boot_len (pa_cons (pv 0) pa_nil)) pe_int (nomark _))
      (pw_and1 (pt_val (pe_callB call_isi (by rfl) T.isi (by decide +kernel) (pa_cons (pe_ix ix_tup (pv 0) pe_int (fun _ _ => rfl)) (pa_cons (pe_bltn (v := .ty "str") (by rfl) T.str (by decide +kernel) rfl) pa_nil))))))))
      (pss_one (ps_ret (pe_ix ix_tup (pv 0) pe_int (fun _ _ => rfl)))) pss_nil) (pss_one (ps_ret pe_non)), ?_⟩
  refine ⟨_, rfl, v, .ty "tuple", _, _, _, rfl, .ty _, dp_ty hd, kit_isT d (by simp) (dp_nd hd), _, rfl, ?_⟩
  cases ht : isT d "tuple" with
  | false =>
    refine iteF (iteF ?_)
    have e : wordOf d = none := by cases d <;> first | rfl | (simp [isT, tyN] at ht)
    rw [e] at q
    exact q
  | true =>
    obtain ⟨ds, rfl⟩ := isT_tup ht
    obtain ⟨a, xs, rfl, hs, ha⟩ := dp_tup_inv hd
    refine iteT ⟨_, rfl, a, xs, rfl, .inr hs, _, _, rfl, rfl, _, rfl, ?_⟩
    cases ha with
    | nil => exact iteF (iteF q)
    | cons h0 t =>
      rename_i x0 xr d0 dr
      have c : decide ((0 : Int) < (((x0 :: xr).length : Nat) : Int)) = true := decide_eq_true (by rw [List.length_cons]; omega)
      rw [c]
      refine iteT ⟨_, rfl, a, _, _, _, rfl, rfl, hs, atI_nat (j := 0) rfl, x0, .ty "str", _, _, _, rfl, .ty _, dp_ty h0, kit_isT d0 (by simp) (dp_nd h0), _, rfl, ?_⟩
      cases hz : isT d0 "str" with
      | false =>
        refine iteF ?_
        have e : wordOf (.tuple (d0 :: dr)) = none := by cases d0 <;> first | rfl | (simp [isT, tyN] at hz)
        rw [e] at q
        exact q
      | true =>
        obtain ⟨z, rfl⟩ := isT_str hz
        cases h0
        exact iteT ⟨_, rfl, a, _, _, _, rfl, rfl, hs, atI_nat (j := 0) rfl, q⟩
end
end My

namespace My
open PySem L2 PyProof.Rows
/-! ### a written dict with text keys, asked by a text or by None -/
inductive Ents : List DictEntry → List (Str × V) → Prop
  | nil : Ents [] []
  | cons {h : Int} {x : Str} {t : Tok} {u : Value} {v : V} {r : List DictEntry} {rs : List (Str × V)} : RelV v u → Ents r rs → Ents (⟨h, .str x t, u⟩ :: r) ((x, v) :: rs)
def lookT (tab : List (Str × V)) (z : Str) : Option V := (tab.find? fun p => p.1 == z).map (·.2)
theorem ents_find : ∀ {l : List DictEntry} {tab : List (Str × V)}, Ents l tab → ∀ z : Str,
    (∃ (e : DictEntry) (v : V), l.find? (fun d => d.key.isStr z) = some e ∧ lookT tab z = some v ∧ RelV v e.val) ∨ (l.find? (fun d => d.key.isStr z) = none ∧ lookT tab z = none)
  | _, _, .nil, z => .inr ⟨rfl, rfl⟩
  | _, _, .cons (x := x) (h := h) (t := t) (u := u) (v := v) (r := l0) (rs := rs) rv r, z => by
    have ih := ents_find r z
    by_cases c : (x == z) = true
    · refine .inl ⟨⟨h, .str x t, u⟩, v, ?_, ?_, rv⟩
      · rw [List.find?_cons_of_pos]
        exact c
      · unfold lookT
        rw [List.find?_cons_of_pos (by exact c)]
        rfl
    · have c1 : List.find? (fun d : DictEntry => d.key.isStr z) (⟨h, .str x t, u⟩ :: l0) = l0.find? (fun d : DictEntry => d.key.isStr z) := List.find?_cons_of_neg (by exact c)
      have c2 : lookT ((x, v) :: rs) z = lookT rs z := by
        unfold lookT
        rw [List.find?_cons_of_neg (by exact c)]
      rw [c2]
      rcases ih with ⟨e, v', h1, h2, h3⟩ | ⟨h1, h2⟩
      · exact .inl ⟨e, v', c1.trans h1, h2, h3⟩
      · exact .inr ⟨c1.trans h1, h2⟩
structure KTab (K : PySem.W.Frag) (w : World) (d : Addr) (tab : List (Str × V)) : Prop where
  ex : ∃ es n, K.lookup d = some ⟨.type "dict", none, .dict es n, #[]⟩ ∧ PySem.W.KeysLit w.params es.toList ∧ Ents es.toList tab
  low : (d == sysModules) = false
theorem findBy_tab {es : Array DictEntry} {tab : List (Str × V)} (E : Ents es.toList tab) (z : Str) :
    (∃ u v, findBy Value.isStrOf es z = some u ∧ lookT tab z = some v ∧ RelV v u) ∨ (findBy Value.isStrOf es z = none ∧ lookT tab z = none) := by
  obtain ⟨l⟩ := es
  have q : (fun d : DictEntry => Value.isStrOf z d.key) = fun d => d.key.isStr z := funext fun d => (PySem.W.isStr_of z d.key).symm
  unfold findBy
  rw [List.find?_toArray, q]
  rcases ents_find E z with ⟨e, v, h1, h2, h3⟩ | ⟨h1, h2⟩
  · exact .inl ⟨e.val, v, by rw [show List.find? (fun d : DictEntry => d.key.isStr z) l = some e from h1]; rfl, h2, h3⟩
  · exact .inr ⟨by rw [show List.find? (fun d : DictEntry => d.key.isStr z) l = none from h1]; rfl, h2⟩
theorem none_mapK {P : Program} {w : World} {K : PySem.W.Frag} {h : Heap} {a : Addr} {es : Array DictEntry} {n : Nat} (X : K.In h) (hl : K.lookup a = some ⟨.type "dict", none, .dict es n, #[]⟩) (hk : PySem.W.KeysLit w.params es.toList) :
    ∃ f, h.MapOf (noneKind P w) a f ∧ f none = none := by
  refine ⟨fun k => findBy (noneKind P w).is es k, ⟨_, es, n, X _ _ hl, ⟨rfl, rfl, rfl⟩, rfl, fun e he => ?_, fun k => rfl⟩, ?_⟩
  · obtain ⟨x, t, e1, e2⟩ := hk.all e (Array.mem_toList_iff.mpr he)
    refine ⟨some (.inr x), ?_, e2⟩
    rw [e1]
    exact strKind_is P w x t
  · have q : (es.find? fun e => nkIs none e.key) = none := by
      rw [Array.find?_eq_none]
      intro e he hq
      obtain ⟨x, t, e1, _⟩ := hk.all e (Array.mem_toList_iff.mpr he)
      rw [e1] at hq
      exact nomatch (show false = true from hq)
    show (es.find? fun e => nkIs none e.key).map (·.val) = none
    rw [q] <;> rfl
def getT (tab : List (Str × V)) (wd : Option Str) : Option V := wd.bind (lookT tab)
section
variable {X : Cx}
def rInK (K : PySem.W.Frag) (w : World) (neg : Bool) : R2 := fun x y H Q => ∃ (d : Addr) (tab : List (Str × V)) (wd : Option Str), y = .ref d ∧ KTab K w d tab ∧ x = wV wd ∧ Q (.bl (if neg then !(getT tab wd).isSome else (getT tab wd).isSome)) H
theorem op_inK : OpR X (compareOp .In) (rInK X.K X.w false) := by
  intro pins s σ H x y v u Q I rx ry h
  obtain ⟨d, tab, wd, rfl, ⟨⟨es, n, hl, hk, he⟩, low⟩, rfl, q⟩ := h
  cases ry
  cases wd with
  | none =>
    cases rx
    obtain ⟨f, hm, hf⟩ := none_mapK (P := X.prog) (w := X.w) I.kIn hl hk
    refine wpAny_in_of (show (noneKind X.prog X.w).is none .none = true from rfl) low hm ?_
    rw [hf]
    exact ⟨.bl _, H, I.tok _, rfl, q⟩
  | some z =>
    obtain ⟨t, rfl⟩ := rx
    refine wpAny_in_of (PySem.strKind_is X.prog X.w z t) low (PySem.W.mapOf_K (prog := X.prog) I.kIn hl hk) ?_
    rcases findBy_tab he z with ⟨u, v, h1, h2, h3⟩ | ⟨h1, h2⟩
    · rw [h1]
      refine ⟨.bl true, H, I.tok _, rfl, ?_⟩
      have e : (getT tab (some z)).isSome = true := by show (lookT tab z).isSome = true; rw [h2]; rfl
      rw [e] at q
      exact q
    · rw [h1]
      refine ⟨.bl false, H, I.tok _, rfl, ?_⟩
      have e : (getT tab (some z)).isSome = false := by show (lookT tab z).isSome = false; rw [h2]; rfl
      rw [e] at q
      exact q
theorem ktab_ix {K : PySem.W.Frag} {w : World} {d : Addr} {tab : List (Str × V)} {z : Str} {v : V} (T : KTab K w d tab) (h : lookT tab z = some v) : KDct K w d z v := by
  obtain ⟨⟨es, n, hl, hk, he⟩, low⟩ := T
  rcases ents_find he z with ⟨e, v', h1, h2, h3⟩ | ⟨h1, h2⟩
  · rw [h] at h2
    cases h2
    refine ⟨es, n, e.val, hl, hk, ?_, h3⟩
    unfold PySem.W.nsIn
    rw [hl]
    dsimp only
    rw [h1]
  · rw [h] at h2
    cases h2
def tGetK (K : PySem.W.Frag) (w : World) (to : TE) (t : TA) : TE := fun σ H Q => to σ H fun x H1 => ∃ (d : Addr) (tab : List (Str × V)), x = .ref d ∧ KTab K w d tab ∧ t σ H1 fun ys H2 => ∃ wd : Option Str, ys = [wV wd] ∧ Q ((getT tab wd).getD .non) H2
variable {o e : Expr} {es : List Expr} {to : TE} {t : TA} {apos cpos : Pos}
theorem pe_getK (ho : PE X o to) (ha : PA X [e] t)
    (hbase : attributeBase o "get" X.env (eval o X.env) = eval o X.env := by rfl)
    (hfew : ((backTo cpos (starEach [e] X.env)).all (fun x => !x.1) && (backToKw cpos (keywordEach [] X.env)).all (fun x => x.1.isSome)
      && decide ([e].length + ([] : List Keyword).length + (if ([] : List Keyword).isEmpty then 0 else 1) < 30)) = true := by rfl)
    (hline : (apos.endLine == cpos.line) = true := by rfl) (hs : starEach [e] X.env = (false, eval e X.env) :: starEach [] X.env := by rfl) (hplain : (backTo cpos (starEach [] X.env)).any (·.1) = false := by rfl) :
    PE X (.Call (.Attribute o "get" apos) [e] [] cpos) (tGetK X.K X.w to t) := by
  refine ⟨fun pins s σ H Q I h => ?_⟩
  refine wpAny_Call_method_late hbase hfew hline rfl (thn (ho.run pins s σ H _ I h) fun v s1 ⟨x, H1, I1, r1, d, tab, ex, KT, q1⟩ => ?_)
  obtain ⟨⟨es, n, hl, hk, he⟩, low⟩ := KT
  subst ex
  obtain rfl : v = Value.ref d := r1
  have hm0 := PySem.W.mapOf_K (prog := X.prog) (w := X.w) I1.kIn hl hk
  refine ⟨"dict", "dict.get", PySem.F.plainAttrs_dict, PySem.F.slot_dict_get, PySem.F.type_dict_get, hm0.typeIs, fun a e2 => ?_, ?_⟩
  · cases e2
    exact ⟨_, I1.kIn _ _ hl, rfl⟩
  have hA := ha.run cpos pins s1 σ H1 _ I1 q1
  rw [hs] at hA ⊢
  refine Calls.callWith_builtin (by show (false || (backTo cpos (starEach [] X.env)).any (·.1)) = false; rw [hplain] <;> rfl) (Calls.evalArgs_plain ?_)
  refine thn hA fun us s2 ⟨vs, H2, I2, r2, wd, ev, q2⟩ => ?_
  subst ev
  obtain ⟨u, rfl, ru⟩ := Vals.one r2
  have hm := PySem.W.mapOf_K (prog := X.prog) (w := X.w) I2.kIn hl hk
  cases wd with
  | none =>
    cases ru
    obtain ⟨f, hmn, hf⟩ := none_mapK (P := X.prog) (w := X.w) I2.kIn hl hk
    refine call_meetsIn PySem.F.slot_dict_get hm.typeIs PySem.F.entry_dict_get (PySem.F.args_dict_get_2 _ _) (meets_dict_get (noneKind X.prog X.w) d (show (noneKind X.prog X.w).is none .none = true from rfl) low) ⟨f, hmn, ?_⟩
    rw [hf]
    exact ⟨.non, H2, I2.tok _, rfl, q2⟩
  | some z =>
    obtain ⟨t, rfl⟩ := ru
    refine call_meetsIn PySem.F.slot_dict_get hm.typeIs PySem.F.entry_dict_get (PySem.F.args_dict_get_2 _ _) (meets_dict_get (strKind X.prog X.w) d (PySem.strKind_is X.prog X.w z t) low) ⟨_, hm, ?_⟩
    rcases findBy_tab he z with ⟨u, v, h1, h2, h3⟩ | ⟨h1, h2⟩
    · rw [h1]
      have e : getT tab (some z) = some v := h2
      rw [e] at q2
      exact ⟨v, H2, I2.tok _, h3, q2⟩
    · rw [h1]
      have e : getT tab (some z) = none := h2
      rw [e] at q2
      exact ⟨.non, H2, I2.tok _, rfl, q2⟩
end
theorem lookT_eq {x : Str} {v : V} {r : List (Str × V)} : lookT ((x, v) :: r) x = some v := by
  unfold lookT
  rw [List.find?_cons_of_pos (by exact beq_self_eq_true x)]
  rfl
theorem lookT_ne {x z : Str} {v : V} {r : List (Str × V)} (h : ¬ z = x) : lookT ((x, v) :: r) z = lookT r z := by
  unfold lookT
  rw [List.find?_cons_of_neg (by intro c; exact h (eq_of_beq (show (x == z) = true from c)).symm)]
structure Gd (K : PySem.W.Frag) (w : World) (mg : Str → Option Value) where
  aB : Addr
  mB : mg "BODIES" = some (.ref aB)
  tB : KTab K w aB [("if", .int 2), ("while", .int 1)]
  aS : Addr
  r1 : Addr
  r2 : Addr
  r3 : Addr
  mS : mg "SHARED_ROLES" = some (.ref aS)
  tS : KTab K w aS [("set", .ref r1), ("add", .ref r2), ("wait", .ref r3)]
  k1 : ∀ H, SqT K H r1 ((["variable", "value"] : List Str).map V.str)
  k2 : ∀ H, SqT K H r2 ((["variable", "term"] : List Str).map V.str)
  k3 : ∀ H, SqT K H r3 ((["steps"] : List Str).map V.str)
  aT : Addr
  r4 : Addr
  r5 : Addr
  mT : mg "TELLER_ROLES" = some (.ref aT)
  tT : KTab K w aT [("ask", .ref r4), ("answer", .ref r5)]
  k4 : ∀ H, SqT K H r4 ((["sign", "term", "variable"] : List Str).map V.str)
  k5 : ∀ H, SqT K H r5 ((["answer"] : List Str).map V.str)
  aC : Addr
  r6 : Addr
  r7 : Addr
  mC : mg "COLLECTOR_ROLES" = some (.ref aC)
  tC : KTab K w aC [("grow", .ref r6), ("list", .ref r7)]
  k6 : ∀ H, SqT K H r6 ((["term"] : List Str).map V.str)
  k7 : ∀ H, SqT K H r7 ((["term"] : List Str).map V.str)
def rolesZ (z kind : Str) : Option (List Str) :=
  if z = "set" then some ["variable", "value"] else if z = "add" then some ["variable", "term"] else if z = "wait" then some ["steps"]
  else if kind = "teller" then (if z = "ask" then some ["sign", "term", "variable"] else if z = "answer" then some ["answer"] else none)
  else (if z = "grow" then some ["term"] else if z = "list" then some ["term"] else none)
def rolesOf (wd : Option Str) (kind : Str) : Option (List Str) := wd.bind fun z => rolesZ z kind
def allParts (ps : List PyData) (rs : List Str) : Bool := ((ps.zip rs).map fun p => isPart p.1 p.2).all id
def isPlain (d : PyData) (kind : Str) : Bool := match d with
  | .tuple (.str z :: ps) => (match rolesZ z kind with
    | some rs => decide (ps.length = rs.length) && allParts ps rs
    | none => false)
  | _ => false
def cond3 : List PyData → Bool
  | [c, _, _] => isCond c
  | _ => false
def cond2 : List PyData → Bool
  | [c, _] => isCond c
  | _ => false
/-- a statement, whatever its bodies are -/
def isOut (d : PyData) (kind : Str) : Bool := match d with
  | .tuple (.str z :: ps) => if z = "if" then cond3 ps else if z = "while" then cond2 ps else isPlain d kind
  | _ => false
def bodsOf (d : PyData) : List PyData := match d with
  | .tuple (.str z :: ps) => if z = "if" ∨ z = "while" then ps.drop 1 else []
  | _ => []
def spRoles (K : PySem.W.Frag) : Sp := fun vs H Q _ => ∃ (wd : Option Str) (kind : Str), vs = [wV wd, .str kind] ∧ (rolesOf wd kind = none → Q .non H) ∧
  (∀ rs a, rolesOf wd kind = some rs → (∀ H, SqT K H a (rs.map V.str)) → Q (.ref a) H)
def sp2 (f : PyData → Str → Bool) (K : PySem.W.Frag) : Sp := fun vs H Q _ => ∃ (v : V) (d : PyData) (kind : Str), vs = [v, .str kind] ∧ Dp K H v d ∧ Lay d ∧ ∀ H', Same H H' → Q (.bl (f d kind)) H'
section
variable {P : Program} {w : World} {K : PySem.W.Frag} {mg : Str → Option Value} {base : Heap}
theorem scRoles : FnScope ["word", "kind"] ["word", "kind"] (defScope sRoles) := ⟨rfl, rfl, rfl, by decide +kernel, rfl, by decide +kernel, by decide +kernel⟩
theorem ok_roles {f : Addr} {fd : FuncData} (F : Fun K "roles_of" "roles_of" sRoles f fd) (D : Gd K w mg) : FnOk P w K mg base CX0 1 f fd ["word", "kind"] (spRoles K) := by
  refine F.ok scRoles (fun vs H Q E h => ?_) (fun cdv A outer s H vs Q E hr h => ?_)
  · obtain ⟨wd, kind, rfl, _⟩ := h
    rfl
  obtain ⟨wd, kind, rfl, q0, q1⟩ := h
  refine ⟨_, pss_cons (ps_if (pt_cmpR op_inK (pv 0) (pe_gref rfl D.mS) (by rfl)) (pss_one (ps_ret (pe_ix ix_kdict (pe_gref rfl D.mS) (pv 0) (fun _ _ => rfl)))) pss_nil)
    (pss_cons (ps_if (pt_cmpR op_eq (pv 1) pe_str (nomark _)) (pss_one (ps_ret (pe_getK (pe_gref rfl D.mT) (pa_cons (pv 0) pa_nil)))) pss_nil)
    (pss_one (ps_ret (pe_getK (pe_gref rfl D.mC) (pa_cons (pv 0) pa_nil))))), ?_⟩
  refine ⟨_, rfl, D.aS, _, wd, rfl, D.tS, rfl, _, rfl, ?_⟩
  have keq : ∀ {z : Str}, decide (V.str kind = V.str z) = true → kind = z := fun c => by
    have c' := of_decide_eq_true c
    injection c'
  have kne : ∀ {z : Str}, ¬ decide (V.str kind = V.str z) = true → ¬ kind = z := fun c e => c (decide_eq_true (by rw [e]))
  cases wd with
  | none =>
    refine iteF ?_
    refine ⟨_, rfl, rfl, _, rfl, ite2 (fun c => ?_) (fun c => ?_)⟩
    · exact ⟨D.aT, _, rfl, D.tT, _, rfl, none, rfl, q0 rfl⟩
    · exact ⟨D.aC, _, rfl, D.tC, _, rfl, none, rfl, q0 rfl⟩
  | some z =>
    have eG : ∀ tab, getT tab (some z) = lookT tab z := fun _ => rfl
    rw [eG]
    have eR : rolesOf (some z) kind = rolesZ z kind := rfl
    rw [eR] at q0
    have q1' : ∀ rs a, rolesZ z kind = some rs → (∀ H, SqT K H a (rs.map V.str)) → Q (.ref a) H := q1
    unfold rolesZ at q0 q1'
    by_cases c1 : z = "set"
    · subst c1
      rw [lookT_eq]
      exact iteT ⟨_, rfl, D.aS, _, _, rfl, rfl, ktab_ix D.tS lookT_eq, q1' _ _ (if_pos rfl) D.k1⟩
    rw [lookT_ne c1]
    rw [if_neg c1] at q0 q1'
    by_cases c2 : z = "add"
    · subst c2
      rw [lookT_eq]
      exact iteT ⟨_, rfl, D.aS, _, _, rfl, rfl, ktab_ix D.tS (by rw [lookT_ne c1, lookT_eq]), q1' _ _ (if_pos rfl) D.k2⟩
    rw [lookT_ne c2]
    rw [if_neg c2] at q0 q1'
    by_cases c3 : z = "wait"
    · subst c3
      rw [lookT_eq]
      exact iteT ⟨_, rfl, D.aS, _, _, rfl, rfl, ktab_ix D.tS (by rw [lookT_ne c1, lookT_ne c2, lookT_eq]), q1' _ _ (if_pos rfl) D.k3⟩
    rw [lookT_ne c3]
    rw [if_neg c3] at q0 q1'
    refine iteF ?_
    refine ⟨_, rfl, rfl, _, rfl, ite2 (fun c => ?_) (fun c => ?_)⟩
    · rw [if_pos (keq c)] at q0 q1'
      refine ⟨D.aT, _, rfl, D.tT, _, rfl, some z, rfl, ?_⟩
      rw [eG]
      by_cases c4 : z = "ask"
      · subst c4
        rw [lookT_eq]
        exact q1' _ _ (if_pos rfl) D.k4
      rw [lookT_ne c4]
      rw [if_neg c4] at q0 q1'
      by_cases c5 : z = "answer"
      · subst c5
        rw [lookT_eq]
        exact q1' _ _ (if_pos rfl) D.k5
      rw [lookT_ne c5]
      rw [if_neg c5] at q0 q1'
      exact q0 rfl
    · rw [if_neg (kne c)] at q0 q1'
      refine ⟨D.aC, _, rfl, D.tC, _, rfl, some z, rfl, ?_⟩
      rw [eG]
      by_cases c4 : z = "grow"
      · subst c4
        rw [lookT_eq]
        exact q1' _ _ (if_pos rfl) D.k6
      rw [lookT_ne c4]
      rw [if_neg c4] at q0 q1'
      by_cases c5 : z = "list"
      · subst c5
        rw [lookT_eq]
        exact q1' _ _ (if_pos rfl) D.k7
      rw [lookT_ne c5]
      rw [if_neg c5] at q0 q1'
      exact q0 rfl
end
/-! ### a comprehension over zip of two tuples -/
theorem lc_zipT {K : PySem.W.Frag} {a b : Addr} {xs ys : List V} {g : TG} {tt : TT} {te : TE} {vs : List Nat} {σ : L2.St} {H1 : Hp} {D : Addr} {Qd : Hp → Prop} (hl : xs.length = ys.length) (Pv : Nat → Hp → Prop) (h0 : Pv 0 (upd H1 D (.lst []))) (hq : ∀ i H, Pv i H → SqT K H a xs ∧ SqT K H b ys)
    (hs : ∀ i x y T H, xs[i]? = some x → ys[i]? = some y → Pv i H → H T = none → g (.ref T) (wipe σ vs) (upd H T (.tup [x, y])) fun σ2 H2 => wipe σ2 vs = wipe σ vs ∧ tt σ2 H2 fun b H3 =>
      if b = true then te σ2 H3 fun y H4 => ∃ acc, H4 D = some (.lst acc) ∧ acc.length < sizeLine ∧ Pv (i + 1) (upd H4 D (.lst (acc ++ [y]))) else Pv (i + 1) H3) (hd : ∀ H, Pv xs.length H → Qd H) :
    ∃ W : Nat → Nat → Hp → Prop, (∃ m, W 0 m (upd H1 D (.lst []))) ∧ ∀ i m H, W i m H →
      ((RZ.ItzT K a b).stop i H ∧ Qd H) ∨ ((RZ.ItzT K a b).go i H ∧ ∃ Nx : Hp → Prop, (∀ H', Nx H' → ∃ m', m' < m ∧ W (i + 1) m' H') ∧ ∀ x H', (RZ.ItzT K a b).yld i H x H' → g x (wipe σ vs) H' fun σ2 H2 => wipe σ2 vs = wipe σ vs ∧ tt σ2 H2 fun b H3 =>
        if b = true then te σ2 H3 fun y H4 => ∃ acc, H4 D = some (.lst acc) ∧ acc.length < sizeLine ∧ Nx (upd H4 D (.lst (acc ++ [y]))) else Nx H3) := by
  refine ⟨fun i m H => m = xs.length - i ∧ i ≤ xs.length ∧ Pv i H, ⟨xs.length, by simp, Nat.zero_le _, h0⟩, ?_⟩
  rintro i m H ⟨rfl, hi, p⟩
  obtain ⟨q1, q2⟩ := hq i H p
  by_cases hlt : i < xs.length
  · have hlt2 : i < ys.length := by omega
    refine .inr ⟨⟨xs, ys, xs[i], ys[i], q1, q2, by simp [hlt], by simp [hlt2]⟩, Pv (i + 1), fun H' p' => ⟨xs.length - (i + 1), by omega, rfl, hlt, p'⟩, fun v H' y => ?_⟩
    obtain ⟨T, x, y, rfl, hT, rfl, hx, hy⟩ := y
    exact hs i x y T H (hx xs q1) (hy ys q2) p hT
  · have e : i = xs.length := by omega
    subst e
    exact .inl ⟨⟨xs, ys, q1, q2, .inl (Nat.le_refl _)⟩, hd H p⟩
theorem same_upd {H H' : Hp} {D : Addr} (e : Same H H') (n : H D = none) (o : HO) : Same H (upd H' D o) := fun b u q => by
  rw [upd_ne (ne_of_none q n)]
  exact e _ _ q
def partsB (ps : List PyData) (rs : List Str) : List Bool := (ps.zip rs).map fun p => isPart p.1 p.2
theorem word_inv {d : PyData} {z : Str} (h : wordOf d = some z) : ∃ ps, d = .tuple (.str z :: ps) := by
  match d, h with
  | .tuple (.str x :: ps), h => cases h; exact ⟨ps, rfl⟩
theorem plain_none {d : PyData} {kind : Str} (h : rolesOf (wordOf d) kind = none) : isPlain d kind = false := by
  match d, h with
  | .tuple (.str x :: ps), h =>
    have h' : rolesZ x kind = none := h
    show (match rolesZ x kind with | some rs => decide (ps.length = rs.length) && allParts ps rs | none => false) = false
    rw [h']
  | .tuple [], _ => rfl
  | .tuple (.none :: _), _ => rfl
  | .tuple (.bool _ :: _), _ => rfl
  | .tuple (.int _ :: _), _ => rfl
  | .tuple (.list _ :: _), _ => rfl
  | .tuple (.tuple _ :: _), _ => rfl
  | .tuple (.dict _ :: _), _ => rfl
  | .none, _ => rfl
  | .bool _, _ => rfl
  | .int _, _ => rfl
  | .str _, _ => rfl
  | .list _, _ => rfl
  | .dict _, _ => rfl
theorem plain_some {z kind : Str} {ps : List PyData} {rs : List Str} (h : rolesZ z kind = some rs) : isPlain (.tuple (.str z :: ps)) kind = (decide (ps.length = rs.length) && allParts ps rs) := by
  show (match rolesZ z kind with | some rs => decide (ps.length = rs.length) && allParts ps rs | none => false) = _
  rw [h]
theorem roles_short {z kind : Str} {rs : List Str} (h : rolesZ z kind = some rs) : rs.length ≤ 3 := by
  unfold rolesZ at h
  repeat' split at h
  all_goals first | (cases h; decide) | (cases h)
theorem cut1 (x : V) (xs : List V) : cutV (x :: xs) (some 1) none = xs := by
  have e : HT.sIx (x :: xs).length 0 (some 1) = 1 := by
    have := HT.sIx_nat (x :: xs).length 0 1
    rw [show ((1 : Nat) : Int) = 1 from rfl] at this
    rw [this, List.length_cons]
    omega
  unfold cutV
  rw [e, HT.sIx_none]
  simp
theorem not_whole1 (x : V) (xs : List V) : ¬ (HT.sIx (x :: xs).length 0 (some 1) = 0 ∧ HT.sIx (x :: xs).length (x :: xs).length none = (x :: xs).length) := by
  intro h
  have e : HT.sIx (x :: xs).length 0 (some 1) = 1 := by
    have := HT.sIx_nat (x :: xs).length 0 1
    rw [show ((1 : Nat) : Int) = 1 from rfl] at this
    rw [this, List.length_cons]
    omega
  rw [e] at h
  exact absurd h.1 (by decide)
section
variable {P : Program} {w : World} {K : PySem.W.Frag} {mg : Str → Option Value} {base : Heap}
theorem scPlain : FnScope ["thing", "kind", "roles", "part", "role"] ["thing", "kind"] (defScope sPlain) := ⟨rfl, rfl, rfl, by decide +kernel, rfl, by decide +kernel, by decide +kernel⟩
theorem ok_plain {f : Addr} {fd : FuncData} (F : Fun K "is_plain_statement" "is_plain_statement" sPlain f fd) (T : Gs K mg) (CW : Cal P w K mg base 1 "word_of" ["thing"] (spWord K)) (CR : Cal P w K mg base 1 "roles_of" ["word", "kind"] (spRoles K))
    (CP : Cal P w K mg base 4 "is_part" ["thing", "role"] (spPart K)) : FnOk P w K mg base CX0 5 f fd ["thing", "kind"] (sp2 isPlain K) := by
  refine F.ok scPlain (fun vs H Q E h => ?_) (fun cdv A outer s H vs Q E hr h => ?_)
  · obtain ⟨v, d, kind, rfl, _⟩ := h
    rfl
  obtain ⟨v, d, kind, rfl, hd, ld, q⟩ := h
  have hr1 : Room 1 _ := hr.mono (by decide)
  refine ⟨_, pss_cons (ps_set (i := 2) scPlain.nd rfl (.inl rfl) (pe_call CR.G hr1 rfl CR.m CR.kp CR.b .nil pass0 (pa_cons (pe_call CW.G hr1 rfl CW.m CW.kp CW.b .nil pass0 (pa_cons (pv 0) pa_nil)) (pa_cons (pv 1) pa_nil))))
    (pss_cons (ps_if (PW.pt (pw_or (pt_cmpR op_isN (pv 2) pe_non (nomark _)) (pw_or1 (pt_cmpR op_ne (pe_callB call_len_seq (by rfl) T.len PySem.boot_len (pa_cons (pv 0) pa_nil)) (pe_op op_add pe_int (pe_callB call_len_seq (by rfl) T.len PySem.boot_len (pa_cons (pv 2) pa_nil))) (nomark _)))))
      (pss_one (ps_ret pe_bl)) pss_nil)
    (pss_one (ps_ret (pe_callB (cr_all rfl) (by rfl) T.all (by decide +kernel) (pa_cons
      (pe_lc (own := [("part", 3), ("role", 4)]) (g := gTup K 2 (gCons (gName 3) (gCons (gName 4) gNil))) (tt := tYes) rfl scPlain.nd
        (RZ.pi_zipA (by rfl) T.zip (pa_cons (pe_slice sl_tup (pv 0) (po_some pe_int) po_none) (pa_cons (pv 2) pa_nil)))
        (blkOk_by (N := ["thing", "kind", "roles", "part", "role"]) (sc := defScope sPlain) (by decide +kernel))
        (fun _ _ _ _ _ => pg_tup (by rfl) (pgs_cons (pg_name (i := 3) scPlain.nd rfl (.inl rfl)) (pgs_cons (pg_name (i := 4) scPlain.nd rfl (.inl rfl)) pgs_nil)))
        (fun _ _ _ _ _ => pts_nil)
        (fun _ _ _ _ _ => pe_call CP.G hr rfl CP.m CP.kp CP.b .nil pass0 (pa_cons (pv 3) (pa_cons (pv 4) pa_nil)))) pa_nil))))), ?_⟩
  refine ⟨_, rfl, v, d, rfl, hd, _, rfl, wordOf d, kind, rfl, fun hn => ?_, fun rs a hs ka => ?_⟩
  · rw [plain_none hn] at q
    exact ⟨_, rfl, rfl, _, rfl, ite2 (fun _ => iteT (q H (Same.refl H))) (fun c => absurd (decide_eq_true rfl) c)⟩
  · refine ⟨_, rfl, rfl, _, rfl, ite2 (fun c => nomatch (of_decide_eq_true c)) (fun _ => ?_)⟩
    cases hw : wordOf d with
    | none => rw [hw] at hs; cases hs
    | some z =>
      obtain ⟨ps, rfl⟩ := word_inv hw
      have hs' : rolesZ z kind = some rs := by rw [hw] at hs; exact hs
      have h3 := roles_short hs'
      rw [plain_some hs'] at q
      obtain ⟨a0, xs, rfl, h0, ha⟩ := dp_tup_inv hd
      cases ha with
      | cons hz hp =>
        rename_i x0 xr
        have hl := dpAll_len hp
        refine ⟨_, rfl, a0, _, rfl, .inr h0, _, rfl, a, _, rfl, .inr (ka _), _, _, rfl, rfl, rfl, _, rfl, ?_⟩
        by_cases c : ps.length = rs.length
        · have c' : V.int (((x0 :: xr).length : Nat) : Int) = V.int (1 + ((rs.map V.str).length : Nat)) := by
            rw [List.length_cons, List.length_map, hl, c]
            congr 1
            omega
          refine iteNS c' ?_
          rw [decide_eq_true c, Bool.true_and] at q
          refine ⟨_, rfl, _, rfl, a0, _, rfl, h0, not_whole1 _ _, fun p np => ⟨_, rfl, p, a, _, _, rfl, .inr ⟨SqT.of upd_same, ka _, fun D nD => ?_⟩⟩⟩
          rw [cut1] at nD ⊢
          have g1 : Same H (upd H p (.tup xr)) := same_new np _
          refine lc_zipT (K := K) (a := p) (b := a) (xs := xr) (ys := rs.map V.str) (by rw [List.length_map]; omega)
            (fun i H' => Same (upd H p (.tup xr)) H' ∧ H' D = some (.lst (((partsB ps rs).take i).map V.bl))) ⟨same_upd (Same.refl _) nD _, upd_same⟩
            (fun i H' P => ⟨SqT.of (P.1 _ _ upd_same), ka _⟩) ?_ ?_
          · rintro i x y T H' hx hy ⟨s1, eD⟩ nT
            obtain ⟨di, hdi, hxd⟩ := dpAll_get hp hx
            rw [List.getElem?_map] at hy
            cases hri : rs[i]? with
            | none => rw [hri] at hy; cases hy
            | some ri =>
              rw [hri] at hy
              cases hy
              have sT : Same H' (upd H' T (.tup [x, V.str ri])) := same_new nT _
              have nDT : D ≠ T := ne_of_none eD nT
              refine ⟨T, _, rfl, SqT.of upd_same, rfl, _, _, rfl, _, _, rfl, rfl, rfl, ?_⟩
              refine ⟨_, rfl, _, rfl, x, di, ri, rfl, dp_mono (g1.trans (s1.trans sT)) _ _ hxd, ?_, _, sT _ _ eD, ?_, ?_, ?_⟩
              · exact lay_mem (lay_tup ld) _ (List.mem_cons_of_mem _ (List.mem_of_getElem? hdi))
              · rw [List.length_map, List.length_take, partsB, List.length_map, List.length_zip]
                exact Nat.lt_of_le_of_lt (by omega : _ ≤ 1000) (by decide)
              · exact same_upd (s1.trans sT) nD _
              · rw [upd_same]
                congr 2
                have hz : (ps.zip rs)[i]? = some (di, ri) := by rw [List.getElem?_zip_eq_some]; exact ⟨hdi, hri⟩
                have hm : (partsB ps rs)[i]? = some (isPart di ri) := by rw [partsB, List.getElem?_map, hz]; rfl
                have hil : i < (partsB ps rs).length := (List.getElem?_eq_some_iff.mp hm).1
                rw [← List.take_append_getElem hil, List.map_append]
                congr 1
                rw [(List.getElem?_eq_some_iff.mp hm).2]
                rfl
          · rintro H' ⟨s1, eD⟩
            refine ⟨D, partsB ps rs, rfl, SqL.of ?_, q _ (g1.trans s1)⟩
            rw [eD, List.take_of_length_le]
            rw [partsB, List.length_map, List.length_zip]
            omega
        · rw [decide_eq_false c, Bool.false_and] at q
          refine ite2 (fun _ => q H (Same.refl H)) (fun c2 => absurd ?_ c2)
          rw [Bool.not_eq_true', decide_eq_false_iff_not]
          intro z
          have z' : (((x0 :: xr).length : Nat) : Int) = 1 + ((rs.map V.str).length : Nat) := by injection z
          rw [List.length_cons, List.length_map] at z'
          omega
end
theorem out_none {d : PyData} {kind : Str} (h : wordOf d = none) : isOut d kind = isPlain d kind := by
  match d, h with
  | .tuple [], _ => rfl
  | .tuple (.none :: _), _ => rfl
  | .tuple (.bool _ :: _), _ => rfl
  | .tuple (.int _ :: _), _ => rfl
  | .tuple (.list _ :: _), _ => rfl
  | .tuple (.tuple _ :: _), _ => rfl
  | .tuple (.dict _ :: _), _ => rfl
  | .none, _ => rfl
  | .bool _, _ => rfl
  | .int _, _ => rfl
  | .str _, _ => rfl
  | .list _, _ => rfl
  | .dict _, _ => rfl
theorem if_while : ¬ (("while" : Str) = "if") := by decide +kernel
theorem out_if {kind : Str} {ps : List PyData} : isOut (.tuple (.str "if" :: ps)) kind = cond3 ps := by
  simp [isOut]
theorem out_while {kind : Str} {ps : List PyData} : isOut (.tuple (.str "while" :: ps)) kind = cond2 ps := by
  simp [isOut, if_while]
theorem out_else {z kind : Str} {ps : List PyData} (h1 : ¬ z = "if") (h2 : ¬ z = "while") : isOut (.tuple (.str z :: ps)) kind = isPlain (.tuple (.str z :: ps)) kind := by
  show (if z = "if" then _ else if z = "while" then _ else _) = _
  rw [if_neg h1, if_neg h2]
theorem cut2 (xs : List V) : cutV xs (some 2) none = xs.drop 2 := by
  have e := HT.sIx_nat xs.length 0 2
  rw [show ((2 : Nat) : Int) = 2 from rfl] at e
  unfold cutV
  rw [e, HT.sIx_none]
  by_cases h : 2 ≤ xs.length
  · rw [Nat.min_eq_left h, List.take_of_length_le (by rw [List.length_drop]; omega)]
  · rw [Nat.min_eq_right (by omega), List.drop_of_length_le (Nat.le_refl _), List.drop_of_length_le (by omega)]
    simp
theorem not_whole2 {xs : List V} (h : 0 < xs.length) : ¬ (HT.sIx xs.length 0 (some 2) = 0 ∧ HT.sIx xs.length xs.length none = xs.length) := by
  intro c
  have e := HT.sIx_nat xs.length 0 2
  rw [show ((2 : Nat) : Int) = 2 from rfl] at e
  rw [e] at c
  omega
theorem dpAll_drop {K : PySem.W.Frag} {H : Hp} : ∀ (n : Nat) {xs : List V} {ds : List PyData}, DpAll K H xs ds → DpAll K H (xs.drop n) (ds.drop n)
  | 0, _, _, h => h
  | n + 1, _, _, .nil => .nil
  | n + 1, _, _, .cons _ t => dpAll_drop n t
def spBods (K : PySem.W.Frag) : Sp := fun vs H Q _ => ∃ (v : V) (z : Str) (ps : List PyData) (H0 : Hp), vs = [v] ∧ Same H0 H ∧ Dp K H0 v (.tuple (.str z :: ps)) ∧
  ∀ H' b ys, Same H H' → SqT K H' b ys → DpAll K H0 ys (bodsOf (.tuple (.str z :: ps))) → Q (.ref b) H'
section
variable {P : Program} {w : World} {K : PySem.W.Frag} {mg : Str → Option Value} {base : Heap}
end
/-! ### counting statements -/
def addO : Option Nat → Option Nat → Option Nat
  | some a, some b => some (a + b)
  | _, _ => none
def sumO : List (Option Nat) → Option Nat
  | [] => some 0
  | x :: r => addO x (sumO r)
theorem addO_none (x : Option Nat) : addO x none = none := by cases x <;> rfl
theorem none_addO (x : Option Nat) : addO none x = none := by cases x <;> rfl
theorem addO_assoc (x y z : Option Nat) : addO (addO x y) z = addO x (addO y z) := by
  cases x <;> cases y <;> cases z <;> simp [addO, Nat.add_assoc]
theorem addO_comm (x y : Option Nat) : addO x y = addO y x := by
  cases x <;> cases y <;> simp [addO, Nat.add_comm]
theorem zero_addO (x : Option Nat) : addO (some 0) x = x := by cases x <;> simp [addO]
theorem addO_zero (x : Option Nat) : addO x (some 0) = x := by cases x <;> simp [addO]
theorem sumO_append (xs ys : List (Option Nat)) : sumO (xs ++ ys) = addO (sumO xs) (sumO ys) := by
  induction xs with
  | nil => exact (zero_addO _).symm
  | cons x r ih => rw [List.cons_append]; simp only [sumO]; rw [ih, addO_assoc]
def bodyN (kind : Str) : Nat → PyData → Option Nat
  | 0, .tuple [] => some 0
  | 0, _ => none
  | r + 1, .tuple ss => sumO (ss.map fun s => if isOut s kind = true then addO (some 1) (sumO ((bodsOf s).map (bodyN kind r))) else none)
  | _ + 1, _ => none
def stN (kind : Str) (r : Nat) (s : PyData) : Option Nat := if isOut s kind = true then addO (some 1) (sumO ((bodsOf s).map (bodyN kind r))) else none
theorem bodyN_tup (kind : Str) (r : Nat) (ss : List PyData) : bodyN kind (r + 1) (.tuple ss) = sumO (ss.map (stN kind r)) := by
  simp only [bodyN]
  rfl
def okN (many : Nat) : Option Nat → Bool
  | some n => decide (many + n ≤ 24)
  | none => false
def isProg (d : PyData) : Bool := match d with
  | .tuple [.str k, b] => inS (.str k) kinds && okN 0 (bodyN k 4 b)
  | _ => false
def tot (kind : Str) (stk : List (PyData × Nat)) : Option Nat := sumO (stk.map fun p => bodyN kind (5 - p.2) p.1)
def good (kind : Str) (many : Nat) (stk : List (PyData × Nat)) : Bool := okN many (tot kind stk)
theorem tot_append (kind : Str) (a b : List (PyData × Nat)) : tot kind (a ++ b) = addO (tot kind a) (tot kind b) := by
  unfold tot
  rw [List.map_append, sumO_append]
theorem tot_one (kind : Str) (p : PyData × Nat) : tot kind [p] = bodyN kind (5 - p.2) p.1 := by
  unfold tot
  simp only [List.map_cons, List.map_nil, sumO, addO_zero]
theorem okN_none (m : Nat) : okN m none = false := rfl
theorem okN_add (m k : Nat) (x : Option Nat) : okN m (addO (some k) x) = okN (m + k) x := by
  cases x with
  | none => rfl
  | some n => simp only [addO, okN]; congr 1; rw [Nat.add_assoc]
theorem bodyN_no (kind : Str) (r : Nat) {d : PyData} (h : isT d "tuple" = false) : bodyN kind r d = none := by
  cases d <;> first | (cases r <;> rfl) | (simp [isT, tyN] at h)
theorem stN_ge {kind : Str} {r n : Nat} {s : PyData} (h : stN kind r s = some n) : 1 ≤ n := by
  unfold stN at h
  split at h
  · cases e : sumO ((bodsOf s).map (bodyN kind r)) with
    | none => rw [e] at h; cases h
    | some m =>
      rw [e] at h
      have : 1 + m = n := by injection h
      omega
  · cases h
theorem sumO_ge {kind : Str} {r : Nat} : ∀ {ss : List PyData} {n : Nat}, sumO (ss.map (stN kind r)) = some n → ss.length ≤ n
  | [], _, _ => Nat.zero_le _
  | s :: t, n, h => by
    simp only [List.map_cons, sumO] at h
    cases e1 : stN kind r s with
    | none => rw [e1, none_addO] at h; cases h
    | some a =>
      cases e2 : sumO (t.map (stN kind r)) with
      | none => rw [e2, addO_none] at h; cases h
      | some b =>
        rw [e1, e2] at h
        have e : a + b = n := by injection h
        have h1 := stN_ge e1
        have h2 := sumO_ge e2
        rw [List.length_cons]
        omega
/-- too many, or too deep -/
theorem good_over {kind : Str} {many dep : Nat} {st : List (PyData × Nat)} {ss : List PyData} (h : 24 < many + ss.length ∨ (0 < ss.length ∧ 4 < dep)) : good kind many (st ++ [(.tuple ss, dep)]) = false := by
  unfold good
  rw [tot_append, tot_one]
  show okN many (addO (tot kind st) (bodyN kind (5 - dep) (.tuple ss))) = false
  cases e : bodyN kind (5 - dep) (.tuple ss) with
  | none => rw [addO_none]; rfl
  | some n =>
    cases e1 : tot kind st with
    | none => rfl
    | some a =>
      show decide (many + (a + n) ≤ 24) = false
      rw [decide_eq_false_iff_not]
      cases hr : 5 - dep with
      | zero =>
        rw [hr] at e
        cases ss with
        | nil => rcases h with h | ⟨h, _⟩
                 · simp at h; omega
                 · simp at h
        | cons s t => simp [bodyN] at e
      | succ r =>
        rw [hr, bodyN_tup] at e
        have g := sumO_ge e
        rcases h with h | ⟨_, h⟩
        · omega
        · omega
theorem good_no {kind : Str} {many dep : Nat} {st : List (PyData × Nat)} {d : PyData} (h : isT d "tuple" = false) : good kind many (st ++ [(d, dep)]) = false := by
  unfold good
  rw [tot_append, tot_one]
  show okN many (addO (tot kind st) (bodyN kind (5 - dep) d)) = false
  rw [bodyN_no kind _ h, addO_none]
  rfl
theorem sumO_none {kind : Str} {r : Nat} {s : PyData} (h : isOut s kind = false) : ∀ {ss : List PyData}, s ∈ ss → sumO (ss.map (stN kind r)) = none
  | x :: t, m => by
    simp only [List.map_cons, sumO]
    rcases List.mem_cons.mp m with e | m
    · subst e
      have e : stN kind r s = none := by unfold stN; rw [if_neg (by rw [h]; decide)]
      rw [e, none_addO]
    · rw [sumO_none h m, addO_none]
theorem good_bad {kind : Str} {many dep : Nat} {st : List (PyData × Nat)} {ss : List PyData} {s : PyData} (h : isOut s kind = false) (m : s ∈ ss) : good kind many (st ++ [(.tuple ss, dep)]) = false := by
  unfold good
  rw [tot_append, tot_one]
  show okN many (addO (tot kind st) (bodyN kind (5 - dep) (.tuple ss))) = false
  have e : bodyN kind (5 - dep) (.tuple ss) = none := by
    cases 5 - dep with
    | zero =>
      cases ss with
      | nil => cases m
      | cons _ _ => rfl
    | succ r => rw [bodyN_tup, sumO_none h m]
  rw [e, addO_none]
  rfl
def pushes (dep : Nat) (ss : List PyData) : List (PyData × Nat) := ss.flatMap fun s => (bodsOf s).map fun b => (b, dep + 1)
theorem sumO_all {kind : Str} {r dep : Nat} (hr : 5 - (dep + 1) = r) : ∀ {ss : List PyData}, (∀ s ∈ ss, isOut s kind = true) → sumO (ss.map (stN kind r)) = addO (some ss.length) (tot kind (pushes dep ss))
  | [], _ => rfl
  | s :: t, h => by
    have ih := sumO_all hr (ss := t) (fun x m => h x (List.mem_cons_of_mem _ m))
    simp only [List.map_cons, sumO]
    rw [ih]
    have e : stN kind r s = addO (some 1) (sumO ((bodsOf s).map (bodyN kind r))) := by unfold stN; rw [if_pos (h s (by simp))]
    have e2 : tot kind (pushes dep (s :: t)) = addO (sumO ((bodsOf s).map (bodyN kind r))) (tot kind (pushes dep t)) := by
      unfold pushes
      rw [List.flatMap_cons, tot_append]
      congr 1
      unfold tot
      rw [List.map_map]
      congr 2
      funext b
      show bodyN kind (5 - (dep + 1)) b = _
      rw [hr]
    rw [e, e2]
    cases sumO ((bodsOf s).map (bodyN kind r)) with
    | none => simp [addO, none_addO]
    | some a =>
      cases tot kind (pushes dep t) with
      | none => simp [addO]
      | some b => simp only [addO, List.length_cons]; congr 1; omega
theorem good_step {kind : Str} {many dep : Nat} {st : List (PyData × Nat)} {ss : List PyData} (hd : dep ≤ 5) (h4 : 0 < ss.length → dep ≤ 4) (h : ∀ s ∈ ss, isOut s kind = true) :
    good kind (many + ss.length) (st ++ pushes dep ss) = good kind many (st ++ [(.tuple ss, dep)]) := by
  unfold good
  rw [tot_append, tot_append, tot_one]
  show _ = okN many (addO (tot kind st) (bodyN kind (5 - dep) (.tuple ss)))
  have e : bodyN kind (5 - dep) (.tuple ss) = addO (some ss.length) (tot kind (pushes dep ss)) := by
    by_cases c : dep ≤ 4
    · have e1 : 5 - dep = (5 - (dep + 1)) + 1 := by omega
      rw [e1, bodyN_tup, sumO_all (dep := dep) rfl h]
    · have z : ss = [] := by
        cases ss with
        | nil => rfl
        | cons _ _ => exact absurd (h4 (by simp)) c
      subst z
      have e1 : 5 - dep = 0 := by omega
      rw [e1]
      rfl
  rw [e, ← addO_assoc, addO_comm (tot kind st) (some ss.length), addO_assoc, okN_add]
/-! ### a measure -/
mutual
def sz : PyData → Nat
  | .tuple xs => 1 + szAll xs
  | .list xs => 1 + szAll xs
  | .none | .bool _ | .int _ | .str _ | .dict _ => 1
def szAll : List PyData → Nat
  | [] => 0
  | x :: xs => sz x + szAll xs
end
def tsz : List (PyData × Nat) → Nat
  | [] => 0
  | p :: r => sz p.1 + tsz r
theorem tsz_append : ∀ a b : List (PyData × Nat), tsz (a ++ b) = tsz a + tsz b
  | [], b => by simp [tsz]
  | x :: r, b => by rw [List.cons_append]; simp only [tsz]; rw [tsz_append r b]; omega
theorem tsz_map (dep : Nat) : ∀ bs : List PyData, tsz (bs.map fun b => (b, dep)) = szAll bs
  | [] => rfl
  | x :: r => by simp only [List.map_cons, tsz, szAll]; rw [tsz_map dep r]
theorem szAll_drop : ∀ (n : Nat) (bs : List PyData), szAll (bs.drop n) ≤ szAll bs
  | 0, bs => Nat.le_refl _
  | n + 1, [] => Nat.le_refl _
  | n + 1, x :: r => by
    rw [List.drop_succ_cons]
    have := szAll_drop n r
    simp only [szAll]
    omega
theorem bods_sz (s : PyData) : szAll (bodsOf s) ≤ sz s := by
  match s with
  | .tuple (.str z :: ps) =>
    show szAll (if z = "if" ∨ z = "while" then ps.drop 1 else []) ≤ _
    simp only [sz, szAll]
    split
    · have := szAll_drop 1 ps
      omega
    · simp [szAll]
  | .tuple [] => exact Nat.zero_le _
  | .tuple (.none :: _) => exact Nat.zero_le _
  | .tuple (.bool _ :: _) => exact Nat.zero_le _
  | .tuple (.int _ :: _) => exact Nat.zero_le _
  | .tuple (.list _ :: _) => exact Nat.zero_le _
  | .tuple (.tuple _ :: _) => exact Nat.zero_le _
  | .tuple (.dict _ :: _) => exact Nat.zero_le _
  | .none => exact Nat.zero_le _
  | .bool _ => exact Nat.zero_le _
  | .int _ => exact Nat.zero_le _
  | .str _ => exact Nat.zero_le _
  | .list _ => exact Nat.zero_le _
  | .dict _ => exact Nat.zero_le _
theorem pushes_sz (dep : Nat) : ∀ ss : List PyData, tsz (pushes dep ss) ≤ szAll ss
  | [] => Nat.le_refl _
  | s :: t => by
    have e : pushes dep (s :: t) = (bodsOf s).map (fun b => (b, dep + 1)) ++ pushes dep t := by unfold pushes; rw [List.flatMap_cons]
    rw [e, tsz_append, tsz_map]
    have h1 := bods_sz s
    have h2 := pushes_sz dep t
    simp only [szAll]
    omega
theorem out_word {s : PyData} {kind : Str} (h : isOut s kind = true) : ∃ z ps, s = .tuple (.str z :: ps) := by
  cases hw : wordOf s with
  | some z => obtain ⟨ps, e⟩ := word_inv hw; exact ⟨z, ps, e⟩
  | none =>
    rw [out_none hw] at h
    have : rolesOf (wordOf s) kind = none := by rw [hw]; rfl
    rw [plain_none this] at h
    cases h
theorem bods_short {s : PyData} {kind : Str} (h : isOut s kind = true) : (bodsOf s).length ≤ 2 := by
  obtain ⟨z, ps, rfl⟩ := out_word h
  show (if z = "if" ∨ z = "while" then ps.drop 1 else []).length ≤ 2
  split
  · rename_i c
    rcases c with rfl | rfl
    · rw [out_if] at h
      match ps, h with
      | [_, _, _], _ => simp
    · rw [out_while] at h
      match ps, h with
      | [_, _], _ => simp
  · decide
theorem pushes_len {kind : Str} (dep : Nat) : ∀ {ss : List PyData}, (∀ s ∈ ss, isOut s kind = true) → (pushes dep ss).length ≤ 2 * ss.length
  | [], _ => Nat.le_refl _
  | s :: t, h => by
    have e : pushes dep (s :: t) = (bodsOf s).map (fun b => (b, dep + 1)) ++ pushes dep t := by unfold pushes; rw [List.flatMap_cons]
    rw [e, List.length_append, List.length_map, List.length_cons]
    have h1 := bods_short (h s (by simp))
    have h2 := pushes_len dep (ss := t) (fun x m => h x (List.mem_cons_of_mem _ m))
    omega
theorem pushes_snoc (dep : Nat) (a : List PyData) (s : PyData) : pushes dep (a ++ [s]) = pushes dep a ++ (bodsOf s).map fun b => (b, dep + 1) := by
  unfold pushes
  rw [List.flatMap_append, List.flatMap_cons, List.flatMap_nil, List.append_nil]
theorem while_m {c : TT} {tb : TS} {D : Ends} {σ : L2.St} {H : Hp} (Pv : Nat → L2.St → Hp → Prop) {m0 : Nat} (h0 : Pv m0 σ H)
    (hs : ∀ m σ H, Pv m σ H → c σ H fun b H1 => if b = true then tb { D with nx := fun σ' H' => ∃ m', m' < m ∧ Pv m' σ' H', ct := fun σ' H' => ∃ m', m' < m ∧ Pv m' σ' H', bk := D.nx } σ H1 else D.nx σ H1)
    (mono : ∀ σ H Q Q', (∀ b H1, Q b H1 → Q' b H1) → c σ H Q → c σ H Q') : tWhile c tb D σ H := by
  refine ⟨Pv, ⟨_, h0⟩, ?_⟩
  intro m σ H p
  refine mono σ H _ _ (fun b H1 q => ?_) (hs m σ H p)
  cases b with
  | true => exact ⟨_, fun σ' H' p' => p', q⟩
  | false => exact q
theorem seq_while {c : TT} {tb u : TS} {D : Ends} {σ : L2.St} {H : Hp} (h : tWhile c tb { D with nx := u D } σ H) : tSeq (tWhile c tb) u D σ H := h
/-- the things on the pile: pairs (body, depth) -/
def Itm (K : PySem.W.Frag) (H0 H : Hp) (x : V) (p : PyData × Nat) : Prop := ∃ (t : Addr) (v : V), x = .ref t ∧ H t = some (.tup [v, .int (p.2 : Nat)]) ∧ Dp K H0 v p.1 ∧ Lay p.1 ∧ p.2 ≤ 5
inductive Items (K : PySem.W.Frag) (H0 H : Hp) : List V → List (PyData × Nat) → Prop
  | nil : Items K H0 H [] []
  | cons {x : V} {xs : List V} {p : PyData × Nat} {ps : List (PyData × Nat)} : Itm K H0 H x p → Items K H0 H xs ps → Items K H0 H (x :: xs) (p :: ps)
section
variable {K : PySem.W.Frag} {H0 H H' : Hp}
theorem Items.len : ∀ {xs : List V} {ps : List (PyData × Nat)}, Items K H0 H xs ps → xs.length = ps.length
  | _, _, .nil => rfl
  | _, _, .cons _ t => by rw [List.length_cons, List.length_cons, t.len]
theorem Items.append : ∀ {xs ys : List V} {ps qs : List (PyData × Nat)}, Items K H0 H xs ps → Items K H0 H ys qs → Items K H0 H (xs ++ ys) (ps ++ qs)
  | _, _, _, _, .nil, h => h
  | _, _, _, _, .cons i t, h => .cons i (t.append h)
theorem Items.snoc : ∀ (xs : List V) {y : V} {ps : List (PyData × Nat)}, Items K H0 H (xs ++ [y]) ps → ∃ st p, ps = st ++ [p] ∧ Items K H0 H xs st ∧ Itm K H0 H y p
  | [], _, _, .cons i .nil => ⟨[], _, rfl, .nil, i⟩
  | x :: r, _, _, .cons i t => by
    obtain ⟨st, p, e, h1, h2⟩ := Items.snoc r t
    exact ⟨_ :: st, p, by rw [e]; rfl, .cons i h1, h2⟩
theorem Itm.keep {l : Addr} {x : V} {p : PyData × Nat} (i : Itm K H0 H x p) (e : ∀ b o, b ≠ l → H b = some o → H' b = some o) {ys : List V} (hl : H l = some (.lst ys)) : Itm K H0 H' x p := by
  obtain ⟨t, v, e1, e2, r⟩ := i
  exact ⟨t, v, e1, e t _ (ne_of e2 hl (by intro z; cases z)) e2, r⟩
theorem Items.keep {l : Addr} {ys : List V} (e : ∀ b o, b ≠ l → H b = some o → H' b = some o) (hl : H l = some (.lst ys)) : ∀ {xs : List V} {ps : List (PyData × Nat)}, Items K H0 H xs ps → Items K H0 H' xs ps
  | _, _, .nil => .nil
  | _, _, .cons i t => .cons (i.keep e hl) (t.keep e hl)
theorem Items.mono (e : Same H H') : ∀ {xs : List V} {ps : List (PyData × Nat)}, Items K H0 H xs ps → Items K H0 H' xs ps
  | _, _, .nil => .nil
  | _, _, .cons ⟨t, v, e1, e2, r⟩ s => .cons ⟨t, v, e1, e _ _ e2, r⟩ (s.mono e)
end
def spProg (K : PySem.W.Frag) : Sp := fun vs H Q _ => ∃ (v : V) (d : PyData), vs = [v] ∧ Dp K H v d ∧ Lay d ∧ ∀ H', Same H H' → Q (.bl (isProg d)) H'
section
variable {P : Program} {w : World} {K : PySem.W.Frag} {mg : Str → Option Value} {base : Heap}
theorem dp_two {H : Hp} {xs : List V} {ds : List PyData} (h : DpAll K H xs ds) (l : ds.length = 2) : ∃ x0 x1 d0 d1, xs = [x0, x1] ∧ ds = [d0, d1] ∧ Dp K H x0 d0 ∧ Dp K H x1 d1 := by
  match ds, l, h with
  | [d0, d1], _, .cons (v := x0) h0 (.cons (v := x1) h1 .nil) => exact ⟨x0, x1, d0, d1, rfl, rfl, h0, h1⟩
theorem take_snoc {α : Type} {l : List α} {j : Nat} {x : α} (h : l[j]? = some x) : l.take (j + 1) = l.take j ++ [x] := by
  rw [List.take_add_one, h]
  rfl
theorem bods_lay {s : PyData} (h : Lay s) : ∀ b ∈ bodsOf s, Lay b := by
  intro b m
  match s, h, m with
  | .tuple (.str z :: ps), h, m =>
    have m' : b ∈ (if z = "if" ∨ z = "while" then ps.drop 1 else []) := m
    split at m'
    · exact lay_mem (lay_tup h) b (List.mem_cons_of_mem _ (List.mem_of_mem_drop m'))
    · cases m'
theorem loop_ok {D : Ends} {H H1 : Hp} {k : Str} {n dep : Nat} {a0 pl ab : Addr} {xs ys : List V} {ss : List PyData} {st : List (PyData × Nat)} {s6 : Option V} (sH1 : Same H H1) (nplH : H pl = none) (hp1 : H1 pl = some (.lst ys)) (it1 : Items K H H1 ys st)
    (hab : SqT K H ab xs) (hss : DpAll K H xs ss) (lay : PyData.canLayAll0 ss = true) (hdep : dep ≤ 5) (h4 : 0 < ss.length → dep ≤ 4) (h24 : ss.length ≤ 24) (hst : st.length ≤ 100)
    (hF : ∀ s, s ∈ ss → isOut s k = false → ∀ H', Same H H' → D.rt (.bl false) H')
    (hN : ∀ H' ys' s6, (∀ s ∈ ss, isOut s k = true) → Same H H' → H' pl = some (.lst ys') → Items K H H' ys' (st ++ pushes dep ss) →
      D.nx [some (.ref a0), some (.str k), some (.int (n : Nat)), some (.ref pl), some (.ref ab), some (.int (dep : Nat)), s6, none] H') :
    tFor (iTup K (tVar 4)) (gName 6) (tSeq (tIfS (tNot (tB (tCall (sp2 isOut K) [] E0 (tCons (tVar 6) (tCons (tVar 1) tNil))))) (tRet (tC (.bl false))) tNext)
      (tDrop (tBM K "list" rExtend (tVar 3) (tCons (tLc (iTup K (tCall (spBods K) [] E0 (tCons (tVar 6) tNil))) (gName 7) tYes (tTup (tCons (tVar 7) (tCons (tOp (rI0 fun i j => V.int (i + j)) (tVar 5) (tC (V.int 1))) tNil))) [7]) tNil))))
      D [some (.ref a0), some (.str k), some (.int (n : Nat)), some (.ref pl), some (.ref ab), some (.int (dep : Nat)), s6, none] H1 := by
  have hl := dpAll_len hss
  refine ⟨_, rfl, ab, rfl, ⟨_, Same.tup sH1 hab⟩, for_tup (K := K) (a := ab) (xs := xs)
    (fun i σ H' => ∃ (ys' : List V) (s6 : Option V), σ = [some (.ref a0), some (.str k), some (.int (n : Nat)), some (.ref pl), some (.ref ab), some (.int (dep : Nat)), s6, none] ∧ (∀ s ∈ ss.take i, isOut s k = true) ∧ Same H H' ∧ H' pl = some (.lst ys') ∧
      Items K H H' ys' (st ++ pushes dep (ss.take i))) ⟨ys, s6, rfl, by simp, sH1, hp1, by simpa [pushes] using it1⟩ (fun i σ H' _ ⟨_, _, _, _, s1, _⟩ => Same.tup s1 hab) ?_ ?_⟩
  · rintro i x σ H' hx ⟨ys', s6', rfl, hall, s1, hp', it'⟩
    obtain ⟨si, hsi, hxd⟩ := dpAll_get hss hx
    have hil : i < ss.length := (List.getElem?_eq_some_iff.mp hsi).1
    have msi : si ∈ ss := List.mem_of_getElem? hsi
    have lsi : Lay si := lay_mem lay _ msi
    refine ⟨_, rfl, _, rfl, x, si, k, rfl, dp_mono s1 _ _ hxd, lsi, fun H2 s2 => ⟨_, rfl, ?_⟩⟩
    cases ho : isOut si k with
    | false => exact iteT (hF si msi ho H2 (s1.trans s2))
    | true =>
      refine iteF ?_
      obtain ⟨z, ps, rfl⟩ := out_word ho
      have h4' := h4 (by omega)
      refine ⟨_, rfl, .inl ⟨rfl, _, SqL.of (s2 _ _ hp')⟩, _, rfl, x, z, ps, H, rfl, s1.trans s2, hxd, fun H3 b zs s3 hb hz => ⟨b, rfl, ⟨_, hb⟩, fun Dn nD => ?_⟩⟩
      refine lc_tup (K := K) (a := b) (xs := zs) (fun j H4 => Same H3 H4 ∧ ∃ acc, H4 Dn = some (.lst acc) ∧ Items K H H4 acc (((bodsOf (.tuple (.str z :: ps))).take j).map fun b => (b, dep + 1)))
        ⟨same_upd (Same.refl _) nD _, [], upd_same, .nil⟩ (fun j H4 _ P => Same.tup P.1 hb) ?_ ?_
      · rintro j y H4 hy ⟨s4, acc, eD, itA⟩
        obtain ⟨bj, hbj, hyd⟩ := dpAll_get hz hy
        refine ⟨rfl, ?_⟩
        refine ⟨_, rfl, _, rfl, _, _, rfl, rfl, (by show 2 ≤ sizeLine; decide), fun T nT => ⟨acc, ?_, ?_, ?_, _, upd_same, ?_⟩⟩
        · rw [upd_ne (ne_of_none eD nT)]
          exact eD
        · have e := itA.len
          rw [List.length_map, List.length_take] at e
          have e2 := bods_short ho
          exact Nat.lt_of_le_of_lt (by omega : _ ≤ 1000) (by decide)
        · exact same_upd (s4.trans (same_new nT _)) nD _
        · rw [take_snoc hbj, List.map_append]
          have nTD : T ≠ Dn := fun e => by rw [← e, nT] at eD; cases eD
          have g : ∀ b o, b ≠ Dn → (upd H4 T (.tup [y, .int ((dep : Int) + 1)])) b = some o → (upd (upd H4 T (.tup [y, .int ((dep : Int) + 1)])) Dn (.lst (acc ++ [.ref T]))) b = some o := fun b o n e => by rw [upd_ne n]; exact e
          have eD' : (upd H4 T (.tup [y, .int ((dep : Int) + 1)])) Dn = some (.lst acc) := by rw [upd_ne (ne_of_none eD nT)]; exact eD
          refine ((itA.mono (same_new nT _)).keep g eD').append (.cons ⟨T, y, rfl, ?_, hyd, bods_lay lsi _ (List.mem_of_getElem? hbj), by show dep + 1 ≤ 5; omega⟩ .nil)
          rw [upd_ne nTD, upd_same]
          rfl
      · rintro H4 ⟨s4, acc, eD, itA⟩
        have hzl := dpAll_len hz
        rw [hzl, List.take_length] at itA
        have s24 := s2.trans (s3.trans s4)
        have hp4 := s24 _ _ hp'
        have nDp : Dn ≠ pl := fun e => by
          have := (s2.trans s3) _ _ hp'
          rw [← e, nD] at this
          cases this
        refine ⟨pl, Dn, ys', acc, rfl, rfl, hp4, eD, ?_, ys' ++ acc, _, rfl, ?_, same_upd (s1.trans s24) nplH _, upd_same, ?_⟩
        · have e1 := it'.len
          have e2 := itA.len
          have e3 := bods_short ho
          have e4 := pushes_len (kind := k) dep hall
          rw [List.length_append] at e1
          rw [List.length_map] at e2
          rw [List.length_take] at e4
          exact Nat.le_of_lt (Nat.lt_of_le_of_lt (by omega : _ ≤ 1000) (by decide))
        · intro s ms
          rw [take_snoc hsi] at ms
          rcases List.mem_append.mp ms with m | m
          · exact hall s m
          · rw [List.mem_singleton.mp m]
            exact ho
        · rw [take_snoc hsi, pushes_snoc, ← List.append_assoc]
          have g : ∀ b o, b ≠ pl → H4 b = some o → (upd H4 pl (.lst (ys' ++ acc))) b = some o := fun b o n e => by rw [upd_ne n]; exact e
          exact ((it'.mono s24).keep g hp4).append (itA.keep g hp4)
  · rintro σ H' ⟨ys', s6', rfl, hall, s1, hp', it'⟩
    rw [hl, List.take_length] at hall it'
    exact hN H' ys' s6' hall s1 hp' it'
theorem prog_no {d : PyData} (h : ∀ k b, d ≠ .tuple [.str k, b]) : isProg d = false := by
  unfold isProg
  split
  · rename_i k b; exact absurd rfl (h k b)
  · rfl
end
abbrev sBag : Stmt := top 34
abbrev sDraw : Stmt := top 35
abbrev sTermL : Stmt := top 36
abbrev sKind : Stmt := top 37
/-! ### the bag: a list of two numbers, drawn from -/
def Bag (H : Hp) (b : Addr) : Prop := ∃ c s : Int, H b = some (.lst [.int c, .int s]) ∧ 0 ≤ c ∧ 0 ≤ s ∧ s < 2147483648
/-- all but b stays -/
def Fr (b : Addr) (H H' : Hp) : Prop := ∀ a o, a ≠ b → H a = some o → H' a = some o
def hide (b : Addr) (H : Hp) : Hp := fun a => if a = b then none else H a
theorem Fr.refl (b : Addr) (H : Hp) : Fr b H H := fun _ _ _ h => h
theorem Fr.trans {b : Addr} {H H1 H2 : Hp} (x : Fr b H H1) (y : Fr b H1 H2) : Fr b H H2 := fun a o n h => y a o n (x a o n h)
theorem Fr.of {b : Addr} {H H' : Hp} (x : Same H H') : Fr b H H' := fun a o _ h => x a o h
theorem Fr.upd {b : Addr} {H : Hp} (o : HO) : Fr b H (upd H b o) := fun a u n h => by rw [upd_ne n]; exact h
theorem hide_same (b : Addr) (H : Hp) : Same (hide b H) H := fun a o h => by
  unfold hide at h
  split at h
  · cases h
  · exact h
theorem hide_mono {b : Addr} {H H' : Hp} (x : Fr b H H') : Same (hide b H) (hide b H') := fun a o h => by
  unfold hide at h ⊢
  split at h
  · cases h
  · rename_i n
    rw [if_neg n]
    exact x a o n h
theorem hide_get {b a : Addr} {H : Hp} {o : HO} (n : a ≠ b) (h : H a = some o) : hide b H a = some o := by
  unfold hide
  rw [if_neg n]
  exact h
theorem Bag.ne {H : Hp} {b p : Addr} (h : Bag H b) (n : H p = none) : b ≠ p := by
  obtain ⟨c, s, e, _⟩ := h
  exact ne_of_none e n
theorem Bag.keep {H H' : Hp} {b : Addr} (h : Bag H b) (s : Same H H') : Bag H' b := by
  obtain ⟨c, t, e, r⟩ := h
  exact ⟨c, t, s _ _ e, r⟩
/-- a datum, apart from the bag -/
abbrev Da (K : PySem.W.Frag) (b : Addr) (H : Hp) (v : V) (d : PyData) : Prop := Dp K (hide b H) v d
theorem Da.fr {K : PySem.W.Frag} {b : Addr} {H H' : Hp} {v : V} {d : PyData} (h : Da K b H v d) (x : Fr b H H') : Da K b H' v d := dp_mono (hide_mono x) _ _ h
theorem Da.dp {K : PySem.W.Frag} {b : Addr} {H : Hp} {v : V} {d : PyData} (h : Da K b H v d) : Dp K H v d := dp_mono (hide_same b H) _ _ h
theorem da_tup {K : PySem.W.Frag} {b p : Addr} {H : Hp} {xs : List V} {ds : List PyData} (n : p ≠ b) (h : H p = some (.tup xs)) (a : DpAll K (hide b H) xs ds) : Da K b H (.ref p) (.tuple ds) := .tup (SqT.of (hide_get n h)) a
def spBag (K : PySem.W.Frag) : Sp := fun vs H Q _ => ∃ (a : Addr) (ns : List Int) (k : Nat), vs = [.ref a, .int (k : Nat)] ∧ SqL K H a (ns.map V.int) ∧ ns.length ≤ 63 ∧ k < 64 ∧ ∀ H' p, Same H H' → H p = none → Bag H' p → Q (.ref p) H'
def spDraw : Sp := fun vs H Q _ => ∃ (b : Addr) (m : Int), vs = [.ref b, .int m] ∧ Bag H b ∧ 0 < m ∧ m < 1073741824 ∧ ∀ H' r, Fr b H H' → Bag H' b → 0 ≤ r → r < m → Q (.int r) H'
def spLarge : Sp := fun vs H Q _ => ∃ (b : Addr) (m : Int), vs = [.ref b, .int m] ∧ Bag H b ∧ 0 < m ∧ ∀ H' r, Fr b H H' → Bag H' b → 0 ≤ r → r < m → Q (.int r) H'
section
variable {P : Program} {w : World} {K : PySem.W.Frag} {mg : Str → Option Value} {base : Heap}
theorem scDraw : FnScope ["_law_bag_here", "_law_many", "_law_found"] ["_law_bag_here", "_law_many"] (defScope sDraw) := ⟨rfl, rfl, rfl, by decide +kernel, rfl, by decide +kernel, by decide +kernel⟩
theorem ok_draw {f : Addr} {fd : FuncData} (F : Fun K "_law_draw" "_law_draw" sDraw f fd) : FnOk P w K mg base CX0 1 f fd ["_law_bag_here", "_law_many"] spDraw := by
  refine F.ok scDraw (fun vs H Q E h => ?_) (fun cdv A outer s H vs Q E hr h => ?_)
  · obtain ⟨b, m, rfl, _⟩ := h
    rfl
  obtain ⟨b, m, rfl, ⟨c, t, hb, c0, t0, t1⟩, m0, m1, q⟩ := h
  refine ⟨_, pss_cons (ps_if (pt_cmpR op_gt (pe_ix ix_list (pv 0) pe_int (fun _ _ => rfl)) pe_int (nomark _))
      (pss_cons (ps_set (i := 2) scDraw.nd rfl (.inl rfl) (pe_op op_mod (pe_ix ix_list (pv 0) pe_int (fun _ _ => rfl)) (pv 1)))
      (pss_cons (ps_asg (pe_op op_fdiv (pe_ix ix_list (pv 0) pe_int (fun _ _ => rfl)) (pv 1)) (pg_sub (pv 0) pe_int set_list)) (pss_one (ps_ret (pv 2))))) pss_nil)
    (pss_cons (ps_asg (pe_op op_mod (pe_op op_mul (pe_ix ix_list (pv 0) pe_int (fun _ _ => rfl)) pe_int) pe_int) (pg_sub (pv 0) pe_int set_list))
    (pss_one (ps_ret (pe_op op_mod (pe_op op_fdiv (pe_op op_mod (pe_op op_mul (pe_ix ix_list (pv 0) pe_int (fun _ _ => rfl)) (pe_op op_add (pe_op op_fdiv (pe_ix ix_list (pv 0) pe_int (fun _ _ => rfl)) pe_int) pe_int)) pe_int) pe_int) (pv 1))))), ?_⟩
  refine ⟨_, rfl, b, _, _, _, rfl, rfl, SqL.of hb, atI_nat (j := 0) rfl, _, _, rfl, rfl, _, rfl, ?_⟩
  by_cases h : (0 : Int) < c
  · rw [decide_eq_true h]
    refine iteT ⟨_, rfl, b, _, _, _, rfl, rfl, SqL.of hb, atI_nat (j := 0) rfl, _, rfl, _, _, rfl, rfl, m0, ?_⟩
    refine ⟨_, rfl, b, _, _, _, rfl, rfl, SqL.of hb, atI_nat (j := 0) rfl, _, rfl, _, _, rfl, rfl, ⟨m0, m1⟩, _, rfl, b, _, _, 0, rfl, rfl, hb, rfl, ?_⟩
    refine ⟨_, rfl, q _ _ (Fr.upd _) ⟨c / m, t, upd_same, Int.ediv_nonneg c0 (by omega), t0, t1⟩ (Int.emod_nonneg _ (by omega)) (Int.emod_lt_of_pos _ m0)⟩
  · rw [decide_eq_false h]
    refine iteF ⟨_, rfl, b, _, _, _, rfl, rfl, SqL.of hb, atI_nat (j := 1) rfl, _, _, rfl, rfl, .inr (by decide), _, _, rfl, rfl, (by show (0 : Int) < 2147483647; decide), _, rfl, b, _, _, 1, rfl, rfl, hb, rfl, ?_⟩
    have n0 : 0 ≤ t * 48271 % 2147483647 := Int.emod_nonneg _ (by decide)
    have n1 : t * 48271 % 2147483647 < 2147483647 := Int.emod_lt_of_pos _ (by decide)
    have hb1 : (upd H b (.lst ([V.int c, V.int t].set 1 (V.int (t * 48271 % 2147483647))))) b = some (.lst [.int c, .int (t * 48271 % 2147483647)]) := upd_same
    have fr : Fr b H (upd H b (.lst ([V.int c, V.int t].set 1 (V.int (t * 48271 % 2147483647))))) := Fr.upd _
    generalize upd H b (.lst ([V.int c, V.int t].set 1 (V.int (t * 48271 % 2147483647)))) = H1 at hb1 fr ⊢
    generalize t * 48271 % 2147483647 = u at n0 n1 hb1 ⊢
    refine ⟨_, rfl, b, _, _, _, rfl, rfl, SqL.of hb1, atI_nat (j := 1) rfl, _, rfl, b, _, _, _, rfl, rfl, SqL.of hb1, atI_nat (j := 1) rfl, _, _, rfl, rfl, ⟨by decide, by decide⟩, _, _, rfl, rfl, _, _, rfl, rfl, .inl ⟨by omega, by omega⟩,
      _, _, rfl, rfl, (by show (0 : Int) < 2147483629; decide), _, _, rfl, rfl, ⟨by decide, by decide⟩, _, rfl, _, _, rfl, rfl, m0, ?_⟩
    exact q _ _ fr ⟨c, u, hb1, c0, n0, by omega⟩ (Int.emod_nonneg _ (by omega)) (Int.emod_lt_of_pos _ m0)
end
theorem seq_setC {v : V} {i : Nat} {u : TS} {D : Ends} {σ : L2.St} {H : Hp} (h : u D (σ.set i (some v)) H) : tSeq (tAsg (tC v) (gName i)) u D σ H := h
theorem at2 {x y : V} {r : Int} (h0 : 0 ≤ r) (h1 : r < 2) : ∃ v, atI [x, y] r = some v ∧ (v = x ∨ v = y) := by
  have : r = 0 ∨ r = 1 := by omega
  rcases this with rfl | rfl
  · exact ⟨x, rfl, .inl rfl⟩
  · exact ⟨y, rfl, .inr rfl⟩
theorem at3 {x y z : V} {r : Int} (h0 : 0 ≤ r) (h1 : r < 3) : ∃ v, atI [x, y, z] r = some v ∧ (v = x ∨ v = y ∨ v = z) := by
  have : r = 0 ∨ r = 1 ∨ r = 2 := by omega
  rcases this with rfl | rfl | rfl
  · exact ⟨x, rfl, .inl rfl⟩
  · exact ⟨y, rfl, .inr (.inl rfl)⟩
  · exact ⟨z, rfl, .inr (.inr rfl)⟩
theorem ab_at {r : Int} (h0 : 0 ≤ r) (h1 : r < 2) : ∃ c, atI ("ab" : Str).cps.toList r = some c ∧ inS (.str ⟨#[c]⟩) vars = true ∧ PyData.strOk ⟨#[c]⟩ = true := by
  have : r = 0 ∨ r = 1 := by omega
  rcases this with rfl | rfl
  · exact ⟨97, by decide +kernel, by decide +kernel, by decide +kernel⟩
  · exact ⟨98, by decide +kernel, by decide +kernel, by decide +kernel⟩
theorem asks_at {r : Int} (h0 : 0 ≤ r) (h1 : r < 3) : ∃ c, atI ("+-=" : Str).cps.toList r = some c ∧ inS (.str ⟨#[c]⟩) asks = true ∧ PyData.strOk ⟨#[c]⟩ = true := by
  have : r = 0 ∨ r = 1 ∨ r = 2 := by omega
  rcases this with rfl | rfl | rfl
  · exact ⟨43, by decide +kernel, by decide +kernel, by decide +kernel⟩
  · exact ⟨45, by decide +kernel, by decide +kernel, by decide +kernel⟩
  · exact ⟨61, by decide +kernel, by decide +kernel, by decide +kernel⟩
def spSteps : Sp := fun vs H Q _ => ∃ (b : Addr), vs = [.ref b] ∧ Bag H b ∧ ∀ H' r, Fr b H H' → Bag H' b → 1 ≤ r → r ≤ longest → Q (.int r) H'
def spTermL (K : PySem.W.Frag) : Sp := fun vs H Q _ => ∃ (b : Addr), vs = [.ref b] ∧ Bag H b ∧ ∀ H' v d, Fr b H H' → Bag H' b → (∀ H0, Dp K H0 v d) → isTerm d = true → Lay d → Q v H'
def spCondL (K : PySem.W.Frag) : Sp := fun vs H Q _ => ∃ (b : Addr), vs = [.ref b] ∧ Bag H b ∧ ∀ H' v d, Fr b H H' → Bag H' b → Da K b H' v d → isCond d = true → Lay d → Q v H'
def spKind : Sp := fun vs H Q _ => ∃ (b : Addr), vs = [.ref b] ∧ Bag H b ∧ ∀ H' (k : Str), Fr b H H' → Bag H' b → (k = "teller" ∨ k = "collector") → Q (.str k) H'
section
variable {P : Program} {w : World} {K : PySem.W.Frag} {mg : Str → Option Value} {base : Heap}
theorem pow30 : (10 : Int) ^ (30 : Int).toNat = longest := by decide +kernel
end
structure G2 (mg : Str → Option Value) : Prop where
  abs : mg "abs" = none
  max : mg "max" = none
  min : mg "min" = none
  range : mg "range" = none
theorem one_or (b : Bool) : -(2 ^ 64) < (if b = true then (1 : Int) else 0) ∧ (if b = true then (1 : Int) else 0) < 2 ^ 64 := by cases b <;> decide
theorem part_variable (d : PyData) : isPart d "variable" = inS d vars := by unfold isPart; rw [if_pos rfl]
theorem part_term (d : PyData) : isPart d "term" = isTerm d := by unfold isPart; rw [if_neg (by decide +kernel), if_pos rfl]
theorem part_sign (d : PyData) : isPart d "sign" = inS d asks := by unfold isPart; rw [if_neg (by decide +kernel), if_neg (by decide +kernel), if_pos rfl]
theorem part_steps (d : PyData) : isPart d "steps" = intIn d 1 longest := by unfold isPart; rw [if_neg (by decide +kernel), if_neg (by decide +kernel), if_neg (by decide +kernel), if_pos rfl]
theorem part_answer (d : PyData) : isPart d "answer" = intIn d 0 1 := by unfold isPart; rw [if_neg (by decide +kernel), if_neg (by decide +kernel), if_neg (by decide +kernel), if_neg (by decide +kernel), if_pos rfl]
theorem part_value (d : PyData) : isPart d "value" = intIn d 0 15 := by unfold isPart; rw [if_neg (by decide +kernel), if_neg (by decide +kernel), if_neg (by decide +kernel), if_neg (by decide +kernel), if_neg (by decide +kernel)]
theorem roles_set (k : Str) : rolesZ "set" k = some (["variable", "value"] : List Str) := by unfold rolesZ; rw [if_pos rfl]
theorem roles_add (k : Str) : rolesZ "add" k = some (["variable", "term"] : List Str) := by unfold rolesZ; rw [if_neg (by decide +kernel), if_pos rfl]
theorem roles_wait (k : Str) : rolesZ "wait" k = some (["steps"] : List Str) := by unfold rolesZ; rw [if_neg (by decide +kernel), if_neg (by decide +kernel), if_pos rfl]
theorem roles_ask : rolesZ "ask" "teller" = some (["sign", "term", "variable"] : List Str) := by decide +kernel
theorem roles_answer : rolesZ "answer" "teller" = some (["answer"] : List Str) := by decide +kernel
theorem roles_grow : rolesZ "grow" "collector" = some (["term"] : List Str) := by decide +kernel
theorem roles_list : rolesZ "list" "collector" = some (["term"] : List Str) := by decide +kernel
theorem plain1 {z k r : Str} {p : PyData} (h : rolesZ z k = some [r]) (e : isPart p r = true) : isPlain (.tuple [.str z, p]) k = true := by
  rw [plain_some h]; simp [allParts, e]
theorem plain2 {z k r1 r2 : Str} {p1 p2 : PyData} (h : rolesZ z k = some [r1, r2]) (e1 : isPart p1 r1 = true) (e2 : isPart p2 r2 = true) : isPlain (.tuple [.str z, p1, p2]) k = true := by
  rw [plain_some h]; simp [allParts, e1, e2]
theorem plain3 {z k r1 r2 r3 : Str} {p1 p2 p3 : PyData} (h : rolesZ z k = some [r1, r2, r3]) (e1 : isPart p1 r1 = true) (e2 : isPart p2 r2 = true) (e3 : isPart p3 r3 = true) : isPlain (.tuple [.str z, p1, p2, p3]) k = true := by
  rw [plain_some h]; simp [allParts, e1, e2, e3]
theorem lay_str {z : Str} (h : PyData.strOk z = true) : Lay (.str z) := by unfold Lay; simp only [PyData.canLay0]; exact h
theorem lay_int (i : Int) : Lay (.int i) := by unfold Lay; simp only [PyData.canLay0]
theorem lay_nil : Lay (.tuple []) := by unfold Lay; simp only [PyData.canLay0, PyData.canLayAll0]
theorem lay_all : ∀ {ds : List PyData}, (∀ d ∈ ds, Lay d) → PyData.canLayAll0 ds = true
  | [], _ => by simp only [PyData.canLayAll0]
  | d :: r, h => by
    simp only [PyData.canLayAll0, Bool.and_eq_true]
    exact ⟨h d (by simp), lay_all fun x m => h x (List.mem_cons_of_mem _ m)⟩
theorem lay_tuple {ds : List PyData} (h : ∀ d ∈ ds, Lay d) : Lay (.tuple ds) := by unfold Lay; simp only [PyData.canLay0]; exact lay_all h
theorem lay2 {a b : PyData} (ha : Lay a) (hb : Lay b) : Lay (.tuple [a, b]) := lay_tuple (by intro d m; simp at m; rcases m with rfl | rfl <;> assumption)
theorem lay3 {a b c : PyData} (ha : Lay a) (hb : Lay b) (hc : Lay c) : Lay (.tuple [a, b, c]) := lay_tuple (by intro d m; simp at m; rcases m with rfl | rfl | rfl <;> assumption)
theorem lay4 {a b c e : PyData} (ha : Lay a) (hb : Lay b) (hc : Lay c) (he : Lay e) : Lay (.tuple [a, b, c, e]) := lay_tuple (by intro d m; simp at m; rcases m with rfl | rfl | rfl | rfl <;> assumption)
def spSimple (K : PySem.W.Frag) : Sp := fun vs H Q _ => ∃ (b : Addr) (k : Str), vs = [.ref b, .str k] ∧ Bag H b ∧ (k = "teller" ∨ k = "collector") ∧ ∀ H' v d, Fr b H H' → Bag H' b → Da K b H' v d → isPlain d k = true → Lay d → Q v H'
section
variable {P : Program} {w : World} {K : PySem.W.Frag} {mg : Str → Option Value} {base : Heap}
theorem scBag : FnScope ["_law_script", "_law_k", "_law_cell", "_law_state"] ["_law_script", "_law_k"] (defScope sBag) := ⟨rfl, rfl, rfl, by decide +kernel, rfl, by decide +kernel, by decide +kernel⟩
theorem ok_bag {f : Addr} {fd : FuncData} (F : Fun K "_law_bag" "_law_bag" sBag f fd) (T : Gs K mg) (T2 : G2 mg) : FnOk P w K mg base CX0 1 f fd ["_law_script", "_law_k"] (spBag K) := by
  refine F.ok scBag (fun vs H Q E h => ?_) (fun cdv A outer s H vs Q E hr h => ?_)
  · obtain ⟨a, ns, k, rfl, _⟩ := h
    rfl
  obtain ⟨a, ns, k, rfl, hS, h63, hk, q⟩ := h
  refine ⟨_, pss_cons (ps_set (i := 2) scBag.nd rfl (.inl rfl) pe_int)
    (pss_cons (ps_if (pt_cmpR op_lt (pv 1) (pe_callB call_len_seq (by rfl) T.len PySem.boot_len (pa_cons (pv 0) pa_nil)) (nomark _)) (pss_one (ps_set (i := 2) scBag.nd rfl (.inl rfl) (pe_callB call_abs (by rfl) T2.abs (by decide +kernel) (pa_cons (pe_ix ix_list (pv 0) (pv 1) (fun _ _ => rfl)) pa_nil)))) pss_nil)
    (pss_cons (ps_set (i := 3) scBag.nd rfl (.inl rfl) (pe_op op_add pe_int (pe_op op_mod (pe_op op_add (pe_op op_add (pe_op op_add (pe_op op_mul (pe_op op_mod (pv 2) pe_int) pe_int) (pe_op op_mul (pe_op op_mul pe_int (pv 1)) (pv 1))) (pe_op op_mul pe_int (pv 1))) pe_int) pe_int)))
    (pss_one (ps_ret (pe_lst (pa_cons (pe_op op_mul (pv 2) (pe_callTy call_int1 (by rfl) T.int (by decide +kernel) (pa_cons (pe_cmpR op_ge (pv 2) (pe_op op_pow pe_int pe_int) (nomark _)) pa_nil))) (pa_cons (pv 3) pa_nil))))))), ?_⟩
  have hl : (ns.map V.int).length = ns.length := List.length_map _
  refine ⟨_, rfl, _, rfl, a, _, rfl, .inl hS, _, _, rfl, rfl, _, rfl, ?_⟩
  have fin : ∀ (cell : Int) (z : Int), 0 ≤ cell → ∀ p, H p = none → Q (.ref p) (upd H p (.lst [.int (cell * (if decide ((10 : Int) ^ (18 : Int).toNat ≤ cell) then 1 else 0)), .int (1 + z % 2147483646)])) := fun cell z h0 p np => by
    refine q _ p (same_new np _) np ⟨_, _, upd_same, ?_, ?_, ?_⟩
    · split
      · omega
      · omega
    · have := Int.emod_nonneg z (show (2147483646 : Int) ≠ 0 by decide); omega
    · have := Int.emod_lt_of_pos z (show (0 : Int) < 2147483646 by decide); omega
  refine ite2 (fun c => ?_) (fun c => ?_)
  · have c' := of_decide_eq_true c
    rw [hl] at c'
    have hkn : k < ns.length := by omega
    have hat : atI (ns.map V.int) ((k : Nat) : Int) = some (.int ns[k]) := atI_nat (by rw [List.getElem?_map, List.getElem?_eq_getElem hkn]; rfl)
    have h0 : 0 ≤ (if ns[k] < 0 then -ns[k] else ns[k]) := by split <;> omega
    refine ⟨_, rfl, _, rfl, a, _, _, _, rfl, rfl, hS, hat, _, rfl, ?_⟩
    exact ⟨_, rfl, _, _, rfl, rfl, (by show (0 : Int) < 2147483647; decide), _, _, rfl, rfl, .inr (by decide), _, rfl, _, _, rfl, rfl, .inl (by decide), _, rfl, _, _, rfl, rfl, .inr ⟨by omega, by omega⟩, _, _, rfl, rfl, _, rfl, _, _, rfl, rfl, .inl (by decide), _, _, rfl, rfl, _, _, rfl, rfl, _, _, rfl, rfl, (by show (0 : Int) < 2147483646; decide), _, _, rfl, rfl,
      _, rfl, _, rfl, _, _, rfl, rfl, ⟨by decide, by decide, by decide⟩, _, _, rfl, rfl, .inr ⟨_, rfl, _, _, rfl, rfl, Or.inr (one_or _), _, rfl, (by show 2 ≤ sizeLine; decide), fun p np => fin _ _ h0 p np⟩⟩
  · exact ⟨_, rfl, _, _, rfl, rfl, (by show (0 : Int) < 2147483647; decide), _, _, rfl, rfl, .inr (by decide), _, rfl, _, _, rfl, rfl, .inl (by decide), _, rfl, _, _, rfl, rfl, .inr ⟨by omega, by omega⟩, _, _, rfl, rfl, _, rfl, _, _, rfl, rfl, .inl (by decide), _, _, rfl, rfl, _, _, rfl, rfl, _, _, rfl, rfl, (by show (0 : Int) < 2147483646; decide), _, _, rfl, rfl,
      _, rfl, _, rfl, _, _, rfl, rfl, ⟨by decide, by decide, by decide⟩, _, _, rfl, rfl, .inr ⟨_, rfl, _, _, rfl, rfl, Or.inr (one_or _), _, rfl, (by show 2 ≤ sizeLine; decide), fun p np => fin _ _ (Int.le_refl 0) p np⟩⟩
theorem scTermL : FnScope ["_law_bag_here", "_law_value"] ["_law_bag_here"] (defScope sTermL) := ⟨rfl, rfl, rfl, by decide +kernel, rfl, by decide +kernel, by decide +kernel⟩
theorem ok_termL {f : Addr} {fd : FuncData} (F : Fun K "_law_term" "_law_term" sTermL f fd) (CD : Cal P w K mg base 1 "_law_draw" ["_law_bag_here", "_law_many"] spDraw) : FnOk P w K mg base CX0 2 f fd ["_law_bag_here"] (spTermL K) := by
  refine F.ok scTermL (fun vs H Q E h => ?_) (fun cdv A outer s H vs Q E hr h => ?_)
  · obtain ⟨b, rfl, _⟩ := h
    rfl
  obtain ⟨b, rfl, hb, q⟩ := h
  refine ⟨_, pss_cons (ps_set (i := 1) scTermL.nd rfl (.inl rfl) (pe_call CD.G hr rfl CD.m CD.kp CD.b .nil pass0 (pa_cons (pv 0) (pa_cons pe_int pa_nil))))
    (pss_cons (ps_if (pt_cmpR op_gt (pv 1) pe_int (nomark _)) (pss_one (ps_ret (pe_ix ix_str pe_str (pe_op op_mod (pv 1) pe_int) (fun _ _ => rfl)))) pss_nil) (pss_one (ps_ret (pv 1)))), ?_⟩
  refine ⟨_, rfl, b, 20, rfl, hb, by decide, by decide, fun H1 r f1 b1 r0 r1 => ⟨_, rfl, _, _, rfl, rfl, _, rfl, ?_⟩⟩
  refine ite2 (fun c => ?_) (fun c => ?_)
  · obtain ⟨ch, hc, hv, ho⟩ := ab_at (r := r % 2) (by omega) (by omega)
    refine ⟨_, rfl, _, _, rfl, rfl, (by show (0 : Int) < 2; decide), _, _, _, rfl, rfl, by decide +kernel, hc, ?_⟩
    refine q _ _ _ f1 b1 (fun H0 => .str _) ?_ (lay_str ho)
    unfold isTerm
    rw [hv]
    rfl
  · have c' : ¬ (15 : Int) < r := of_decide_eq_false (Bool.eq_false_iff.mpr c)
    refine ⟨_, rfl, q _ _ _ f1 b1 (fun H0 => .int _) ?_ (lay_int _)⟩
    have e : intIn (.int r) 0 15 = true := by simp [intIn]; omega
    unfold isTerm
    rw [e, Bool.or_true]
theorem scKind : FnScope ["_law_bag_here"] ["_law_bag_here"] (defScope sKind) := ⟨rfl, rfl, rfl, by decide +kernel, rfl, by decide +kernel, by decide +kernel⟩
theorem ok_kind {f : Addr} {fd : FuncData} (F : Fun K "_law_kind" "_law_kind" sKind f fd) (CD : Cal P w K mg base 1 "_law_draw" ["_law_bag_here", "_law_many"] spDraw) : FnOk P w K mg base CX0 2 f fd ["_law_bag_here"] spKind := by
  refine F.ok scKind (fun vs H Q E h => ?_) (fun cdv A outer s H vs Q E hr h => ?_)
  · obtain ⟨b, rfl, _⟩ := h
    rfl
  obtain ⟨b, rfl, hb, q⟩ := h
  refine ⟨_, pss_one (ps_ret (pe_ix ix_list (pe_lst (pa_cons pe_str (pa_cons pe_str pa_nil))) (pe_call CD.G hr rfl CD.m CD.kp CD.b .nil pass0 (pa_cons (pv 0) (pa_cons pe_int pa_nil))) (fun _ _ => rfl))), ?_⟩
  refine ⟨(by show 2 ≤ sizeLine; decide), fun p np => ⟨_, rfl, b, 2, rfl, hb.keep (same_new np _), by decide, by decide, fun H1 r f1 b1 r0 r1 => ?_⟩⟩
  have hp := f1 p _ (hb.ne np).symm upd_same
  have fr : Fr b H H1 := (Fr.of (same_new np _)).trans f1
  obtain ⟨v, hv, hc⟩ := at2 (x := V.str "teller") (y := V.str "collector") r0 r1
  refine ⟨p, _, _, _, rfl, rfl, SqL.of hp, hv, ?_⟩
  rcases hc with rfl | rfl
  · exact q _ _ fr b1 (.inl rfl)
  · exact q _ _ fr b1 (.inr rfl)
end
theorem lay1 {a : PyData} (ha : Lay a) : Lay (.tuple [a]) := lay_tuple (by intro d m; simp at m; rcases m with rfl; assumption)
theorem body_nil (k : Str) (r : Nat) : bodyN k r (.tuple []) = some 0 := by cases r <;> rfl
theorem bods_if {ps : List PyData} : bodsOf (.tuple (.str "if" :: ps)) = ps.drop 1 := by
  show (if ("if" : Str) = "if" ∨ ("if" : Str) = "while" then ps.drop 1 else []) = _
  rw [if_pos (.inl rfl)]
theorem bods_while {ps : List PyData} : bodsOf (.tuple (.str "while" :: ps)) = ps.drop 1 := by
  show (if ("while" : Str) = "if" ∨ ("while" : Str) = "while" then ps.drop 1 else []) = _
  rw [if_pos (.inr rfl)]
theorem body_one (k : Str) (r : Nat) (s : PyData) : bodyN k (r + 1) (.tuple [s]) = stN k r s := by
  rw [bodyN_tup]
  simp only [List.map_cons, List.map_nil, sumO, addO_zero]
theorem bods_else {z : Str} {ps : List PyData} (h1 : ¬ z = "if") (h2 : ¬ z = "while") : bodsOf (.tuple (.str z :: ps)) = [] := by
  show (if z = "if" ∨ z = "while" then ps.drop 1 else []) = _
  rw [if_neg (by rintro (e | e); exact h1 e; exact h2 e)]
theorem roles_if (k : Str) : rolesZ "if" k = none := by
  unfold rolesZ
  rw [if_neg (by decide +kernel), if_neg (by decide +kernel), if_neg (by decide +kernel)]
  split
  · rw [if_neg (by decide +kernel), if_neg (by decide +kernel)]
  · rw [if_neg (by decide +kernel), if_neg (by decide +kernel)]
theorem roles_while (k : Str) : rolesZ "while" k = none := by
  unfold rolesZ
  rw [if_neg (by decide +kernel), if_neg (by decide +kernel), if_neg (by decide +kernel)]
  split
  · rw [if_neg (by decide +kernel), if_neg (by decide +kernel)]
  · rw [if_neg (by decide +kernel), if_neg (by decide +kernel)]
theorem plain_inv {d : PyData} {k : Str} (h : isPlain d k = true) : ∃ z ps rs, d = .tuple (.str z :: ps) ∧ rolesZ z k = some rs ∧ ps.length = rs.length ∧ allParts ps rs = true := by
  cases hw : wordOf d with
  | none =>
    have e : rolesOf (wordOf d) k = none := by rw [hw]; rfl
    rw [plain_none e] at h
    cases h
  | some z =>
    obtain ⟨ps, rfl⟩ := word_inv hw
    cases hz : rolesZ z k with
    | none =>
      have e : rolesOf (wordOf (.tuple (.str z :: ps))) k = none := hz
      rw [plain_none e] at h
      cases h
    | some rs =>
      rw [plain_some hz, Bool.and_eq_true] at h
      exact ⟨z, ps, rs, rfl, hz, of_decide_eq_true h.1, h.2⟩
theorem plain_st {d : PyData} {k : Str} (h : isPlain d k = true) : isOut d k = true ∧ bodsOf d = [] := by
  obtain ⟨z, ps, rs, rfl, hz, _⟩ := plain_inv h
  have n1 : ¬ z = "if" := fun e => by rw [e, roles_if] at hz; cases hz
  have n2 : ¬ z = "while" := fun e => by rw [e, roles_while] at hz; cases hz
  exact ⟨(out_else n1 n2).trans h, bods_else n1 n2⟩
theorem stN_plain {d : PyData} {k : Str} {r : Nat} (h : isPlain d k = true) : stN k r d = some 1 := by
  obtain ⟨h1, h2⟩ := plain_st h
  unfold stN
  rw [if_pos h1, h2]
  rfl
theorem sum_plain {k : Str} {r : Nat} : ∀ {ds : List PyData}, (∀ d ∈ ds, isPlain d k = true) → sumO (ds.map (stN k r)) = some ds.length
  | [], _ => rfl
  | d :: t, h => by
    simp only [List.map_cons, sumO]
    rw [stN_plain (h d (by simp)), sum_plain fun x m => h x (List.mem_cons_of_mem _ m)]
    simp only [addO, List.length_cons]
    congr 1
    omega
theorem kinds_in {k : Str} (h : k = "teller" ∨ k = "collector") : inS (.str k) kinds = true := by
  rcases h with rfl | rfl <;> decide +kernel
theorem strOk_kind {k : Str} (h : k = "teller" ∨ k = "collector") : PyData.strOk k = true := by
  rcases h with rfl | rfl <;> decide +kernel
/-! ### data without lists -/
mutual
def noL : PyData → Bool
  | .list _ => false
  | .tuple xs => noLAll xs
  | .none | .bool _ | .int _ | .str _ | .dict _ => true
def noLAll : List PyData → Bool
  | [] => true
  | x :: xs => noL x && noLAll xs
end
mutual
theorem dp_keepL {K : PySem.W.Frag} {H H' : Hp} {D : Addr} {ys : List V} (e : ∀ a o, a ≠ D → H a = some o → H' a = some o) (hD : H D = some (.lst ys)) : ∀ (d : PyData) (v : V), noL d = true → Dp K H v d → Dp K H' v d
  | .none, _, _, h => by cases h; exact .non
  | .bool b, _, _, h => by cases h; exact .bl b
  | .int i, _, _, h => by cases h; exact .int i
  | .str x, _, _, h => by cases h; exact .str x
  | .list ds, _, n, h => by simp [noL] at n
  | .tuple ds, _, n, h => by
    cases h with
    | tup hs ha =>
      refine .tup ?_ (dpAll_keepL e hD ds _ (by simpa [noL] using n) ha)
      rcases hs with (h | ⟨o, h⟩) | h
      · exact .inl (.inl (e _ _ (ne_of h hD (by intro z; cases z)) h))
      · exact .inl (.inr ⟨o, e _ _ (ne_of h hD (by intro z; cases z)) h⟩)
      · exact .inr h
  | .dict _, _, _, h => by cases h
theorem dpAll_keepL {K : PySem.W.Frag} {H H' : Hp} {D : Addr} {ys : List V} (e : ∀ a o, a ≠ D → H a = some o → H' a = some o) (hD : H D = some (.lst ys)) : ∀ (ds : List PyData) (vs : List V), noLAll ds = true → DpAll K H vs ds → DpAll K H' vs ds
  | [], _, _, h => by cases h; exact .nil
  | d :: ds, _, n, h => by
    simp only [noLAll, Bool.and_eq_true] at n
    cases h with
    | cons hd ht => exact .cons (dp_keepL e hD d _ n.1 hd) (dpAll_keepL e hD ds _ n.2 ht)
end
theorem part_noL {p : PyData} {r : Str} (h : isPart p r = true) : noL p = true := by
  cases p with
  | list xs => unfold isPart at h; repeat' split at h
               all_goals simp [inS, isTerm, intIn] at h
  | tuple xs => unfold isPart at h; repeat' split at h
                all_goals simp [inS, isTerm, intIn] at h
  | _ => rfl
theorem parts_noL : ∀ {ps : List PyData} {rs : List Str}, ps.length = rs.length → allParts ps rs = true → noLAll ps = true
  | [], _, _, _ => rfl
  | p :: ps, [], l, _ => by simp at l
  | p :: ps, r :: rs, l, h => by
    have h' : isPart p r = true ∧ allParts ps rs = true := by
      simpa [allParts] using h
    simp only [noLAll, Bool.and_eq_true]
    exact ⟨part_noL h'.1, parts_noL (by simpa using l) h'.2⟩
theorem plain_noL {d : PyData} {k : Str} (h : isPlain d k = true) : noL d = true := by
  obtain ⟨z, ps, rs, rfl, hz, hl, hp⟩ := plain_inv h
  simp only [noL, noLAll, Bool.true_and]
  exact parts_noL hl hp
theorem all_noL {k : Str} : ∀ {ds : List PyData}, (∀ d ∈ ds, isPlain d k = true ∧ Lay d) → noLAll ds = true
  | [], _ => rfl
  | d :: t, h => by
    simp only [noLAll, Bool.and_eq_true]
    exact ⟨plain_noL (h d (by simp)).1, all_noL fun x m => h x (List.mem_cons_of_mem _ m)⟩
theorem dpAll_append {K : PySem.W.Frag} {H : Hp} : ∀ {xs ys : List V} {ds es : List PyData}, DpAll K H xs ds → DpAll K H ys es → DpAll K H (xs ++ ys) (ds ++ es)
  | _, _, _, _, .nil, h => h
  | _, _, _, _, .cons a t, h => .cons a (dpAll_append t h)
theorem dpAll_take {K : PySem.W.Frag} {H : Hp} : ∀ (n : Nat) {xs : List V} {ds : List PyData}, DpAll K H xs ds → DpAll K H (xs.take n) (ds.take n)
  | 0, _, _, _ => .nil
  | n + 1, _, _, .nil => .nil
  | n + 1, _, _, .cons a t => .cons a (dpAll_take n t)
theorem cut_lo (xs : List V) (n : Nat) : cutV xs none (some (n : Int)) = xs.take n := by
  unfold cutV
  rw [HT.sIx_nat, HT.sIx_none, List.drop_zero, Nat.sub_zero, List.take_eq_take_iff]
  omega
theorem cut_hi (xs : List V) (n : Nat) : cutV xs (some (n : Int)) none = xs.drop n := by
  unfold cutV
  rw [HT.sIx_nat, HT.sIx_none]
  by_cases h : n ≤ xs.length
  · rw [Nat.min_eq_left h, List.take_of_length_le (by rw [List.length_drop]; omega)]
  · rw [Nat.min_eq_right (by omega), List.drop_of_length_le (Nat.le_refl _), List.drop_of_length_le (by omega)]
    simp
theorem and_one {c e : Bool} {tb : TE} {σ : L2.St} {H : Hp} {Q : VK} (h : ∀ Q' : VK, Q' (.bl e) H → tb σ H Q') (q : Q (.bl (c && e)) H) : if c = true then tb σ H Q else Q (.bl false) H := by
  cases c with
  | true => exact iteT (h _ q)
  | false => exact iteF q
theorem Bag.upd {H : Hp} {b D : Addr} {o : HO} (h : Bag H b) (n : D ≠ b) : Bag (upd H D o) b := by
  obtain ⟨c, s, e, r⟩ := h
  exact ⟨c, s, by rw [upd_ne n.symm]; exact e, r⟩
theorem hide_upd {b D : Addr} {H : Hp} {o : HO} : ∀ a u, a ≠ D → hide b H a = some u → hide b (L2.upd H D o) a = some u := fun a u n h => by
  unfold hide at h ⊢
  split at h
  · cases h
  · rename_i nb
    rw [if_neg nb, upd_ne n]
    exact h
theorem fr_upd {b D : Addr} {H H' : Hp} (f : Fr b H H') (n : H D = none) (o : HO) : Fr b H (upd H' D o) := fun x u nx h => by
  rw [upd_ne (ne_of_none h n)]
  exact f _ _ nx h
def Fr2 (b m : Addr) (H H' : Hp) : Prop := ∀ a o, a ≠ b → a ≠ m → H a = some o → H' a = some o
theorem Fr2.refl (b m : Addr) (H : Hp) : Fr2 b m H H := fun _ _ _ _ h => h
theorem Fr2.trans {b m : Addr} {H H1 H2 : Hp} (x : Fr2 b m H H1) (y : Fr2 b m H1 H2) : Fr2 b m H H2 := fun a o n1 n2 h => y a o n1 n2 (x a o n1 n2 h)
theorem Fr.two {b m : Addr} {H H' : Hp} (x : Fr b H H') : Fr2 b m H H' := fun a o n _ h => x a o n h
theorem Same.two {b m : Addr} {H H' : Hp} (x : Same H H') : Fr2 b m H H' := fun a o _ _ h => x a o h
theorem Fr2.updm {b m : Addr} {H : Hp} (o : HO) : Fr2 b m H (upd H m o) := fun a u _ n h => by rw [upd_ne n]; exact h
def Rm (H : Hp) (m : Addr) (r : Nat) : Prop := H m = some (.lst [.int (r : Nat)])
theorem da_fr2 {K : PySem.W.Frag} {b m : Addr} {H H' : Hp} {v : V} {d : PyData} {ys : List V} (n : noL d = true) (h : Da K b H v d) (f : Fr2 b m H H') (hm : H m = some (.lst ys)) (nm : m ≠ b) : Da K b H' v d := by
  refine dp_keepL (D := m) (ys := ys) (fun a o na ha => ?_) (hide_get nm hm) d v n h
  unfold hide at ha ⊢
  split at ha
  · cases ha
  · rename_i nb
    rw [if_neg nb]
    exact f a o nb na ha
theorem daAll_fr2 {K : PySem.W.Frag} {b m : Addr} {H H' : Hp} {vs : List V} {ds : List PyData} {ys : List V} (n : noLAll ds = true) (h : DpAll K (hide b H) vs ds) (f : Fr2 b m H H') (hm : H m = some (.lst ys)) (nm : m ≠ b) : DpAll K (hide b H') vs ds := by
  refine dpAll_keepL (D := m) (ys := ys) (fun a o na ha => ?_) (hide_get nm hm) ds vs n h
  unfold hide at ha ⊢
  split at ha
  · cases ha
  · rename_i nb
    rw [if_neg nb]
    exact f a o nb na ha
theorem term_noL {d : PyData} (h : isTerm d = true) : noL d = true := by
  cases d with
  | list xs => simp [isTerm, inS, intIn] at h
  | tuple xs => simp [isTerm, inS, intIn] at h
  | _ => rfl
theorem inS_noL {d : PyData} {zs : List Str} (h : inS d zs = true) : noL d = true := by
  cases d with
  | list xs => simp [inS] at h
  | tuple xs => simp [inS] at h
  | _ => rfl
theorem cond_noL {d : PyData} (h : isCond d = true) : noL d = true := by
  match d, h with
  | .tuple [x, y, z], h =>
    have h' : (inS x vars && inS y signs && isTerm z) = true := h
    rw [Bool.and_eq_true, Bool.and_eq_true] at h'
    simp only [noL, noLAll, inS_noL h'.1.1, inS_noL h'.1.2, term_noL h'.2]
    rfl
def spBody (K : PySem.W.Frag) (n : Nat) : Sp := fun vs H Q _ => ∃ (b m : Addr) (k : Str) (r : Nat) (dep mo : Int), vs = [.ref b, .str k, .ref m, .int dep, .int mo] ∧ dep = 5 - (n : Int) ∧ n ≤ 4 ∧ Bag H b ∧ Rm H m r ∧ m ≠ b ∧ (k = "teller" ∨ k = "collector") ∧ mo < 1000 ∧
  ∀ H' v d r' c, Fr2 b m H H' → Bag H' b → Rm H' m r' → Da K b H' v d → noL d = true → Lay d → bodyN k n d = some c → r' + c = r → Q v H'
def spStmt (K : PySem.W.Frag) (n : Nat) : Sp := fun vs H Q _ => ∃ (b m : Addr) (k : Str) (r : Nat) (dep : Int), vs = [.ref b, .str k, .ref m, .int dep] ∧ dep = 4 - (n : Int) ∧ n ≤ 3 ∧ Bag H b ∧ Rm H m r ∧ m ≠ b ∧ (k = "teller" ∨ k = "collector") ∧
  ∀ H' v d r' c, Fr2 b m H H' → Bag H' b → Rm H' m r' → Da K b H' v d → noL d = true → Lay d → stN k n d = some (1 + c) → r' + c = r → Q v H'
theorem sumO_snoc (xs : List (Option Nat)) (x : Option Nat) : sumO (xs ++ [x]) = addO (sumO xs) x := by
  rw [sumO_append]
  simp only [sumO, addO_zero]
theorem noLAll_snoc : ∀ {ds : List PyData} {d : PyData}, noLAll ds = true → noL d = true → noLAll (ds ++ [d]) = true
  | [], d, _, h => by simp [noLAll, h]
  | x :: r, d, h, h2 => by
    simp only [noLAll, Bool.and_eq_true] at h
    rw [List.cons_append]
    simp only [noLAll, Bool.and_eq_true]
    exact ⟨h.1, noLAll_snoc h.2 h2⟩
section
variable {P : Program} {w : World} {K : PySem.W.Frag} {mg : Str → Option Value} {base : Heap}
theorem none_stmt {f : Addr} {fd : FuncData} (lv : Nat) : FnOk P w K mg base CX0 lv f fd ["_law_bag_here", "_law_kind_here", "_law_room", "_law_depth"] (fun vs H Q E => 0 ≠ 0 ∧ spStmt K (0 - 1) vs H Q E) :=
  ⟨fun vs H Q E h => absurd rfl h.1, fun A outer s H args us vs Q E _ _ _ _ h => absurd rfl h.1⟩
def spProgL (K : PySem.W.Frag) : Sp := fun vs H Q _ => ∃ (b : Addr) (k : Str), vs = [.ref b, .str k, .int 24] ∧ Bag H b ∧ (k = "teller" ∨ k = "collector") ∧
  ∀ H' t v d, Fr b H H' → Bag H' b → H' t = some (.tup [.str k, v]) → t ≠ b → Da K b H' v d → isProg (.tuple [.str k, d]) = true → Lay d → noL d = true → Q (.ref t) H'
end
section
variable {X : Cx}
def rInSL (K : PySem.W.Frag) (neg : Bool) : R2 := fun x y H Q => ∃ (d : PyData) (zs : List Str) (p : Addr), y = .ref p ∧ Dp K H x d ∧ d.canLay0 = true ∧ H p = some (.lst (zs.map V.str)) ∧ zs.all PyData.strOk = true ∧
  Q (.bl (if neg then !inS d zs else inS d zs)) H
theorem op_inSL (hu : X.A.units + 65 < cLine) : OpR X (compareOp .In) (rInSL X.K false) := by
  intro pins s σ H x y v u Q I rx ry h
  obtain ⟨d, zs, p, rfl, hd, ld, hz, oz, q⟩ := h
  obtain ⟨as, r1⟩ := Dp.reads I d x v hd rx
  obtain ⟨bs, r2⟩ := Dp.reads I (.list (zs.map PyData.str)) (.ref p) u (.lst (SqL.of hz) (dp_strs zs)) ry
  refine SeqAt.in_list_reads r2 r1 (lay_strs zs oz) ld ?_ ⟨.bl _, H, I, rfl, ?_⟩
  · rw [depth_strs]
    have := Nat.min_le_left 0 d.depth
    omega
  · rw [any_strs]; exact q
theorem op_notInSL (hu : X.A.units + 65 < cLine) : OpR X (compareOp .NotIn) (rInSL X.K true) := by
  intro pins s σ H x y v u Q I rx ry h
  obtain ⟨d, zs, p, rfl, hd, ld, hz, oz, q⟩ := h
  obtain ⟨as, r1⟩ := Dp.reads I d x v hd rx
  obtain ⟨bs, r2⟩ := Dp.reads I (.list (zs.map PyData.str)) (.ref p) u (.lst (SqL.of hz) (dp_strs zs)) ry
  refine SeqAt.notIn_list_reads r2 r1 (lay_strs zs oz) ld ?_ ⟨.bl _, H, I, rfl, ?_⟩
  · rw [depth_strs]
    have := Nat.min_le_left 0 d.depth
    omega
  · rw [any_strs]; exact q
end
def isInt (d : PyData) : Bool := match d with | .int _ => true | _ => false
def spL1 (f : PyData → Bool) (K : PySem.W.Frag) : Sp := fun vs H Q _ => ∃ (v : V) (d : PyData), vs = [v] ∧ Dp K H v d ∧ Lay d ∧ ∀ H', Same H H' → Q (.bl (f d)) H'
theorem isT_int {d : PyData} : (isT d "int" && !isT d "bool") = isInt d := by cases d <;> rfl
section
variable {P : Program} {w : World} {K : PySem.W.Frag} {mg : Str → Option Value} {base : Heap}
def isVar (d : PyData) : Bool := inS d vars
theorem dp_three {H : Hp} {xs : List V} {ds : List PyData} (h : DpAll K H xs ds) (l : ds.length = 3) : ∃ x0 x1 x2 d0 d1 d2, xs = [x0, x1, x2] ∧ ds = [d0, d1, d2] ∧ Dp K H x0 d0 ∧ Dp K H x1 d1 ∧ Dp K H x2 d2 := by
  match ds, l, h with
  | [d0, d1, d2], _, .cons (v := x0) h0 (.cons (v := x1) h1 (.cons (v := x2) h2 .nil)) => exact ⟨x0, x1, x2, d0, d1, d2, rfl, rfl, h0, h1, h2⟩
end
theorem strT {z : Str} {A B : Prop} (h : A) : if decide (V.str z = V.str z) = true then A else B := by
  rw [if_pos (decide_eq_true rfl)]; exact h
theorem strF {z y : Str} {A B : Prop} (n : ¬ z = y) (h : B) : if decide (V.str z = V.str y) = true then A else B := by
  rw [if_neg (by intro c; have c' := of_decide_eq_true c; injection c' with c''; exact n c'')]; exact h
def lenOf (z : Str) : Int := if z = "set" then 2 else if z = "add" then 2 else if z = "wait" then 1 else if z = "ask" then 3 else if z = "answer" then 1 else if z = "grow" then 1 else if z = "list" then 1 else -1
def kv7 : List (Key × V) := [(.inr "set", .int 2), (.inr "add", .int 2), (.inr "wait", .int 1), (.inr "ask", .int 3), (.inr "answer", .int 1), (.inr "grow", .int 1), (.inr "list", .int 1)]
theorem merge7 : mergeK [] kv7 = kv7 := by decide +kernel
theorem valV_eq {k : Key} {v : V} {r : List (Key × V)} : valV ((k, v) :: r) k = some v := by
  unfold valV; rw [List.find?_cons_of_pos (by exact decide_eq_true rfl)]; rfl
theorem valV_ne {z x : Str} {v : V} {r : List (Key × V)} (n : ¬ z = x) : valV (((Sum.inr x : Key), v) :: r) (Sum.inr z) = valV r (Sum.inr z) := by
  unfold valV; rw [List.find?_cons_of_neg (by intro c; have c' := of_decide_eq_true c; injection c' with c''; exact n c''.symm)]
theorem get7 (z : Str) : (valV kv7 (.inr z)).getD (.int (-1)) = .int (lenOf z) := by
  unfold kv7 lenOf
  by_cases h1 : z = "set"
  · subst h1; rw [valV_eq, if_pos rfl]; rfl
  rw [valV_ne h1, if_neg h1]
  by_cases h2 : z = "add"
  · subst h2; rw [valV_eq, if_pos rfl]; rfl
  rw [valV_ne h2, if_neg h2]
  by_cases h3 : z = "wait"
  · subst h3; rw [valV_eq, if_pos rfl]; rfl
  rw [valV_ne h3, if_neg h3]
  by_cases h4 : z = "ask"
  · subst h4; rw [valV_eq, if_pos rfl]; rfl
  rw [valV_ne h4, if_neg h4]
  by_cases h5 : z = "answer"
  · subst h5; rw [valV_eq, if_pos rfl]; rfl
  rw [valV_ne h5, if_neg h5]
  by_cases h6 : z = "grow"
  · subst h6; rw [valV_eq, if_pos rfl]; rfl
  rw [valV_ne h6, if_neg h6]
  by_cases h7 : z = "list"
  · subst h7; rw [valV_eq, if_pos rfl]; rfl
  rw [valV_ne h7, if_neg h7]
  rfl
theorem l_set : lenOf "set" = 2 := by decide +kernel
theorem l_add : lenOf "add" = 2 := by decide +kernel
theorem l_wait : lenOf "wait" = 1 := by decide +kernel
theorem l_answer : lenOf "answer" = 1 := by decide +kernel
theorem l_ask : lenOf "ask" = 3 := by decide +kernel
theorem dp_one {K : PySem.W.Frag} {H : Hp} {xs : List V} {ds : List PyData} (h : DpAll K H xs ds) (l : ds.length = 1) : ∃ x0 d0, xs = [x0] ∧ ds = [d0] ∧ Dp K H x0 d0 := by
  match ds, l, h with
  | [d0], _, .cons (v := x0) h0 .nil => exact ⟨x0, d0, rfl, rfl, h0⟩
theorem plain_len {z k : Str} {ps : List PyData} (hk : k = "teller" ∨ k = "collector") (h : isPlain (.tuple (.str z :: ps)) k = true) : (ps.length : Int) = lenOf z := by
  obtain ⟨z', ps', rs, e, hz, hl, _⟩ := plain_inv h
  injection e with e
  injection e with e1 e2
  injection e1 with e1
  subst e1 e2
  rw [hl]
  unfold rolesZ at hz
  unfold lenOf
  rcases hk with rfl | rfl
  all_goals
    repeat' split at hz
    all_goals first | cases hz | skip
    all_goals (subst_vars; first | decide +kernel | (rename_i h1; revert h1; decide +kernel))
def spSimpleL (K : PySem.W.Frag) : Sp := fun vs H Q _ => ∃ (v : V) (k z : Str) (ps : List PyData), vs = [.str k, v] ∧ Dp K H v (.tuple (.str z :: ps)) ∧ Lay (.tuple (.str z :: ps)) ∧ (k = "teller" ∨ k = "collector") ∧ ∀ H', Same H H' → Q (.bl (isPlain (.tuple (.str z :: ps)) k)) H'
theorem plainE1 {z k r : Str} {p : PyData} (h : rolesZ z k = some [r]) : isPlain (.tuple [.str z, p]) k = isPart p r := by rw [plain_some h]; simp [allParts]
theorem plainE2 {z k r1 r2 : Str} {p1 p2 : PyData} (h : rolesZ z k = some [r1, r2]) : isPlain (.tuple [.str z, p1, p2]) k = (isPart p1 r1 && isPart p2 r2) := by rw [plain_some h]; simp [allParts]
theorem plainE3 {z k r1 r2 r3 : Str} {p1 p2 p3 : PyData} (h : rolesZ z k = some [r1, r2, r3]) : isPlain (.tuple [.str z, p1, p2, p3]) k = (isPart p1 r1 && (isPart p2 r2 && isPart p3 r3)) := by rw [plain_some h]; simp [allParts]
theorem plainE0 {z k : Str} {ps : List PyData} (h : rolesZ z k = none) : isPlain (.tuple (.str z :: ps)) k = false := plain_none (d := .tuple (.str z :: ps)) h
/-- an integer within bounds, asked by the law's words -/
theorem within {lo hi : Int} {K : PySem.W.Frag} {H : Hp} {v : V} {d : PyData} (hd : Dp K H v d) : (isInt d = true → ∃ i, v = .int i ∧ d = .int i) ∧ (isInt d = false → intIn d lo hi = false) := by
  cases hd with
  | int i => exact ⟨fun _ => ⟨i, rfl, rfl⟩, fun h => (nomatch h)⟩
  | _ => exact ⟨fun h => (nomatch h), fun _ => rfl⟩
section
variable {P : Program} {w : World} {K : PySem.W.Frag} {mg : Str → Option Value} {base : Heap}
end
def oV : Option Nat → V
  | some n => .int (n : Nat)
  | none => .non
def oneN (k : Str) : Nat → PyData → Option Nat
  | 0, _ => none
  | n + 1, d => stN k n d
theorem body_oneN (k : Str) (n : Nat) (ss : List PyData) : bodyN k n (.tuple ss) = sumO (ss.map (oneN k n)) := by
  cases n with
  | zero =>
    cases ss with
    | nil => rfl
    | cons s t =>
      show none = _
      simp only [List.map_cons, sumO, oneN, none_addO]
  | succ n => exact bodyN_tup k n ss
theorem flat_oV : ∀ os : List (Option Nat), (os.map oV).all flatV = true
  | [] => rfl
  | o :: r => by
    rw [List.map_cons, List.all_cons, flat_oV r, Bool.and_true]
    cases o <;> rfl
theorem inV_oV : ∀ os : List (Option Nat), inV .non (os.map oV) = os.any (·.isNone)
  | [] => rfl
  | o :: r => by
    have ih := inV_oV r
    unfold inV at ih ⊢
    rw [List.map_cons, List.any_cons, List.any_cons, ih]
    cases o <;> rfl
theorem sumO_any : ∀ {os : List (Option Nat)}, os.any (·.isNone) = true → sumO os = none
  | o :: r, h => by
    rw [List.any_cons, Bool.or_eq_true] at h
    simp only [sumO]
    rcases h with h | h
    · cases o with
      | none => exact none_addO _
      | some _ => cases h
    · rw [sumO_any h, addO_none]
theorem sumO_some : ∀ {os : List (Option Nat)}, os.any (·.isNone) = false → ∃ ns : List Nat, os.map oV = (ns.map (fun n : Nat => (n : Int))).map V.int ∧ sumO os = some ns.sum
  | [], _ => ⟨[], rfl, rfl⟩
  | o :: r, h => by
    rw [List.any_cons, Bool.or_eq_false_iff] at h
    obtain ⟨ns, e1, e2⟩ := sumO_some h.2
    cases o with
    | none => cases h.1
    | some n =>
      refine ⟨n :: ns, ?_, ?_⟩
      · rw [List.map_cons, e1]; rfl
      · simp only [sumO, e2, addO, List.sum_cons]
theorem sum_cast (ns : List Nat) : (ns.map (fun n : Nat => (n : Int))).sum = ((ns.sum : Nat) : Int) := by
  induction ns with
  | nil => rfl
  | cons n r ih => rw [List.map_cons, List.sum_cons, ih, List.sum_cons]; omega
mutual
def wd (m : Nat) : PyData → Bool
  | .tuple xs => decide (xs.length ≤ m) && wdAll m xs
  | .list xs => decide (xs.length ≤ m) && wdAll m xs
  | .none | .bool _ | .int _ | .str _ | .dict _ => true
def wdAll (m : Nat) : List PyData → Bool
  | [] => true
  | x :: xs => wd m x && wdAll m xs
end
mutual
theorem wd_mono {m m' : Nat} (h : m ≤ m') : ∀ d : PyData, wd m d = true → wd m' d = true
  | .none, _ => by simp only [wd]
  | .bool _, _ => by simp only [wd]
  | .int _, _ => by simp only [wd]
  | .str _, _ => by simp only [wd]
  | .dict _, _ => by simp only [wd]
  | .tuple xs, e => by
    simp only [wd, Bool.and_eq_true, decide_eq_true_eq] at e ⊢
    exact ⟨by omega, wdAll_mono h xs e.2⟩
  | .list xs, e => by
    simp only [wd, Bool.and_eq_true, decide_eq_true_eq] at e ⊢
    exact ⟨by omega, wdAll_mono h xs e.2⟩
theorem wdAll_mono {m m' : Nat} (h : m ≤ m') : ∀ ds : List PyData, wdAll m ds = true → wdAll m' ds = true
  | [], _ => by simp only [wdAll]
  | x :: xs, e => by
    simp only [wdAll, Bool.and_eq_true] at e ⊢
    exact ⟨wd_mono h x e.1, wdAll_mono h xs e.2⟩
end
theorem wdAll_iff {m : Nat} : ∀ {ds : List PyData}, wdAll m ds = true ↔ ∀ d ∈ ds, wd m d = true
  | [] => by simp [wdAll]
  | x :: xs => by
    simp only [wdAll, Bool.and_eq_true, wdAll_iff (ds := xs)]
    constructor
    · intro h d md
      rcases List.mem_cons.mp md with e | md
      · rw [e]; exact h.1
      · exact h.2 d md
    · intro h
      exact ⟨h x (by simp), fun d md => h d (List.mem_cons_of_mem _ md)⟩
theorem wd_tup {m : Nat} {ds : List PyData} : wd m (.tuple ds) = true ↔ ds.length ≤ m ∧ ∀ d ∈ ds, wd m d = true := by
  simp only [wd, Bool.and_eq_true, decide_eq_true_eq, wdAll_iff]
theorem wd_of_noDeep {m : Nat} {d : PyData} (h : isT d "tuple" = false) (h2 : noL d = true) : wd m d = true := by
  cases d with
  | tuple xs => cases h
  | list xs => simp [noL] at h2
  | _ => simp only [wd]
theorem part_wd {m : Nat} {p : PyData} {r : Str} (h : isPart p r = true) : wd m p = true := by
  cases p with
  | list xs => unfold isPart at h; repeat' split at h
               all_goals simp [inS, isTerm, intIn] at h
  | tuple xs => unfold isPart at h; repeat' split at h
                all_goals simp [inS, isTerm, intIn] at h
  | _ => simp only [wd]
theorem parts_wd {m : Nat} : ∀ {ps : List PyData} {rs : List Str}, ps.length = rs.length → allParts ps rs = true → wdAll m ps = true
  | [], _, _, _ => by simp only [wdAll]
  | p :: ps, [], l, _ => by simp at l
  | p :: ps, r :: rs, l, h => by
    have h' : isPart p r = true ∧ allParts ps rs = true := by
      simpa [allParts] using h
    simp only [wdAll, Bool.and_eq_true]
    exact ⟨part_wd h'.1, parts_wd (by simpa using l) h'.2⟩
theorem plain_wd {d : PyData} {k : Str} (h : isPlain d k = true) : wd 30 d = true := by
  obtain ⟨z, ps, rs, rfl, hz, hl, hp⟩ := plain_inv h
  have h3 := roles_short hz
  simp only [wd, wdAll, Bool.true_and, Bool.and_eq_true, decide_eq_true_eq, List.length_cons]
  exact ⟨by omega, parts_wd hl hp⟩
theorem cond_wd {d : PyData} (h : isCond d = true) : wd 30 d = true := by
  match d, h with
  | .tuple [x, y, z], h =>
    have h' : (inS x vars && inS y signs && isTerm z) = true := h
    rw [Bool.and_eq_true, Bool.and_eq_true] at h'
    have a1 : wd 30 x = true := part_wd (r := "variable") (by rw [part_variable]; exact h'.1.1)
    have a2 : wd 30 y = true := by
      cases y with
      | list _ => simp [inS] at h'
      | tuple _ => simp [inS] at h'
      | _ => simp only [wd]
    have a3 : wd 30 z = true := part_wd (r := "term") (by rw [part_term]; exact h'.2)
    simp only [wd, wdAll, a1, a2, a3]
    rfl
theorem addO_le {x y : Option Nat} {c : Nat} (h : addO x y = some c) : ∃ a b, x = some a ∧ y = some b ∧ a ≤ c ∧ b ≤ c := by
  cases x with
  | none => rw [none_addO] at h; cases h
  | some a =>
    cases y with
    | none => cases h
    | some b =>
      have e : a + b = c := by injection h
      exact ⟨a, b, rfl, rfl, by omega, by omega⟩
theorem sumO_mem {xs : List (Option Nat)} : ∀ {c : Nat}, sumO xs = some c → ∀ x ∈ xs, ∃ a, x = some a ∧ a ≤ c := by
  induction xs with
  | nil => intro c _ x m; cases m
  | cons y r ih =>
    intro c h x m
    obtain ⟨a, b, e1, e2, l1, l2⟩ := addO_le (show addO y (sumO r) = some c from h)
    rcases List.mem_cons.mp m with rfl | m
    · exact ⟨a, e1, l1⟩
    · obtain ⟨a', e, l⟩ := ih e2 x m
      exact ⟨a', e, by omega⟩
theorem body_wd {k : Str} : ∀ {n c : Nat} {d : PyData}, c ≤ 24 → bodyN k n d = some c → wd 30 d = true
  | 0, c, d, hc, h => by
    match d, h with
    | .tuple [], _ => rfl
  | n + 1, c, d, hc, h => by
    cases ht : isT d "tuple" with
    | false => rw [bodyN_no k _ ht] at h; cases h
    | true =>
      obtain ⟨ss, rfl⟩ := isT_tup ht
      rw [bodyN_tup] at h
      have hl := sumO_ge h
      rw [wd_tup]
      refine ⟨by omega, fun s ms => ?_⟩
      obtain ⟨a, ea, la⟩ := sumO_mem h (stN k n s) (List.mem_map_of_mem ms)
      unfold stN at ea
      split at ea
      · rename_i ho
        obtain ⟨a1, b1, _, e2, _, l2⟩ := addO_le ea
        obtain ⟨z, ps, rfl⟩ := out_word ho
        have hb : ∀ b ∈ bodsOf (.tuple (.str z :: ps)), wd 30 b = true := fun b mb => by
          obtain ⟨x, ex, lx⟩ := sumO_mem e2 _ (List.mem_map_of_mem mb)
          exact body_wd (n := n) (c := x) (by omega) ex
        by_cases h1 : z = "if"
        · subst h1
          rw [out_if] at ho
          rw [bods_if] at hb
          match ps, ho, hb with
          | [c0, b1, b2], ho, hb =>
            have w1 := cond_wd (d := c0) ho
            have w2 := hb b1 (by simp)
            have w3 := hb b2 (by simp)
            simp only [wd, wdAll, w1, w2, w3]
            rfl
        by_cases h2 : z = "while"
        · subst h2
          rw [out_while] at ho
          rw [bods_while] at hb
          match ps, ho, hb with
          | [c0, b1], ho, hb =>
            have w1 := cond_wd (d := c0) ho
            have w2 := hb b1 (by simp)
            simp only [wd, wdAll, w1, w2]
            rfl
        · rw [out_else h1 h2] at ho
          exact plain_wd ho
      · cases ea
theorem prog_wd {d : PyData} (h : isProg d = true) : wd 30 d = true := by
  match d, h with
  | .tuple [.str k, b], h =>
    have h' : (inS (.str k) kinds && okN 0 (bodyN k 4 b)) = true := h
    rw [Bool.and_eq_true] at h'
    cases e : bodyN k 4 b with
    | none => rw [e] at h'; cases h'.2
    | some c =>
      rw [e] at h'
      have hc : 0 + c ≤ 24 := of_decide_eq_true h'.2
      have w := body_wd (by omega) e
      simp only [wd, wdAll, w]
      rfl
def spOne (K : PySem.W.Frag) (n : Nat) : Sp := fun vs H Q _ => ∃ (v : V) (d : PyData) (k : Str) (dep : Int), vs = [.str k, v, .int dep] ∧ dep = 5 - (n : Int) ∧ n ≤ 4 ∧ Dp K H v d ∧ Lay d ∧ wd 31 d = true ∧ (k = "teller" ∨ k = "collector") ∧ ∀ H', Same H H' → Q (oV (oneN k n d)) H'
def spCnt (K : PySem.W.Frag) (n : Nat) : Sp := fun vs H Q _ => ∃ (v : V) (d : PyData) (k : Str) (dep : Int), vs = [.str k, v, .int dep] ∧ dep = 5 - (n : Int) ∧ n ≤ 4 ∧ Dp K H v d ∧ Lay d ∧ wd 31 d = true ∧ (k = "teller" ∨ k = "collector") ∧ ∀ H', Same H H' → Q (oV (bodyN k n d)) H'
section
variable {P : Program} {w : World} {K : PySem.W.Frag} {mg : Str → Option Value} {base : Heap}
theorem oneN_no {k : Str} {n : Nat} {d : PyData} (h : isOut d k = false) : oneN k n d = none := by
  cases n with
  | zero => rfl
  | succ n => show stN k n d = none; unfold stN; rw [if_neg (by rw [h]; decide)]
theorem none_cnt {f : Addr} {fd : FuncData} (lv : Nat) : FnOk P w K mg base CX0 lv f fd ["_law_kind_here", "_law_body_here", "_law_depth"] (fun vs H Q E => 0 ≠ 0 ∧ spCnt K (0 - 1) vs H Q E) :=
  ⟨fun vs H Q E h => absurd rfl h.1, fun A outer s H args us vs Q E _ _ _ _ h => absurd rfl h.1⟩
def spProgC (K : PySem.W.Frag) : Sp := fun vs H Q _ => ∃ (v : V) (d : PyData), vs = [v] ∧ Dp K H v d ∧ Lay d ∧ wd 31 d = true ∧ ∀ H', Same H H' → Q (.bl (isProg d)) H'
end
theorem alloc_tup {K : PySem.W.Frag} {b p : Addr} {H : Hp} {xs : List V} {ds : List PyData} (hb : Bag H b) (np : H p = none) (ha : DpAll K (hide b H) xs ds) :
    Bag (upd H p (.tup xs)) b ∧ Fr b H (upd H p (.tup xs)) ∧ Da K b (upd H p (.tup xs)) (.ref p) (.tuple ds) :=
  ⟨hb.keep (same_new np _), Fr.of (same_new np _), da_tup (hb.ne np).symm upd_same (dpAll_mono (hide_mono (Fr.of (same_new np _))) _ _ ha)⟩
theorem alloc_lst {K : PySem.W.Frag} {b p : Addr} {H : Hp} {xs : List V} {ds : List PyData} (hb : Bag H b) (np : H p = none) (ha : DpAll K (hide b H) xs ds) :
    Bag (upd H p (.lst xs)) b ∧ Fr b H (upd H p (.lst xs)) ∧ Da K b (upd H p (.lst xs)) (.ref p) (.list ds) :=
  ⟨hb.keep (same_new np _), Fr.of (same_new np _), .lst (SqL.of (hide_get (hb.ne np).symm upd_same)) (dpAll_mono (hide_mono (Fr.of (same_new np _))) _ _ ha)⟩
def odd1 : List PyData := [.none, .bool true, .bool false, .int 0, .int 1, .int 2, .int 15, .int 16, .int (-1), .int longest, .int (longest + 1), .str "", .str "a", .str "b", .str "c", .str "==", .str "<=", .str "x", .str "3"]
def odd2 : List PyData := [.tuple [], .list [], .tuple [.str "a"], .tuple [.str "a", .str "==", .int 3], .list [.str "a", .str "==", .int 3], .tuple [.str "set", .str "a", .int 3], .tuple [.str "answer", .int 1], .tuple [.str "list", .str "b"]]
def odd3 : List PyData := [.tuple [.str "wait", .int 0], .tuple [.str "while", .tuple [.str "a", .str "<", .int 3], .tuple []], .tuple [.str "if", .tuple [.str "a", .str "<", .int 3], .tuple []], .str "teller", .str "collector", .str "set"]
theorem odd_ok : (odd1 ++ odd2 ++ odd3).all (fun d => d.canLay0 && wd 30 d) = true := by decide +kernel
theorem odd_mem {d : PyData} (h : d ∈ odd1 ++ odd2 ++ odd3) : Lay d ∧ wd 30 d = true := by
  have e := List.all_eq_true.mp odd_ok d h
  rw [Bool.and_eq_true] at e
  exact e
def vals1 : List V := [.non, .bl true, .bl false, .int 0, .int 1, .int 2, .int 15, .int 16, .int (-1), .int longest, .int (longest + 1), .str "", .str "a", .str "b", .str "c", .str "==", .str "<=", .str "x", .str "3"]
theorem dp_odd1 {K : PySem.W.Frag} {H : Hp} : DpAll K H vals1 odd1 :=
  .cons .non (.cons (.bl _) (.cons (.bl _) (.cons (.int _) (.cons (.int _) (.cons (.int _) (.cons (.int _) (.cons (.int _) (.cons (.int _) (.cons (.int _) (.cons (.int _) (.cons (.str _) (.cons (.str _) (.cons (.str _) (.cons (.str _) (.cons (.str _) (.cons (.str _) (.cons (.str _) (.cons (.str _) .nil))))))))))))))))))
theorem sq_keep {b p : Addr} {H H' : Hp} {o : HO} (f : Fr b H H') (n : p ≠ b) (h : H p = some o) : H' p = some o := f p o n h
def spOdd (K : PySem.W.Frag) : Sp := fun vs H Q _ => ∃ (b : Addr), vs = [.ref b] ∧ Bag H b ∧ ∀ H' v d, Fr b H H' → Bag H' b → Da K b H' v d → Lay d → wd 30 d = true → Q v H'
theorem Da.lift {K : PySem.W.Frag} {b : Addr} {H H' : Hp} {vs : List V} {ds : List PyData} (h : DpAll K (hide b H) vs ds) (x : Fr b H H') : DpAll K (hide b H') vs ds := dpAll_mono (hide_mono x) _ _ h
section
variable {P : Program} {w : World} {K : PySem.W.Frag} {mg : Str → Option Value} {base : Heap}
end
theorem cut_whole {xs : List V} {lo hi : Option Int} (h : HT.sIx xs.length 0 lo = 0 ∧ HT.sIx xs.length xs.length hi = xs.length) : cutV xs lo hi = xs := by
  unfold cutV
  rw [h.1, h.2, List.drop_zero, Nat.sub_zero, List.take_length]
section
variable {X : Cx}
def rSlE (K : PySem.W.Frag) : V → Option Int → Option Int → Hp → VK → Prop := fun x lo hi H Q => ∃ bg a xs, x = .ref a ∧ SqT K (hide bg H) a xs ∧ Bag H bg ∧ ∀ w H', Same H H' → SqT K (hide bg H') w (cutV xs lo hi) → Q (.ref w) H'
theorem sl_tupE : SlR X (rSlE X.K) := by
  intro pins s σ H x v vl vu lo hi sl Q I rx hs pl pu h
  obtain ⟨bg, a, xs, rfl, ha, hB, q⟩ := h
  refine sl_tupA pins s σ H _ v vl vu lo hi sl Q I rx hs pl pu ⟨a, xs, rfl, Same.tup (hide_same _ _) ha, fun hw => ?_, fun _ p np => ?_⟩
  · exact q a H (Same.refl H) (by rw [cut_whole hw]; exact ha)
  · exact q p _ (same_new np _) (SqT.of (hide_get (hB.ne np).symm upd_same))
def rCatH (K : PySem.W.Frag) (bg : Addr) : R2 := fun x y H Q => ∃ a b xs ys, x = .ref a ∧ y = .ref b ∧ SqT K (hide bg H) a xs ∧ SqT K (hide bg H) b ys ∧ xs.length + ys.length ≤ sizeLine ∧ Bag H bg ∧ ∀ w H', Same H H' → SqT K (hide bg H') w (xs ++ ys) → Q (.ref w) H'
theorem op_catH (bg : Addr) : OpR X (binaryOp .Add) (rCatH X.K bg) := by
  intro pins s σ H x y v u Q I rx ry h
  obtain ⟨a, b, xs, ys, rfl, rfl, ha, hb, hz, hB, q⟩ := h
  refine op_catA pins s σ H _ _ v u Q I rx ry ⟨a, b, xs, ys, rfl, rfl, Same.tup (hide_same _ _) ha, Same.tup (hide_same _ _) hb, hz, fun e => ?_, fun _ e => ?_, fun _ _ p np => ?_⟩
  · exact q b H (Same.refl H) (by rw [e]; exact hb)
  · exact q a H (Same.refl H) (by rw [e, List.append_nil]; exact ha)
  · exact q p _ (same_new np _) (SqT.of (hide_get (hB.ne np).symm upd_same))
def rCatE (K : PySem.W.Frag) : R2 := fun x y H Q => ∃ bg, rCatH K bg x y H Q
theorem op_catE : OpR X (binaryOp .Add) (rCatE X.K) := by
  intro pins s σ H x y v u Q I rx ry h
  obtain ⟨bg, h⟩ := h
  exact op_catH bg pins s σ H x y v u Q I rx ry h
end
def spSpoilt (K : PySem.W.Frag) (n : Nat) : Sp := fun vs H Q _ => ∃ (b : Addr) (v : V) (d : PyData), vs = [.ref b, v] ∧ Bag H b ∧ Da K b H v d ∧ Lay d ∧ wd 30 d = true ∧ d.depth ≤ n ∧ ∀ H' v' d', Fr b H H' → Bag H' b → Da K b H' v' d' → Lay d' → wd 31 d' = true → Q v' H'
theorem depth_mem {ds : List PyData} : ∀ {d : PyData}, d ∈ ds → d.depth ≤ PyData.depthAll ds := by
  induction ds with
  | nil => intro d m; cases m
  | cons x r ih =>
    intro d m
    simp only [PyData.depthAll]
    rcases List.mem_cons.mp m with rfl | m
    · omega
    · have := ih m
      omega
theorem depth_tup (ds : List PyData) : (PyData.tuple ds).depth = PyData.depthAll ds + 1 := by simp only [PyData.depth]
theorem depth_all {ds : List PyData} {n : Nat} (h : ∀ d ∈ ds, d.depth ≤ n) : PyData.depthAll ds ≤ n := by
  induction ds with
  | nil => exact Nat.zero_le _
  | cons x r ih =>
    simp only [PyData.depthAll]
    have h1 := h x (by simp)
    have h2 := ih fun d m => h d (List.mem_cons_of_mem _ m)
    omega
section
variable {P : Program} {w : World} {K : PySem.W.Frag} {mg : Str → Option Value} {base : Heap}
theorem none_spoilt {f : Addr} {fd : FuncData} (lv : Nat) : FnOk P w K mg base CX0 lv f fd ["_law_bag_here", "_law_thing"] (fun vs H Q E => 0 ≠ 0 ∧ spSpoilt K (0 - 1) vs H Q E) :=
  ⟨fun vs H Q E h => absurd rfl h.1, fun A outer s H args us vs Q E _ _ _ _ h => absurd rfl h.1⟩
end
theorem part_flat {p : PyData} {r : Str} (h : isPart p r = true) : p.depth = 0 := by
  cases p with
  | list xs => unfold isPart at h; repeat' split at h
               all_goals simp [inS, isTerm, intIn] at h
  | tuple xs => unfold isPart at h; repeat' split at h
                all_goals simp [inS, isTerm, intIn] at h
  | dict xs => unfold isPart at h; repeat' split at h
               all_goals simp [inS, isTerm, intIn] at h
  | _ => simp only [PyData.depth]
theorem inS_flat {d : PyData} {zs : List Str} (h : inS d zs = true) : d.depth = 0 := by
  cases d with
  | list xs => simp [inS] at h
  | tuple xs => simp [inS] at h
  | dict xs => simp [inS] at h
  | _ => simp only [PyData.depth]
theorem parts_flat : ∀ {ps : List PyData} {rs : List Str}, ps.length = rs.length → allParts ps rs = true → PyData.depthAll ps = 0
  | [], _, _, _ => by simp only [PyData.depthAll]
  | p :: ps, [], l, _ => by simp at l
  | p :: ps, r :: rs, l, h => by
    have h' : isPart p r = true ∧ allParts ps rs = true := by
      simpa [allParts] using h
    simp only [PyData.depthAll, part_flat h'.1, parts_flat (by simpa using l) h'.2]
    rfl
theorem plain_depth {d : PyData} {k : Str} (h : isPlain d k = true) : d.depth ≤ 1 := by
  obtain ⟨z, ps, rs, rfl, hz, hl, hp⟩ := plain_inv h
  simp only [PyData.depth, PyData.depthAll, parts_flat hl hp]
  decide
theorem cond_depth {d : PyData} (h : isCond d = true) : d.depth ≤ 1 := by
  match d, h with
  | .tuple [x, y, z], h =>
    have h' : (inS x vars && inS y signs && isTerm z) = true := h
    rw [Bool.and_eq_true, Bool.and_eq_true] at h'
    have a3 : z.depth = 0 := part_flat (r := "term") (by rw [part_term]; exact h'.2)
    simp only [PyData.depth, PyData.depthAll, inS_flat h'.1.1, inS_flat h'.1.2, a3]
    decide
def isNil : PyData → Bool
  | .tuple [] => true
  | _ => false
/-- the three shapes of a statement -/
theorem st_shape {k : Str} {n c : Nat} {s : PyData} (h : stN k n s = some c) :
    (∃ z ps, s = .tuple (.str z :: ps) ∧ ¬ z = "if" ∧ ¬ z = "while" ∧ isPlain s k = true ∧ c = 1) ∨
    (∃ co b c', s = .tuple [.str "while", co, b] ∧ isCond co = true ∧ bodyN k n b = some c' ∧ c = 1 + c') ∨
    (∃ co b1 b2 c1 c2, s = .tuple [.str "if", co, b1, b2] ∧ isCond co = true ∧ bodyN k n b1 = some c1 ∧ bodyN k n b2 = some c2 ∧ c = 1 + (c1 + c2)) := by
  unfold stN at h
  split at h
  · rename_i ho
    obtain ⟨z, ps, rfl⟩ := out_word ho
    by_cases h1 : z = "if"
    · subst h1
      rw [out_if] at ho
      rw [bods_if] at h
      match ps, ho, h with
      | [co, b1, b2], ho, h =>
        simp only [List.drop_succ_cons, List.drop_zero, List.map_cons, List.map_nil, sumO, addO_zero] at h
        cases e1 : bodyN k n b1 with
        | none => rw [e1] at h; simp [addO] at h
        | some c1 =>
          cases e2 : bodyN k n b2 with
          | none => rw [e1, e2] at h; simp [addO] at h
          | some c2 =>
            rw [e1, e2] at h
            have e : 1 + (c1 + c2) = c := by injection h
            exact .inr (.inr ⟨co, b1, b2, c1, c2, rfl, ho, e1, e2, e.symm⟩)
    by_cases h2 : z = "while"
    · subst h2
      rw [out_while] at ho
      rw [bods_while] at h
      match ps, ho, h with
      | [co, b1], ho, h =>
        simp only [List.drop_succ_cons, List.drop_zero, List.map_cons, List.map_nil, sumO, addO_zero] at h
        cases e1 : bodyN k n b1 with
        | none => rw [e1] at h; simp [addO] at h
        | some c1 =>
          rw [e1] at h
          have e : 1 + c1 = c := by injection h
          exact .inr (.inl ⟨co, b1, c1, rfl, ho, e1, e.symm⟩)
    · rw [out_else h1 h2] at ho
      have hp : isPlain (.tuple (.str z :: ps)) k = true := ho
      rw [bods_else h1 h2] at h
      have e : 1 = c := by injection h
      exact .inl ⟨z, ps, rfl, h1, h2, hp, e.symm⟩
  · cases h
theorem body_tuple {k : Str} {n c : Nat} {d : PyData} (h : bodyN k n d = some c) : ∃ ss, d = .tuple ss := by
  cases ht : isT d "tuple" with
  | false => rw [bodyN_no k n ht] at h; cases h
  | true => exact isT_tup ht
theorem sum_le {k : Str} {n c : Nat} {ss : List PyData} (h : bodyN k (n + 1) (.tuple ss) = some c) {s : PyData} (m : s ∈ ss) : ∃ a, stN k n s = some a ∧ a ≤ c := by
  rw [bodyN_tup] at h
  exact sumO_mem h _ (List.mem_map_of_mem m)
theorem noL_mem {ds : List PyData} (h : noLAll ds = true) : ∀ d ∈ ds, noL d = true := by
  induction ds with
  | nil => intro d m; cases m
  | cons x r ih =>
    simp only [noLAll, Bool.and_eq_true] at h
    intro d m
    rcases List.mem_cons.mp m with rfl | m
    · exact h.1
    · exact ih h.2 d m
theorem noL_tup {ds : List PyData} (h : noL (.tuple ds) = true) : noLAll ds = true := by simpa only [noL] using h
theorem noLAll_of {ds : List PyData} (h : ∀ d ∈ ds, noL d = true) : noLAll ds = true := by
  induction ds with
  | nil => rfl
  | cons x r ih =>
    simp only [noLAll, Bool.and_eq_true]
    exact ⟨h x (by simp), ih fun d m => h d (List.mem_cons_of_mem _ m)⟩
theorem body_depth {k : Str} : ∀ {n c : Nat} {d : PyData}, bodyN k n d = some c → d.depth ≤ 2 * n + 1
  | 0, c, d, h => by
    match d, h with
    | .tuple [], _ => simp [PyData.depth, PyData.depthAll]
  | n + 1, c, d, h => by
    cases ht : isT d "tuple" with
    | false => rw [bodyN_no k _ ht] at h; cases h
    | true =>
      obtain ⟨ss, rfl⟩ := isT_tup ht
      rw [bodyN_tup] at h
      rw [depth_tup]
      suffices hs : PyData.depthAll ss ≤ 2 * n + 2 by omega
      refine depth_all fun s ms => ?_
      obtain ⟨a, ea, la⟩ := sumO_mem h (stN k n s) (List.mem_map_of_mem ms)
      unfold stN at ea
      split at ea
      · rename_i ho
        obtain ⟨a1, b1, _, e2, _, l2⟩ := addO_le ea
        obtain ⟨z, ps, rfl⟩ := out_word ho
        have hb : ∀ b ∈ bodsOf (.tuple (.str z :: ps)), b.depth ≤ 2 * n + 1 := fun b mb => by
          obtain ⟨x, ex, lx⟩ := sumO_mem e2 _ (List.mem_map_of_mem mb)
          exact body_depth (n := n) (c := x) ex
        by_cases h1 : z = "if"
        · subst h1
          rw [out_if] at ho
          rw [bods_if] at hb
          match ps, ho, hb with
          | [c0, b1, b2], ho, hb =>
            have w1 := cond_depth (d := c0) ho
            have w2 := hb b1 (by simp)
            have w3 := hb b2 (by simp)
            simp only [PyData.depth, PyData.depthAll]
            omega
        by_cases h2 : z = "while"
        · subst h2
          rw [out_while] at ho
          rw [bods_while] at hb
          match ps, ho, hb with
          | [c0, b1], ho, hb =>
            have w1 := cond_depth (d := c0) ho
            have w2 := hb b1 (by simp)
            simp only [PyData.depth, PyData.depthAll]
            omega
        · rw [out_else h1 h2] at ho
          have := plain_depth ho
          omega
      · cases ea
theorem eqv_nil (ss : List PyData) : PyData.eqv (.tuple ss) (.tuple []) = isNil (.tuple ss) := by
  cases ss <;> simp [PyData.eqv, PyData.eqvAll, isNil]
theorem dp_four {K : PySem.W.Frag} {H : Hp} {xs : List V} {d0 d1 d2 d3 : PyData} (h : DpAll K H xs [d0, d1, d2, d3]) : ∃ x0 x1 x2 x3, xs = [x0, x1, x2, x3] ∧ Dp K H x0 d0 ∧ Dp K H x1 d1 ∧ Dp K H x2 d2 ∧ Dp K H x3 d3 := by
  match h with
  | .cons (v := x0) h0 (.cons (v := x1) h1 (.cons (v := x2) h2 (.cons (v := x3) h3 .nil))) => exact ⟨x0, x1, x2, x3, rfl, h0, h1, h2, h3⟩
/-- a part of a line as its text -/
def strD : PyData → Str
  | .str z => z
  | .int i => Str.ofString (toString i)
  | _ => Str.empty
def okW (d : PyData) : Prop := (∃ z, d = .str z ∧ z.length ≤ 60) ∨ ∃ i : Int, d = .int i ∧ 0 ≤ i ∧ i ≤ longest
def joinD (ds : List PyData) : Str := Txt.join " " (ds.map strD)
def rStrW : List V → Hp → VK → Prop := fun xs H Q => (∃ z, xs = [.str z] ∧ Q (.str z) H) ∨ ∃ i : Int, xs = [.int i] ∧ i.natAbs.log2 < 1920 ∧ Q (.str (Str.ofString (toString i))) H
theorem call_strW {X : Cx} : CallR X (.type "str") rStrW := by
  intro pins s σ H xs us Q I r h
  rcases h with ⟨z, rfl, q⟩ | ⟨i, rfl, hi, q⟩
  · exact SkE.call_str_str pins s σ H _ us Q I r ⟨z, rfl, q⟩
  · exact call_str_int pins s σ H _ us Q I r ⟨i, rfl, hi, q⟩
theorem wait_log {i : Int} (h0 : 0 ≤ i) (h1 : i ≤ longest) : i.natAbs.log2 < 1920 := by
  have h2 : i.natAbs ≤ 10 ^ 30 := by
    have : longest = 10 ^ 30 := by decide
    omega
  by_cases e : i.natAbs = 0
  · rw [e]; decide
  · exact (Nat.log2_lt e).mpr (Nat.lt_of_le_of_lt h2 (Nat.lt_of_lt_of_le (by decide : 10 ^ 30 < 2 ^ 100) (Nat.pow_le_pow_right (by decide) (by decide))))
theorem rStrW_of {K : PySem.W.Frag} {H H' : Hp} {v : V} {d : PyData} {Q : VK} (hd : Dp K H' v d) (ho : okW d) (q : Q (.str (strD d)) H) : rStrW [v] H Q := by
  rcases ho with ⟨z, rfl, _⟩ | ⟨i, rfl, h0, h1⟩
  · cases hd
    exact .inl ⟨z, rfl, q⟩
  · cases hd
    exact .inr ⟨i, rfl, wait_log h0 h1, q⟩
theorem strD_len {d : PyData} (h : okW d) : (strD d).length ≤ 60 := by
  rcases h with ⟨z, rfl, h⟩ | ⟨i, rfl, h0, h1⟩
  · exact h
  · refine Nat.le_trans (PyProof.Rows.toString_length_le (k := 31) h0 (by decide) ?_) (by decide)
    have : longest = 10 ^ 30 := by decide
    omega
theorem sum_len : ∀ {ds : List PyData}, (∀ d ∈ ds, okW d) → ((ds.map strD).map (·.length)).sum ≤ 60 * ds.length
  | [], _ => by simp
  | d :: r, h => by
    have h1 := strD_len (h d (by simp))
    have h2 := sum_len (ds := r) fun x m => h x (List.mem_cons_of_mem _ m)
    simp only [List.map_cons, List.sum_cons, List.length_cons]
    omega
def spJn (K : PySem.W.Frag) : Sp := fun vs H Q _ => ∃ (v : V) (ds : List PyData), vs = [v] ∧ Dp K H v (.tuple ds) ∧ ds.length ≤ 8 ∧ (∀ d ∈ ds, okW d) ∧ ∀ H', Same H H' → Q (.str (joinD ds)) H'
section
variable {P : Program} {w : World} {K : PySem.W.Frag} {mg : Str → Option Value} {base : Heap}
end
theorem inS_short {d : PyData} {zs : List Str} (h : inS d zs = true) (hz : ∀ z ∈ zs, z.length ≤ 9) : ∃ z, d = .str z ∧ z.length ≤ 9 := by
  cases d with
  | str z =>
    have h' : zs.any (· == z) = true := h
    obtain ⟨y, m, e⟩ := List.any_eq_true.mp h'
    have e' : y = z := by simpa using e
    exact ⟨z, rfl, hz z (e' ▸ m)⟩
  | _ => cases h
def okP (d : PyData) : Prop := (∃ z, d = .str z ∧ z.length ≤ 9) ∨ ∃ i : Int, d = .int i ∧ 0 ≤ i ∧ i ≤ longest
theorem okP_W {d : PyData} (h : okP d) : okW d := by
  rcases h with ⟨z, rfl, h⟩ | h
  · exact .inl ⟨z, rfl, by omega⟩
  · exact .inr h
theorem intIn_okP {d : PyData} {lo hi : Int} (h : intIn d lo hi = true) (h0 : 0 ≤ lo) (h1 : hi ≤ longest) : okP d := by
  cases d with
  | int i =>
    have h' : (decide (lo ≤ i) && decide (i ≤ hi)) = true := h
    rw [Bool.and_eq_true, decide_eq_true_iff, decide_eq_true_iff] at h'
    exact .inr ⟨i, rfl, by omega, by omega⟩
  | _ => cases h
theorem term_okP {d : PyData} (h : isTerm d = true) : okP d := by
  have h' : (inS d vars || intIn d 0 15) = true := h
  rcases Bool.or_eq_true _ _ ▸ h' with h | h
  · exact .inl (inS_short h (by decide))
  · exact intIn_okP h (by decide) (by decide)
theorem part_okP {d : PyData} {r : Str} (h : isPart d r = true) : okP d := by
  unfold isPart at h
  split at h
  · exact .inl (inS_short h (by decide))
  split at h
  · exact term_okP h
  split at h
  · exact .inl (inS_short h (by decide))
  split at h
  · exact intIn_okP h (by decide) (by decide)
  split at h
  · exact intIn_okP h (by decide) (by decide)
  · exact intIn_okP h (by decide) (by decide)
theorem parts_okP : ∀ {ps : List PyData} {rs : List Str}, ps.length = rs.length → allParts ps rs = true → ∀ p ∈ ps, okP p
  | [], _, _, _ => fun p m => nomatch m
  | p :: ps, [], l, _ => by simp at l
  | p :: ps, r :: rs, l, h => by
    have h' : isPart p r = true ∧ allParts ps rs = true := by
      simpa [allParts] using h
    intro x m
    rcases List.mem_cons.mp m with rfl | m
    · exact part_okP h'.1
    · exact parts_okP (by simpa using l) h'.2 x m
theorem word_short {z kind : Str} {rs : List Str} (h : rolesZ z kind = some rs) : z.length ≤ 9 := by
  unfold rolesZ at h
  repeat' split at h
  all_goals first | (subst_vars; decide) | (cases h)
theorem word_ask {kind : Str} {rs : List Str} (h : rolesZ "ask" kind = some rs) : rs = (["sign", "term", "variable"] : List Str) := by
  unfold rolesZ at h
  rw [if_neg (by decide +kernel), if_neg (by decide +kernel), if_neg (by decide +kernel)] at h
  split at h
  · rw [if_pos rfl] at h
    cases h
    rfl
  · rw [if_neg (by decide +kernel), if_neg (by decide +kernel)] at h
    cases h
/-- the middle word of an ask -/
def askW (g : Str) (t : PyData) : PyData := if g = "=" then t else .str ((("x" : Str) ++ g) ++ strD t)
/-- the line of a statement without bodies -/
def plainT (s : PyData) : Str := match s with
  | .tuple [.str z, .str g, t, x] => if z = "ask" then joinD [.str z, askW g t, x] else joinD [.str z, .str g, t, x]
  | .tuple ds => joinD ds
  | _ => Str.empty
theorem plainT_ask {g : Str} {t x : PyData} : plainT (.tuple [.str "ask", .str g, t, x]) = joinD [.str "ask", askW g t, x] := by
  simp [plainT]
theorem plainT_no {z : Str} {ps : List PyData} (h : ¬ z = "ask") : plainT (.tuple (.str z :: ps)) = joinD (.str z :: ps) := by
  unfold plainT
  split
  · rename_i z' g t x e
    injection e with e; injection e with e1 e2; injection e1 with e1
    subst e1
    rw [if_neg h, e2]
  · rename_i e
    injection e with e
    rw [e]
  · rename_i h1 h2
    exact absurd rfl (h2 _)
theorem plain_cases {s : PyData} {k : Str} (h : isPlain s k = true) : (∃ z ps, s = .tuple (.str z :: ps) ∧ ¬ z = "ask" ∧ z.length ≤ 9 ∧ ps.length ≤ 3 ∧ ∀ p ∈ ps, okP p) ∨ ∃ g t x, s = .tuple [.str "ask", .str g, t, x] ∧ g.length ≤ 9 ∧ okP t ∧ okP x := by
  obtain ⟨z, ps, rs, rfl, hz, hl, hp⟩ := plain_inv h
  by_cases c : z = "ask"
  · subst c
    have e := word_ask hz
    subst e
    match ps, hl, hp with
    | [a, b, x], _, hp =>
      have h' : isPart a "sign" = true ∧ isPart b "term" = true ∧ isPart x "variable" = true := by simpa [allParts] using hp
      rw [part_sign] at h'
      obtain ⟨g, rfl, hg⟩ := inS_short h'.1 (by decide)
      exact .inr ⟨g, b, x, rfl, hg, part_okP h'.2.1, part_okP h'.2.2⟩
  · exact .inl ⟨z, ps, rfl, c, word_short hz, by have := roles_short hz; omega, parts_okP hl hp⟩
theorem strD_short {d : PyData} (h : okP d) : (strD d).length ≤ 31 := by
  rcases h with ⟨z, rfl, h⟩ | ⟨i, rfl, h0, h1⟩
  · exact Nat.le_trans h (by decide)
  · refine PyProof.Rows.toString_length_le (k := 31) h0 (by decide) ?_
    have : longest = 10 ^ 30 := by decide
    omega
theorem len_app (a b : Str) : (a ++ b).length = a.length + b.length := by
  show (a.cps ++ b.cps).size = _
  rw [Array.size_append]
  rfl
theorem fmt_of {K : PySem.W.Frag} {H H' : Hp} {v : V} {d : PyData} {R : VK} (hd : Dp K H' v d) (ho : okP d) (q : R (.str (strD d)) H) : (∃ y : Str, v = .str y ∧ y.length ≤ sizeLine ∧ R (.str y) H) ∨ ∃ i : Int, v = .int i ∧ i.natAbs.log2 < 1920 ∧ R (.str (Str.ofString (toString i))) H := by
  rcases ho with ⟨z, rfl, h⟩ | ⟨i, rfl, h0, h1⟩
  · cases hd
    exact .inl ⟨z, rfl, Nat.le_trans h (by decide), q⟩
  · cases hd
    exact .inr ⟨i, rfl, wait_log h0 h1, q⟩
def spPL (K : PySem.W.Frag) : Sp := fun vs H Q _ => ∃ (v : V) (d : PyData) (k : Str), vs = [v] ∧ Dp K H v d ∧ isPlain d k = true ∧ ∀ H', Same H H' → Q (.str (plainT d)) H'
section
variable {P : Program} {w : World} {K : PySem.W.Frag} {mg : Str → Option Value} {base : Heap}
end
/-- the line that opens an if or a while -/
def condT (w : Str) (co : PyData) : Str := match co with
  | .tuple ds => joinD (.str w :: ds)
  | _ => Str.empty
def stT (g : PyData → List Str) (s : PyData) : List Str := match s with
  | .tuple [.str z, c, b] => if z = "while" then condT z c :: (g b ++ [("end" : Str)]) else [plainT s]
  | .tuple [.str z, c, b1, b2] => if z = "if" then condT z c :: (g b1 ++ (if isNil b2 = true then [] else ("else" : Str) :: g b2) ++ [("end" : Str)]) else [plainT s]
  | _ => [plainT s]
/-- the lines of a body -/
def bodyT : Nat → PyData → List Str
  | 0, _ => []
  | n + 1, .tuple ss => (ss.map (stT (bodyT n))).flatten
  | _ + 1, _ => []
theorem stT_plain {g : PyData → List Str} {z : Str} {ps : List PyData} (h1 : ¬ z = "if") (h2 : ¬ z = "while") : stT g (.tuple (.str z :: ps)) = [plainT (.tuple (.str z :: ps))] := by
  unfold stT
  split
  · rename_i z' c b e
    injection e with e; injection e with e1 e2; injection e1 with e1
    subst e1
    rw [if_neg h2]
  · rename_i z' c b1 b2 e
    injection e with e; injection e with e1 e2; injection e1 with e1
    subst e1
    rw [if_neg h1]
  · rfl
theorem stT_while {g : PyData → List Str} {c b : PyData} : stT g (.tuple [.str "while", c, b]) = condT "while" c :: (g b ++ [("end" : Str)]) := by
  simp [stT]
theorem stT_if {g : PyData → List Str} {c b1 b2 : PyData} : stT g (.tuple [.str "if", c, b1, b2]) = condT "if" c :: (g b1 ++ (if isNil b2 = true then [] else ("else" : Str) :: g b2) ++ [("end" : Str)]) := by
  simp [stT]
theorem flat_snoc {f : PyData → List Str} {ss : List PyData} {i : Nat} {s : PyData} (h : ss[i]? = some s) : ((ss.take (i + 1)).map f).flatten = ((ss.take i).map f).flatten ++ f s := by
  rw [take_snoc h]
  simp
/-- so many lines, each so long -/
def okT (c : Nat) (ys : List Str) : Prop := ys.length ≤ 3 * c ∧ ∀ y ∈ ys, y.length ≤ 600
theorem glue_len (sep : Str) (hs : sep.length ≤ 1) : ∀ (ys : List Str) (acc : Array Nat), (List.foldl (fun acc (p : Str) => acc ++ sep.cps ++ p.cps) acc ys).size ≤ acc.size + (ys.map (·.length)).sum + ys.length
  | [], acc => by simp
  | y :: r, acc => by
    have ih := glue_len sep hs r (acc ++ sep.cps ++ y.cps)
    rw [List.foldl_cons]
    refine Nat.le_trans ih ?_
    rw [Array.size_append, Array.size_append]
    have e1 : sep.cps.size = sep.length := rfl
    have e2 : y.cps.size = y.length := rfl
    simp only [List.map_cons, List.sum_cons, List.length_cons]
    omega
theorem join_len {ds : List PyData} (h : ∀ d ∈ ds, okW d) (l : ds.length ≤ 8) : (joinD ds).length ≤ 600 := by
  have hs := sum_len h
  have e : (joinD ds).length ≤ ((ds.map strD).map (·.length)).sum + ds.length := by
    show (List.foldl (fun acc (p : Str) => acc ++ (" " : Str).cps ++ p.cps) ((ds.map strD).headD Str.empty).cps (List.drop 1 (ds.map strD))).size ≤ _
    refine Nat.le_trans (glue_len " " (by decide +kernel) _ _) ?_
    cases ds with
    | nil => simp [Str.empty]
    | cons d r =>
      have e2 : (strD d).cps.size = (strD d).length := rfl
      simp only [List.map_cons, List.headD_cons, List.drop_succ_cons, List.drop_zero, List.sum_cons, List.length_cons, List.length_map]
      omega
  omega
theorem plainT_len {d : PyData} {k : Str} (h : isPlain d k = true) : (plainT d).length ≤ 600 := by
  rcases plain_cases h with ⟨z, ps, rfl, hz, lz, lp, hps⟩ | ⟨g, t, x, rfl, lg, ht, hx⟩
  · rw [plainT_no hz]
    refine join_len (fun d m => ?_) (by rw [List.length_cons]; omega)
    rcases List.mem_cons.mp m with rfl | m
    · exact .inl ⟨z, rfl, by omega⟩
    · exact okP_W (hps d m)
  · rw [plainT_ask]
    refine join_len (fun d m => ?_) (by show 3 ≤ 8; decide)
    simp only [List.mem_cons, List.not_mem_nil, or_false] at m
    rcases m with rfl | rfl | rfl
    · exact .inl ⟨_, rfl, by decide⟩
    · unfold askW
      split
      · exact okP_W ht
      · refine .inl ⟨_, rfl, ?_⟩
        have l1 : ("x" : Str).length = 1 := by decide +kernel
        have := strD_short ht
        rw [len_app, len_app, l1]
        omega
    · exact okP_W hx
theorem cond_three {co : PyData} (h : isCond co = true) : ∃ x y z, co = .tuple [x, y, z] ∧ okP x ∧ okP y ∧ okP z := by
  match co, h with
  | .tuple [x, y, z], h =>
    have h' : (inS x vars && inS y signs && isTerm z) = true := h
    rw [Bool.and_eq_true, Bool.and_eq_true] at h'
    exact ⟨x, y, z, rfl, .inl (inS_short h'.1.1 (by decide)), .inl (inS_short h'.1.2 (by decide)), term_okP h'.2⟩
theorem cond_okW {w : Str} {x y z : PyData} (hw : w.length ≤ 9) (h1 : okP x) (h2 : okP y) (h3 : okP z) : ∀ d ∈ [PyData.str w, x, y, z], okW d := by
  intro d m
  simp only [List.mem_cons, List.not_mem_nil, or_false] at m
  rcases m with rfl | rfl | rfl | rfl
  · exact .inl ⟨_, rfl, by omega⟩
  · exact okP_W h1
  · exact okP_W h2
  · exact okP_W h3
theorem condT_len {w : Str} {co : PyData} (hw : w.length ≤ 9) (h : isCond co = true) : (condT w co).length ≤ 600 := by
  obtain ⟨x, y, z, rfl, h1, h2, h3⟩ := cond_three h
  exact join_len (cond_okW hw h1 h2 h3) (by show 4 ≤ 8; decide)
theorem st_okT {k : Str} {n c : Nat} {s : PyData} {g : PyData → List Str} (hg : ∀ d c, bodyN k n d = some c → okT c (g d)) (h : stN k n s = some c) : okT c (stT g s) := by
  have l1 : ("end" : Str).length ≤ 600 := by decide +kernel
  have l2 : ("else" : Str).length ≤ 600 := by decide +kernel
  rcases st_shape h with ⟨z, ps, rfl, h1, h2, hp, rfl⟩ | ⟨co, bb, c', rfl, hco, hb, rfl⟩ | ⟨co, b1, b2, c1, c2, rfl, hco, hb1, hb2, rfl⟩
  · rw [stT_plain h1 h2]
    refine ⟨by show 1 ≤ 3; decide, fun y m => ?_⟩
    rw [List.mem_singleton] at m
    subst m
    exact plainT_len hp
  · rw [stT_while]
    obtain ⟨a1, a2⟩ := hg _ _ hb
    refine ⟨by simp only [List.length_cons, List.length_append, List.length_nil]; omega, fun y m => ?_⟩
    simp only [List.mem_cons, List.mem_append, List.not_mem_nil, or_false] at m
    rcases m with rfl | m | rfl
    · exact condT_len (by decide) hco
    · exact a2 _ m
    · exact l1
  · rw [stT_if]
    obtain ⟨a1, a2⟩ := hg _ _ hb1
    obtain ⟨b1', b2'⟩ := hg _ _ hb2
    have e : okT (c2 + 1) (if isNil b2 = true then [] else ("else" : Str) :: g b2) ∧ (if isNil b2 = true then [] else ("else" : Str) :: g b2).length ≤ 3 * c2 + 1 := by
      split
      · exact ⟨⟨by simp, fun y m => nomatch m⟩, by simp⟩
      · refine ⟨⟨by rw [List.length_cons]; omega, fun y m => ?_⟩, by rw [List.length_cons]; omega⟩
        rcases List.mem_cons.mp m with rfl | m
        · exact l2
        · exact b2' _ m
    obtain ⟨⟨_, e2⟩, e3⟩ := e
    generalize (if isNil b2 = true then [] else ("else" : Str) :: g b2) = w2 at e2 e3 ⊢
    refine ⟨by simp only [List.length_cons, List.length_append, List.length_nil]; omega, fun y m => ?_⟩
    simp only [List.mem_cons, List.mem_append, List.not_mem_nil, or_false] at m
    rcases m with rfl | (m | m) | rfl
    · exact condT_len (by decide) hco
    · exact a2 _ m
    · exact e2 _ m
    · exact l1
theorem flat_okT {k : Str} {n : Nat} {g : PyData → List Str} (hg : ∀ d c, bodyN k n d = some c → okT c (g d)) : ∀ {ss : List PyData} {c : Nat}, sumO (ss.map (stN k n)) = some c → okT c ((ss.map (stT g)).flatten)
  | [], _, _ => ⟨by simp, fun y m => by simp at m⟩
  | s :: r, c, h => by
    simp only [List.map_cons, sumO] at h
    cases e1 : stN k n s with
    | none => rw [e1, none_addO] at h; cases h
    | some a =>
      cases e2 : sumO (r.map (stN k n)) with
      | none => rw [e2, addO_none] at h; cases h
      | some b =>
        rw [e1, e2] at h
        have e : a + b = c := by injection h
        obtain ⟨a1, a2⟩ := st_okT hg e1
        obtain ⟨b1, b2⟩ := flat_okT hg e2
        rw [List.map_cons, List.flatten_cons]
        refine ⟨by rw [List.length_append]; omega, fun y m => ?_⟩
        rcases List.mem_append.mp m with m | m
        · exact a2 _ m
        · exact b2 _ m
theorem body_okT {k : Str} : ∀ (n : Nat) (d : PyData) (c : Nat), bodyN k n d = some c → okT c (bodyT n d)
  | 0, d, c, h => ⟨by simp [bodyT], fun y m => by simp [bodyT] at m⟩
  | n + 1, d, c, h => by
    obtain ⟨ss, rfl⟩ := body_tuple h
    rw [bodyN_tup] at h
    exact flat_okT (body_okT n) h
theorem body_take {k : Str} {n c : Nat} {ss : List PyData} (h : bodyN k (n + 1) (.tuple ss) = some c) (i : Nat) : okT c (bodyT (n + 1) (.tuple (ss.take i))) := by
  have e : ∃ c', bodyN k (n + 1) (.tuple (ss.take i)) = some c' ∧ c' ≤ c := by
    rw [bodyN_tup] at h ⊢
    have e2 : ss = ss.take i ++ ss.drop i := (List.take_append_drop i ss).symm
    rw [e2, List.map_append, sumO_append] at h
    cases e3 : sumO ((ss.take i).map (stN k n)) with
    | none => rw [e3, none_addO] at h; cases h
    | some a =>
      cases e4 : sumO ((ss.drop i).map (stN k n)) with
      | none => rw [e4, addO_none] at h; cases h
      | some b =>
        rw [e3, e4] at h
        have e : a + b = c := by injection h
        exact ⟨a, rfl, by omega⟩
  obtain ⟨c', h1, h2⟩ := e
  obtain ⟨a1, a2⟩ := body_okT (n + 1) _ _ h1
  exact ⟨by omega, a2⟩
def spBL (K : PySem.W.Frag) (n : Nat) : Sp := fun vs H Q _ => ∃ (v : V) (d : PyData) (k : Str) (c : Nat), vs = [v] ∧ Dp K H v d ∧ bodyN k n d = some c ∧ c ≤ 24 ∧
  ∀ H' p, Same H H' → H p = none → H' p = some (.lst ((bodyT n d).map V.str)) → Q (.ref p) H'
def spSL (K : PySem.W.Frag) (n : Nat) : Sp := fun vs H Q _ => ∃ (v : V) (d : PyData) (k : Str) (c : Nat), vs = [v] ∧ Dp K H v d ∧ stN k n d = some c ∧ c ≤ 24 ∧
  ∀ H' p, Same H H' → H p = none → H' p = some (.lst ((stT (bodyT n) d).map V.str)) → Q (.ref p) H'
section
variable {P : Program} {w : World} {K : PySem.W.Frag} {mg : Str → Option Value} {base : Heap}
end
section
variable {P : Program} {w : World} {K : PySem.W.Frag} {mg : Str → Option Value} {base : Heap}
end
/-- the text of a program -/
def textT (k : Str) (d : PyData) : Str := Txt.join "\n" (k :: bodyT 4 d)
theorem lines_sum : ∀ {ys : List Str}, (∀ y ∈ ys, y.length ≤ 600) → (ys.map (·.length)).sum ≤ 600 * ys.length
  | [], _ => by simp
  | y :: r, h => by
    have h1 := h y (by simp)
    have h2 := lines_sum (ys := r) fun x m => h x (List.mem_cons_of_mem _ m)
    simp only [List.map_cons, List.sum_cons, List.length_cons]
    omega
theorem prog_body {k : Str} {d : PyData} (h : isProg (.tuple [.str k, d]) = true) : ∃ c, bodyN k 4 d = some c ∧ c ≤ 24 ∧ inS (.str k) kinds = true := by
  have h' : (inS (.str k) kinds && okN 0 (bodyN k 4 d)) = true := h
  rw [Bool.and_eq_true] at h'
  cases e : bodyN k 4 d with
  | none => rw [e] at h'; cases h'.2
  | some c =>
    rw [e] at h'
    have hc : 0 + c ≤ 24 := of_decide_eq_true h'.2
    exact ⟨c, rfl, by omega, h'.1⟩
theorem kind_len {k : Str} (h : inS (.str k) kinds = true) : k.length ≤ 9 := by
  obtain ⟨z, e, h⟩ := inS_short h (by decide)
  cases e
  exact h
theorem text_ok {k : Str} {d : PyData} {c : Nat} (hk : k.length ≤ 9) (hb : bodyN k 4 d = some c) (hc : c ≤ 24) : ((k :: bodyT 4 d).map (·.length)).sum + (k :: bodyT 4 d).length * ("\n" : Str).length ≤ 16777216 := by
  obtain ⟨m1, m2⟩ := body_okT 4 _ _ hb
  have := lines_sum m2
  have e : ("\n" : Str).length = 1 := by decide +kernel
  rw [e]
  simp only [List.map_cons, List.sum_cons, List.length_cons]
  omega
def spShow (K : PySem.W.Frag) : Sp := fun vs H Q _ => ∃ (v : V) (k : Str) (d : PyData), vs = [v] ∧ Dp K H v (.tuple [.str k, d]) ∧ Lay (.tuple [.str k, d]) ∧ isProg (.tuple [.str k, d]) = true ∧
  ∀ H', Same H H' → Q (.str (textT k d)) H'
section
variable {P : Program} {w : World} {K : PySem.W.Frag} {mg : Str → Option Value} {base : Heap}
theorem none_SL {f : Addr} {fd : FuncData} (lv : Nat) : FnOk P w K mg base CX0 lv f fd ["statement"] (fun vs H Q E => 0 ≠ 0 ∧ spSL K (0 - 1) vs H Q E) :=
  ⟨fun vs H Q E h => absurd rfl h.1, fun A outer s H args us vs Q E _ _ _ _ h => absurd rfl h.1⟩
end
abbrev sLL : Stmt := top 38
/-- [str(part) for part in a tuple], the part in slot j -/
theorem lc_strW {K : PySem.W.Frag} {a : Addr} {xs : List V} {ds : List PyData} {j : Nat} {σ : L2.St} {H H0 : Hp} {D : Addr} {Qd : Hp → Prop} (hw : ∀ x : V, wipe ((wipe σ [j]).set j (some x)) [j] = wipe σ [j] ∧ ((wipe σ [j]).set j (some x))[j]? = some (some x))
    (hs : SqT K H a xs) (ha : DpAll K H0 xs ds) (hl8 : ds.length ≤ 8) (ho : ∀ d ∈ ds, okW d) (nD : H D = none) (hd : ∀ H', Same H H' → H' D = some (.lst ((ds.map strD).map V.str)) → Qd H') :
    ∃ W : Nat → Nat → Hp → Prop, (∃ m, W 0 m (upd H D (.lst []))) ∧ ∀ i m H, W i m H →
      ((Itt K a).stop i H ∧ Qd H) ∨ ((Itt K a).go i H ∧ ∃ Nx : Hp → Prop, (∀ H', Nx H' → ∃ m', m' < m ∧ W (i + 1) m' H') ∧ ∀ x H', (Itt K a).yld i H x H' → (gName j) x (wipe σ [j]) H' fun σ2 H2 => wipe σ2 [j] = wipe σ [j] ∧ tYes σ2 H2 fun b H3 =>
        if b = true then (tCB rStrW (tCons (tVar j) tNil)) σ2 H3 fun y H4 => ∃ acc, H4 D = some (.lst acc) ∧ acc.length < sizeLine ∧ Nx (upd H4 D (.lst (acc ++ [y]))) else Nx H3) := by
  have hl := dpAll_len ha
  refine lc_tup (K := K) (a := a) (xs := xs) (fun i H' => Same H H' ∧ H' D = some (.lst (((ds.take i).map strD).map V.str))) ⟨same_new nD _, upd_same⟩ (fun i H' _ ⟨s1, _⟩ => Same.tup s1 hs) ?_ ?_
  · rintro i x H1 hx ⟨s1, h1⟩
    obtain ⟨di, hdi, hxd⟩ := dpAll_get ha hx
    have mdi := List.mem_of_getElem? hdi
    refine ⟨(hw x).1, ?_⟩
    dsimp only [tYes]
    rw [if_pos rfl]
    refine ⟨_, (hw x).2, ?_⟩
    dsimp only [tNil]
    refine rStrW_of (K := K) hxd (ho _ mdi) ⟨_, h1, ?_, same_upd s1 nD _, ?_⟩
    · rw [List.length_map, List.length_map]
      refine Nat.lt_of_le_of_lt (m := 8) ?_ (by decide)
      exact Nat.le_trans (by rw [List.length_take]; omega) hl8
    · rw [upd_same, take_snoc hdi]
      simp
  · rintro H1 ⟨s1, h1⟩
    rw [hl, List.take_length] at h1
    exact hd _ s1 h1
theorem app_assoc (a b c : Str) : a ++ b ++ c = a ++ (b ++ c) := by
  show Str.mk ((a.cps ++ b.cps) ++ c.cps) = Str.mk (a.cps ++ (b.cps ++ c.cps))
  rw [Array.append_assoc]
theorem join3 (s a b c : Str) : Txt.join s [a, b, c] = a ++ s ++ b ++ s ++ c := rfl
theorem ask_word : ("ask " : Str) = "ask" ++ " " := by decide +kernel
theorem ask_line {g : Str} {t : PyData} {z : Str} : ("ask " : Str) ++ strD (askW g t) ++ " " ++ z = joinD [.str "ask", askW g t, .str z] := by
  show _ = Txt.join " " ["ask", strD (askW g t), z]
  rw [join3, ask_word]
theorem join_bound {ds : List PyData} (hl8 : ds.length ≤ 8) (hw : ∀ d ∈ ds, okW d) : ((ds.map strD).map (·.length)).sum + (ds.map strD).length * (PySem.Str.ofString " ").length ≤ 16777216 := by
  have := sum_len hw
  have e : (PySem.Str.ofString " ").length = 1 := by decide
  rw [e, List.length_map]
  omega
theorem small {n : Nat} (h : n ≤ 1000) : n ≤ sizeLine := Nat.le_of_lt (Nat.lt_of_le_of_lt h (by decide))
theorem small' {n : Nat} (h : n ≤ 1000) : n < sizeLine := Nat.lt_of_le_of_lt h (by decide)
theorem catTwo {H' : Hp} {p b : Addr} {ys zs : List V} {Q : VK} (hp : H' p = some (.lst ys)) (hb : H' b = some (.lst zs)) (hsz : ys.length + zs.length ≤ 1000) (q : ∀ H2 r, Same H' H2 → H' r = none → H2 r = some (.lst (ys ++ zs)) → Q (.ref r) H2) : rCat (.ref p) (.ref b) H' Q :=
  ⟨p, b, ys, zs, rfl, rfl, hp, hb, small hsz, fun r nr => q _ r (same_new nr _) nr upd_same⟩
theorem catOne {H' : Hp} {p : Addr} {ys : List V} {x : V} {Q : VK} (hp : H' p = some (.lst ys)) (hsz : ys.length + 1 ≤ 1000) (q : ∀ H2 r, Same H' H2 → H' r = none → H2 r = some (.lst (ys ++ [x])) → Q (.ref r) H2) : ∀ l, H' l = none → rCat (.ref p) (.ref l) (upd H' l (.lst [x])) Q :=
  fun l nl => catTwo (same_new nl _ _ _ hp) upd_same hsz fun H2 r s nr e => q H2 r ((same_new nl _).trans s) ((same_new nl _).free nr) e
def spLL (K : PySem.W.Frag) (n : Nat) : Sp := fun vs H Q _ => ∃ (v : V) (d : PyData) (k : Str) (c : Nat), vs = [v] ∧ n ≤ 4 ∧ Dp K H v d ∧ Lay d ∧ bodyN k n d = some c ∧ c ≤ 24 ∧
  ∀ H' p, Same H H' → H p = none → H' p = some (.lst ((bodyT n d).map V.str)) → Q (.ref p) H'
section
variable {P : Program} {w : World} {K : PySem.W.Frag} {mg : Str → Option Value} {base : Heap}
theorem scLL : FnScope ["_law_body", "_law_found", "_law_statement", "_law_place", "_law_part"] ["_law_body"] (defScope sLL) := ⟨rfl, rfl, rfl, by decide +kernel, rfl, by decide +kernel, by decide +kernel⟩
theorem ok_LL {f : Addr} {fd : FuncData} {lv n : Nat} (F : Fun K "_law_lines" "_law_lines" sLL f fd) (T : Gs K mg) (CC : Cal P w K mg base lv "_law_lines" ["_law_body"] (fun vs H Q E => n ≠ 0 ∧ spLL K (n - 1) vs H Q E)) :
    FnOk P w K mg base CX0 (lv + 1) f fd ["_law_body"] (spLL K n) := by
  refine F.ok scLL (fun vs H Q E h => ?_) (fun cdv A outer s H vs Q E hr h => ?_)
  · obtain ⟨v, d, k, c, rfl, _⟩ := h
    rfl
  obtain ⟨v, d, k, c, rfl, hn4, hd, ld, hbc, hc, q⟩ := h
  refine ⟨_, pss_cons (ps_set (i := 1) scLL.nd rfl (.inl rfl) (pe_lst pa_nil))
    (pss_cons (ps_for PassesOwn.never rfl (pi_tup (pv 0)) (pg_name (i := 2) scLL.nd rfl (.inl rfl))
      (pss_one (ps_if (pt_cmpR op_eq (pe_ix ix_tup (pv 2) pe_int (fun _ _ => rfl)) pe_str (nomark _))
        (pss_cons (ps_set (i := 1) scLL.nd rfl (.inl rfl) (pe_op op_cat (pv 1) (pe_lst (pa_cons (pe_join pe_str (pe_op op_cat (pe_lst (pa_cons pe_str pa_nil)) (pe_lc (own := [("_law_part", 4)]) (g := gName 4) (tt := tYes) (te := tCB rStrW (tCons (tVar 4) tNil)) rfl scLL.nd (pi_tup (pe_ix ix_tup (pv 2) pe_int (fun _ _ => rfl)))
            (blkOk_by (N := ["_law_body", "_law_found", "_law_statement", "_law_place", "_law_part"]) (sc := defScope sLL) (by decide +kernel))
            (fun _ _ _ _ _ => pg_name (i := 4) scLL.nd rfl (.inl rfl)) (fun _ _ _ _ _ => pts_nil)
            (fun _ _ _ _ _ => pe_callTy call_strW (by rfl) T.str (by decide +kernel) (pa_cons (pv 4) pa_nil))))) pa_nil))))
        (pss_one (ps_set (i := 1) scLL.nd rfl (.inl rfl) (pe_op op_cat (pe_op op_cat (pv 1) (pe_call CC.G hr rfl CC.m CC.kp CC.b .nil pass0 (pa_cons (pe_ix ix_tup (pv 2) pe_int (fun _ _ => rfl)) pa_nil))) (pe_lst (pa_cons pe_str pa_nil))))))
        (pss_one (ps_if (pt_cmpR op_eq (pe_ix ix_tup (pv 2) pe_int (fun _ _ => rfl)) pe_str (nomark _))
          (pss_cons (ps_set (i := 1) scLL.nd rfl (.inl rfl) (pe_op op_cat (pe_op op_cat (pv 1) (pe_lst (pa_cons (pe_join pe_str (pe_op op_cat (pe_lst (pa_cons pe_str pa_nil)) (pe_lc (own := [("_law_part", 4)]) (g := gName 4) (tt := tYes) (te := tCB rStrW (tCons (tVar 4) tNil)) rfl scLL.nd (pi_tup (pe_ix ix_tup (pv 2) pe_int (fun _ _ => rfl)))
            (blkOk_by (N := ["_law_body", "_law_found", "_law_statement", "_law_place", "_law_part"]) (sc := defScope sLL) (by decide +kernel))
            (fun _ _ _ _ _ => pg_name (i := 4) scLL.nd rfl (.inl rfl)) (fun _ _ _ _ _ => pts_nil)
            (fun _ _ _ _ _ => pe_callTy call_strW (by rfl) T.str (by decide +kernel) (pa_cons (pv 4) pa_nil))))) pa_nil))) (pe_call CC.G hr rfl CC.m CC.kp CC.b .nil pass0 (pa_cons (pe_ix ix_tup (pv 2) pe_int (fun _ _ => rfl)) pa_nil))))
          (pss_cons (ps_if (pt_cmpR (op_neD hr.units) (pe_ix ix_tup (pv 2) pe_int (fun _ _ => rfl)) (pe_tup pa_nil) (nomark _))
              (pss_one (ps_set (i := 1) scLL.nd rfl (.inl rfl) (pe_op op_cat (pe_op op_cat (pv 1) (pe_lst (pa_cons pe_str pa_nil))) (pe_call CC.G hr rfl CC.m CC.kp CC.b .nil pass0 (pa_cons (pe_ix ix_tup (pv 2) pe_int (fun _ _ => rfl)) pa_nil))))) pss_nil)
          (pss_one (ps_set (i := 1) scLL.nd rfl (.inl rfl) (pe_op op_cat (pv 1) (pe_lst (pa_cons pe_str pa_nil)))))))
          (pss_one (ps_if (pt_cmpR op_eq (pe_ix ix_tup (pv 2) pe_int (fun _ _ => rfl)) pe_str (nomark _))
            (pss_cons (ps_set (i := 3) scLL.nd rfl (.inl rfl) (pe_callTy call_strW (by rfl) T.str (by decide +kernel) (pa_cons (pe_ix ix_tup (pv 2) pe_int (fun _ _ => rfl)) pa_nil)))
            (pss_cons (ps_if (pt_cmpR op_ne (pe_ix ix_tup (pv 2) pe_int (fun _ _ => rfl)) pe_str (nomark _)) (pss_one (ps_set (i := 3) scLL.nd rfl (.inl rfl) (pe_op op_add_str (pe_op op_add_str pe_str (pe_ix ix_tup (pv 2) pe_int (fun _ _ => rfl))) (pv 3)))) pss_nil)
            (pss_one (ps_expr (pe_bm PySem.F.plainAttrs_list PySem.F.slot_list_append PySem.F.type_list_append mt_append (pv 1) (pa_cons (pe_op op_add_str (pe_op op_add_str (pe_op op_add_str pe_str (pv 3)) pe_str) (pe_ix ix_tup (pv 2) pe_int (fun _ _ => rfl))) pa_nil))))))
            (pss_one (ps_expr (pe_bm PySem.F.plainAttrs_list PySem.F.slot_list_append PySem.F.type_list_append mt_append (pv 1) (pa_cons (pe_join pe_str (pe_lc (own := [("_law_part", 4)]) (g := gName 4) (tt := tYes) (te := tCB rStrW (tCons (tVar 4) tNil)) rfl scLL.nd (pi_tup (pv 2))
            (blkOk_by (N := ["_law_body", "_law_found", "_law_statement", "_law_place", "_law_part"]) (sc := defScope sLL) (by decide +kernel))
            (fun _ _ _ _ _ => pg_name (i := 4) scLL.nd rfl (.inl rfl)) (fun _ _ _ _ _ => pts_nil)
            (fun _ _ _ _ _ => pe_callTy call_strW (by rfl) T.str (by decide +kernel) (pa_cons (pv 4) pa_nil)))) pa_nil)))))))))))
    (pss_one (ps_ret (pv 1)))), ?_⟩
  obtain ⟨ss, rfl⟩ := body_tuple hbc
  obtain ⟨a, xs, rfl, hs, ha⟩ := dp_tup_inv hd
  have hl := dpAll_len ha
  have lm := lay_mem (lay_tup ld)
  refine ⟨(by show 0 ≤ sizeLine; decide), fun l nl => ?_⟩
  have s0 : Same H (upd H l (.lst [])) := same_new nl _
  refine ⟨_, rfl, a, rfl, ⟨_, Same.tup s0 hs⟩, for_tup (K := K) (a := a) (xs := xs) (fun i σ H' => ∃ (p : Addr) (s2 s3 s4 : Option V), σ = [some (.ref a), some (.ref p), s2, s3, s4] ∧ Same H H' ∧ H p = none ∧ H' p = some (.lst ((bodyT n (.tuple (ss.take i))).map V.str)))
    ⟨l, none, none, none, rfl, s0, nl, by rw [upd_same]; cases n <;> rfl⟩ (fun i σ H' _ ⟨_, _, _, _, _, s1, _⟩ => Same.tup s1 hs) ?_ ?_⟩
  · rintro i x σ H1 hx ⟨p, s2, s3, s4, rfl, s1, np, hp⟩
    obtain ⟨si, hsi, hxd⟩ := dpAll_get ha hx
    have msi := List.mem_of_getElem? hsi
    cases n with
    | zero =>
      cases ss with
      | nil => cases msi
      | cons _ _ => cases hbc
    | succ n =>
      obtain ⟨ai, hai, lai⟩ := sum_le hbc msi
      have one := body_take hbc (i + 1)
      have esn : bodyT (n + 1) (.tuple (ss.take (i + 1))) = bodyT (n + 1) (.tuple (ss.take i)) ++ stT (bodyT n) si := flat_snoc hsi
      rw [esn] at one ⊢
      have ltot := one.1
      rw [List.length_append] at ltot
      generalize hX : bodyT (n + 1) (.tuple (ss.take i)) = X at hp ltot ⊢
      have xl : (X.map V.str).length = X.length := List.length_map _
      have lsi := lm _ msi
      rcases st_shape hai with ⟨z, ps, rfl, h1, h2, hpl, rfl⟩ | ⟨co, bb, c', rfl, hco, hb, rfl⟩ | ⟨co, b1, b2, c1, c2, rfl, hco, hb1, hb2, rfl⟩
      · rw [stT_plain h1 h2] at ltot ⊢
        have l1 : X.length + 1 ≤ 3 * c := ltot
        obtain ⟨ax, xx, rfl, hsx, hax⟩ := dp_tup_inv hxd
        have hsx1 := Same.tup s1 hsx
        rcases plain_cases hpl with ⟨z', ps', e, hz, lz, lp, hps⟩ | ⟨g, t, x, e, lg, ht, hx'⟩
        · injection e with e; injection e with e e2; injection e with e
          subst e e2
          obtain ⟨xr, rfl⟩ : ∃ xr, xx = .str z :: xr := by
            cases hax with
            | cons hz _ => cases hz; exact ⟨_, rfl⟩
          have okA : ∀ d ∈ PyData.str z :: ps, okW d := by
            intro d m
            rcases List.mem_cons.mp m with rfl | m
            · exact .inl ⟨z, rfl, by omega⟩
            · exact okP_W (hps d m)
          have l8 : (PyData.str z :: ps).length ≤ 8 := by rw [List.length_cons]; omega
          rw [plainT_no hz]
          refine ⟨_, rfl, ax, _, _, _, rfl, rfl, hsx1, atI_nat (j := 0) rfl, rfl, _, rfl, strF h2 ?_⟩
          refine ⟨_, rfl, ax, _, _, _, rfl, rfl, hsx1, atI_nat (j := 0) rfl, rfl, _, rfl, strF h1 ?_⟩
          refine ⟨_, rfl, ax, _, _, _, rfl, rfl, hsx1, atI_nat (j := 0) rfl, rfl, _, rfl, strF hz ?_⟩
          refine ⟨_, rfl, .inl ⟨rfl, _, SqL.of hp⟩, ⟨_, rfl⟩, _, rfl, ax, rfl, ⟨_, hsx1⟩, fun D nD => lc_strW (fun _ => ⟨rfl, rfl⟩) hsx1 hax l8 okA nD fun H2 s2' e2 => ?_⟩
          refine ⟨_, D, _, rfl, rfl, .inl (SqL.of e2), join_bound l8 okA, ?_⟩
          refine ⟨p, _, _, rfl, rfl, s2' _ _ hp, small' (by rw [xl]; omega), p, _, _, _, rfl, same_upd (s1.trans s2') np _, np, ?_⟩
          rw [upd_same, List.map_append]
          rfl
        · injection e with e; injection e with e e2; injection e with e
          subst e e2
          obtain ⟨x0, x1, x2, x3, rfl, h0, hx1, hx2, hx3⟩ := dp_four hax
          cases h0
          cases hx1
          have hxv : ∃ zx, x = .str zx := by
            obtain ⟨z9, ps9, rs9, e9, hz9, hl9, hp9⟩ := plain_inv hpl
            injection e9 with e9; injection e9 with e9 e8; injection e9 with e9
            subst e9 e8
            have e7 := word_ask hz9
            subst e7
            have h' : isPart (.str g) "sign" = true ∧ isPart t "term" = true ∧ isPart x "variable" = true := by simpa [allParts] using hp9
            have h9 : inS x vars = true := by
              have := h'.2.2
              unfold isPart at this
              rwa [if_pos rfl] at this
            obtain ⟨zx, rfl, _⟩ := inS_short h9 (by decide)
            exact ⟨zx, rfl⟩
          obtain ⟨zx, rfl⟩ := hxv
          cases hx3
          have lzx : zx.length ≤ 9 := by
            rcases hx' with ⟨z', e, h⟩ | ⟨i', e, _⟩
            · cases e; exact h
            · cases e
          rw [plainT_ask]
          have lst' := strD_short ht
          refine ⟨_, rfl, ax, _, _, _, rfl, rfl, hsx1, atI_nat (j := 0) rfl, rfl, _, rfl, strF h2 ?_⟩
          refine ⟨_, rfl, ax, _, _, _, rfl, rfl, hsx1, atI_nat (j := 0) rfl, rfl, _, rfl, strF h1 ?_⟩
          refine ⟨_, rfl, ax, _, _, _, rfl, rfl, hsx1, atI_nat (j := 0) rfl, rfl, _, rfl, strT ?_⟩
          refine ⟨_, rfl, ax, _, _, _, rfl, rfl, hsx1, atI_nat (j := 2) rfl, ?_⟩
          dsimp only [tNil]
          refine rStrW_of (K := K) hx2 (okP_W ht) ?_
          refine ⟨_, rfl, ax, _, _, _, rfl, rfl, hsx1, atI_nat (j := 1) rfl, rfl, _, rfl, ?_⟩
          have lx : ("x" : Str).length = 1 := by decide +kernel
          have la : ("ask " : Str).length = 4 := by decide +kernel
          have lb : (" " : Str).length = 1 := by decide +kernel
          by_cases hg : g = "="
          · subst hg
            refine ite2 (fun c => absurd c (by rw [decide_eq_true rfl]; decide)) (fun _ => ?_)
            refine ⟨_, rfl, .inl ⟨rfl, _, SqL.of hp⟩, _, rfl, _, _, rfl, rfl, small (by rw [la]; omega), _, _, rfl, rfl, small (by rw [len_app, la, lb]; omega), _, rfl, ax, _, _, _, rfl, rfl, hsx1, atI_nat (j := 3) rfl, _, _, rfl, rfl, small (by rw [len_app, len_app, la, lb]; omega), ?_⟩
            refine ⟨p, _, _, rfl, rfl, hp, small' (by rw [xl]; omega), p, _, _, _, rfl, same_upd s1 np _, np, ?_⟩
            have e := ask_line (g := "=") (t := t) (z := zx)
            rw [upd_same, List.map_append, ← e, show askW "=" t = t from if_pos rfl]
            rfl
          · have eA : askW g t = .str ((("x" : Str) ++ g) ++ strD t) := if_neg hg
            refine ite2 (fun _ => ?_) (fun c => absurd (by rw [decide_eq_false (fun e => hg (by injection e))]; rfl) c)
            refine ⟨_, rfl, ax, _, _, _, rfl, rfl, hsx1, atI_nat (j := 1) rfl, _, _, rfl, rfl, small (by rw [lx]; omega), _, rfl, _, _, rfl, rfl, small (by rw [len_app, lx]; omega), ?_⟩
            have l50 : ((("x" : Str) ++ g) ++ strD t).length ≤ 50 := by rw [len_app, len_app, lx]; omega
            refine ⟨_, rfl, .inl ⟨rfl, _, SqL.of hp⟩, _, rfl, _, _, rfl, rfl, small (by rw [la]; omega), _, _, rfl, rfl, small (by rw [len_app, la, lb]; omega), _, rfl, ax, _, _, _, rfl, rfl, hsx1, atI_nat (j := 3) rfl, _, _, rfl, rfl, small (by rw [len_app, len_app, la, lb]; omega), ?_⟩
            refine ⟨p, _, _, rfl, rfl, hp, small' (by rw [xl]; omega), p, _, _, _, rfl, same_upd s1 np _, np, ?_⟩
            have e := ask_line (g := g) (t := t) (z := zx)
            rw [upd_same, List.map_append, ← e, eA]
            rfl
      · rw [stT_while] at ltot ⊢
        simp only [List.length_cons, List.length_append, List.length_nil] at ltot
        obtain ⟨ax, xx, rfl, hsx, hax⟩ := dp_tup_inv hxd
        obtain ⟨x0, x1, x2, d0, d1, d2, rfl, e3, h0, hx1, hx2⟩ := dp_three hax rfl
        injection e3 with e3 e4
        injection e4 with e4 e5
        injection e5 with e5 _
        subst e3 e4 e5
        cases h0
        have hsx1 := Same.tup s1 hsx
        obtain ⟨cx, cy, cz, rfl, o1, o2, o3⟩ := cond_three hco
        obtain ⟨ca, cxs, rfl, hcs, hca⟩ := dp_tup_inv hx1
        have okC := cond_okW (w := "while") (by decide) o1 o2 o3
        have okC3 : ∀ d ∈ [cx, cy, cz], okW d := fun d m => okC d (List.mem_cons_of_mem _ m)
        refine ⟨_, rfl, ax, _, _, _, rfl, rfl, hsx1, atI_nat (j := 0) rfl, rfl, _, rfl, strT ?_⟩
        refine ⟨_, rfl, ⟨_, rfl⟩, (by show 1 ≤ sizeLine; decide), fun l2 nl2 => ?_⟩
        have sA : Same H1 (upd H1 l2 (.lst [.str "while"])) := same_new nl2 _
        have eA : (upd H1 l2 (.lst [.str "while"])) l2 = some (.lst [.str "while"]) := upd_same
        generalize upd H1 l2 (.lst [.str "while"]) = H2 at sA eA ⊢
        have s12 := s1.trans sA
        refine ⟨_, rfl, ax, _, _, _, rfl, rfl, Same.tup s12 hsx, atI_nat (j := 1) rfl, ca, rfl, ⟨_, Same.tup s12 hcs⟩, fun D nD => lc_strW (fun _ => ⟨rfl, rfl⟩) (Same.tup s12 hcs) hca (by show 3 ≤ 8; decide) okC3 nD fun H3 s3' e3 => ?_⟩
        refine catTwo (s3' _ _ eA) e3 (by show 1 + 3 ≤ 1000; decide) fun H4 r s4' nr e4 => ?_
        refine ⟨_, r, (PyData.str "while" :: [cx, cy, cz]).map strD, rfl, rfl, .inl (SqL.of e4), join_bound (by show 4 ≤ 8; decide) okC, ?_⟩
        have s14 := sA.trans (s3'.trans s4')
        refine ⟨(by show 1 ≤ sizeLine; decide), catOne (s14 _ _ hp) (by rw [xl]; omega) fun H5 r5 s5' nr5 e5 => ?_⟩
        have s15 := s1.trans (s14.trans s5')
        refine ⟨_, rfl, _, rfl, ax, _, _, _, rfl, rfl, Same.tup s15 hsx, atI_nat (j := 2) rfl, by omega, x2, bb, k, c', rfl, by omega, dp_mono s15 _ _ hx2, lay_mem (lay_tup lsi) _ (by simp), hb, by omega, fun H6 p6 s6' np6 e6 => ?_⟩
        have e6' : H6 p6 = some (.lst ((bodyT n bb).map V.str)) := e6
        refine catTwo (s6' _ _ e5) e6' (by simp only [List.length_append, List.length_map, List.length_cons, List.length_nil]; omega) fun H7 r7 s7' nr7 e7 => ?_
        refine ⟨(by show 1 ≤ sizeLine; decide), catOne e7 (by simp only [List.length_append, List.length_map, List.length_cons, List.length_nil]; omega) fun H8 r8 s8' nr8 e8 => ?_⟩
        have s18 := s15.trans (s6'.trans (s7'.trans s8'))
        refine ⟨r8, _, _, _, rfl, s18, (s15.trans (s6'.trans s7')).free nr8, ?_⟩
        rw [e8]
        simp [condT, joinD]
      · rw [stT_if] at ltot ⊢
        obtain ⟨ax, xx, rfl, hsx, hax⟩ := dp_tup_inv hxd
        obtain ⟨x0, x1, x2, x3, rfl, h0, hx1, hx2, hx3⟩ := dp_four hax
        cases h0
        have hsx1 := Same.tup s1 hsx
        obtain ⟨cx, cy, cz, rfl, o1, o2, o3⟩ := cond_three hco
        obtain ⟨ca, cxs, rfl, hcs, hca⟩ := dp_tup_inv hx1
        have okC := cond_okW (w := "if") (by decide) o1 o2 o3
        have okC3 : ∀ d ∈ [cx, cy, cz], okW d := fun d m => okC d (List.mem_cons_of_mem _ m)
        have lmm := lay_mem (lay_tup lsi)
        refine ⟨_, rfl, ax, _, _, _, rfl, rfl, hsx1, atI_nat (j := 0) rfl, rfl, _, rfl, strF (by decide +kernel) ?_⟩
        refine ⟨_, rfl, ax, _, _, _, rfl, rfl, hsx1, atI_nat (j := 0) rfl, rfl, _, rfl, strT ?_⟩
        have l1 : X.length + (1 + (bodyT n b1).length + 1) ≤ 1000 := by
          simp only [List.length_cons, List.length_append, List.length_nil] at ltot
          omega
        refine ⟨_, rfl, ⟨_, rfl⟩, (by show 1 ≤ sizeLine; decide), fun l2 nl2 => ?_⟩
        have sA : Same H1 (upd H1 l2 (.lst [.str "if"])) := same_new nl2 _
        have eA : (upd H1 l2 (.lst [.str "if"])) l2 = some (.lst [.str "if"]) := upd_same
        generalize upd H1 l2 (.lst [.str "if"]) = H2 at sA eA ⊢
        have s12 := s1.trans sA
        refine ⟨_, rfl, ax, _, _, _, rfl, rfl, Same.tup s12 hsx, atI_nat (j := 1) rfl, ca, rfl, ⟨_, Same.tup s12 hcs⟩, fun D nD => lc_strW (fun _ => ⟨rfl, rfl⟩) (Same.tup s12 hcs) hca (by show 3 ≤ 8; decide) okC3 nD fun H3 s3' e3 => ?_⟩
        refine catTwo (s3' _ _ eA) e3 (by show 1 + 3 ≤ 1000; decide) fun H4 r s4' nr e4 => ?_
        refine ⟨_, r, (PyData.str "if" :: [cx, cy, cz]).map strD, rfl, rfl, .inl (SqL.of e4), join_bound (by show 4 ≤ 8; decide) okC, ?_⟩
        have s14 := sA.trans (s3'.trans s4')
        refine ⟨(by show 1 ≤ sizeLine; decide), catOne (s14 _ _ hp) (by rw [xl]; omega) fun H5 r5 s5' nr5 e5 => ?_⟩
        have s15 := s1.trans (s14.trans s5')
        refine ⟨_, rfl, ax, _, _, _, rfl, rfl, Same.tup s15 hsx, atI_nat (j := 2) rfl, by omega, x2, b1, k, c1, rfl, by omega, dp_mono s15 _ _ hx2, lmm _ (by simp), hb1, by omega, fun H6 p6 s6' np6 e6 => ?_⟩
        have e6' : H6 p6 = some (.lst ((bodyT n b1).map V.str)) := e6
        refine catTwo (s6' _ _ e5) e6' (by simp only [List.length_append, List.length_map, List.length_cons, List.length_nil]; omega) fun H7 r7 s7' nr7 e7 => ?_
        have s17 := s15.trans (s6'.trans s7')
        have nr7H := (s15.trans s6').free nr7
        obtain ⟨ss2, rfl⟩ := body_tuple hb2
        refine ⟨_, rfl, ax, _, _, _, rfl, rfl, Same.tup s17 hsx, atI_nat (j := 3) rfl, (by show 0 ≤ sizeLine; decide), fun e0 ne0 => ?_⟩
        have sE0 := same_new ne0 (.tup [])
        have ee0 : (upd H7 e0 (.tup [])) e0 = some (.tup []) := upd_same
        generalize upd H7 e0 (.tup []) = H8 at sE0 ee0 ⊢
        have s18 := s17.trans sE0
        have e78 := sE0 _ _ e7
        have sh2 : SeqAt.shaped (.tuple ss2) = true := by
          show ((PyData.tuple ss2).canLay0 && decide ((PyData.tuple ss2).depth ≤ 64)) = true
          rw [Bool.and_eq_true]
          exact ⟨lmm _ (by simp), decide_eq_true (by have := body_depth hb2; omega)⟩
        refine ⟨.tuple ss2, .tuple [], dp_mono s18 _ _ hx3, .tup (SqT.of ee0) .nil, sh2, by decide +kernel, _, rfl, ?_⟩
        rw [eqv_nil]
        cases hnil : isNil (.tuple ss2) with
        | true =>
          refine iteF ⟨_, rfl, (by show 1 ≤ sizeLine; decide), catOne e78 (by simp only [List.length_append, List.length_map, List.length_cons, List.length_nil]; omega) fun H9 r9 s9' nr9 e9 => ?_⟩
          refine ⟨r9, _, _, _, rfl, s18.trans s9', s18.free nr9, ?_⟩
          rw [e9]
          simp [condT, joinD]
        | false =>
          rw [if_neg (by rw [hnil]; decide)] at ltot
          simp only [List.length_cons, List.length_append, List.length_nil] at ltot
          refine iteT ⟨_, rfl, (by show 1 ≤ sizeLine; decide), catOne e78 (by simp only [List.length_append, List.length_map, List.length_cons, List.length_nil]; omega) fun H9 r9 s9' nr9 e9 => ?_⟩
          have s19 := s18.trans s9'
          refine ⟨_, rfl, ax, _, _, _, rfl, rfl, Same.tup s19 hsx, atI_nat (j := 3) rfl, by omega, x3, .tuple ss2, k, c2, rfl, by omega, dp_mono s19 _ _ hx3, lmm _ (by simp), hb2, by omega, fun H10 p10 s10 np10 e10 => ?_⟩
          have e10' : H10 p10 = some (.lst ((bodyT n (.tuple ss2)).map V.str)) := e10
          refine catTwo (s10 _ _ e9) e10' (by simp only [List.length_append, List.length_map, List.length_cons, List.length_nil]; omega) fun H11 r11 s11 nr11 e11 => ?_
          refine ⟨_, rfl, (by show 1 ≤ sizeLine; decide), catOne e11 (by simp only [List.length_append, List.length_map, List.length_cons, List.length_nil]; omega) fun H12 r12 s12' nr12 e12 => ?_⟩
          refine ⟨r12, _, _, _, rfl, s19.trans (s10.trans (s11.trans s12')), (s19.trans (s10.trans s11)).free nr12, ?_⟩
          rw [e12]
          simp [condT, joinD]
  · rintro σ H1 ⟨p, s2, s3, s4, rfl, s1, np, hp⟩
    rw [hl, List.take_length] at hp
    exact ⟨_, rfl, q _ _ s1 np hp⟩
theorem none_LL {f : Addr} {fd : FuncData} (lv : Nat) : FnOk P w K mg base CX0 lv f fd ["_law_body"] (fun vs H Q E => 0 ≠ 0 ∧ spLL K (0 - 1) vs H Q E) :=
  ⟨fun vs H Q E h => absurd rfl h.1, fun A outer s H args us vs Q E _ _ _ _ h => absurd rfl h.1⟩
theorem recLL {f : Addr} {fd : FuncData} (F : Fun K "_law_lines" "_law_lines" sLL f fd) (bF : Binds K fd ["_law_body"] []) (mF : mg "_law_lines" = some (.ref f)) (T : Gs K mg) :
    ∀ n : Nat, FnOk P w K mg base CX0 (2 + n) f fd ["_law_body"] (spLL K n)
  | 0 => ok_LL (lv := 1) F T ⟨f, fd, none_LL 1, bF, F.kp, mF⟩
  | n + 1 => by
    have ih := recLL F bF mF T n
    have c2 : FnOk P w K mg base CX0 (2 + n) f fd ["_law_body"] (fun vs H Q E => n + 1 ≠ 0 ∧ spLL K (n + 1 - 1) vs H Q E) :=
      ⟨fun vs H Q E h => ih.len vs H Q E h.2, fun A outer s H args us vs Q E h1 h2 h3 h4 h => ih.run A outer s H args us vs Q E h1 h2 h3 h4 h.2⟩
    exact ok_LL (lv := 2 + n) (n := n + 1) F T ⟨f, fd, c2, bF, F.kp, mF⟩
end
end My

namespace My
open PySem L2 PySem.Spec PyProof.Rows
abbrev sText : Stmt := top 39
def spText (K : PySem.W.Frag) : Sp := fun vs H Q _ => ∃ (v : V) (k : Str) (d : PyData) (c : Nat), vs = [v] ∧ Dp K H v (.tuple [.str k, d]) ∧ Lay (.tuple [.str k, d]) ∧ k.length ≤ 9 ∧ bodyN k 4 d = some c ∧ c ≤ 24 ∧
  ∀ H', Same H H' → Q (.str (textT k d)) H'
/-- show, whatever the thing is -/
def spShowX (K : PySem.W.Frag) (C : Addr) : Sp := fun vs H Q E => ∃ (v : V) (d : PyData), vs = [v] ∧ Dp K H v d ∧ Lay d ∧ (∀ k b, d = .tuple [.str k, b] → isProg d = true → ∀ H', Same H H' → Q (.str (textT k b)) H') ∧ (isProg d = false → ∀ H', Same H H' → E (.ref C) none H')
def spSaid (K : PySem.W.Frag) : Sp := fun vs H Q _ => ∃ (v : V) (d : PyData), vs = [v] ∧ Dp K H v d ∧ Lay d ∧ (∀ k b, d = .tuple [.str k, b] → isProg d = true → ∀ H' p, Same H H' → H p = none → H' p = some (.tup [.str "text", .str (textT k b)]) → Q (.ref p) H') ∧ (isProg d = false → ∀ H' p, Same H H' → H p = none → H' p = some (.tup [.str "error", .bl true]) → Q (.ref p) H')
theorem prog_shape {d : PyData} (h : isProg d = true) : ∃ k b, d = .tuple [.str k, b] := by
  unfold isProg at h
  split at h
  · rename_i k b
    exact ⟨k, b, rfl⟩
  · cases h
section
variable {X : Cx}
theorem call_isG {a : Addr} {cls : Value} {d : Option Addr} {oe : Obj} {pn : List (Addr × Obj)} (hz : Zc cls d oe) (hf : ∃ vs, oe.data = .fields vs) :
    CallR (X.suite a ((a, oe) :: pn)) (.builtin "isinstance") (fun xs H Q => ∃ D, cls = .ref D ∧ d = none ∧ ExcC X.K D ∧ rIsE X.K D a xs H Q) := by
  intro pins s σ H xs us Q I r h
  obtain ⟨D, rfl, rfl, C, h⟩ := h
  exact call_isE C hz hf pins s σ H xs us Q I r h
def rIsET (K : PySem.W.Frag) (D a : Addr) : List V → Hp → VK → Prop := fun xs H Q => ∃ (tp : Addr) (cs : List V) (ws : List Value) (b : Bool), xs = [.ref a, .ref tp] ∧ H tp = some (.tup cs) ∧ Paired ClsV cs ws ∧ PySem.W.kitAny K (.ref D) ws = some b ∧ Q (.bl b) H
theorem call_isGT {a : Addr} {cls : Value} {d : Option Addr} {oe : Obj} {pn : List (Addr × Obj)} (hz : Zc cls d oe) (hf : ∃ vs, oe.data = .fields vs) :
    CallR (X.suite a ((a, oe) :: pn)) (.builtin "isinstance") (fun xs H Q => ∃ D, cls = .ref D ∧ d = none ∧ ExcC X.K D ∧ rIsET X.K D a xs H Q) := by
  intro pins s σ H xs us Q I r h
  obtain ⟨D, rfl, rfl, C, tp, cs, ws, b, rfl, hT, k, e, q⟩ := h
  obtain ⟨u1, u2, rfl, r1, r2⟩ := vals2 r
  cases (show u2 = Value.ref tp from r2)
  cases (show u1 = Value.ref a from r1)
  obtain ⟨hget, _⟩ := I.pin (a, oe) (List.mem_append.mpr (.inl List.mem_cons_self))
  obtain ⟨vs, hv⟩ := hf
  have J : PySem.W.InstAt s.heap a oe D none := by
    obtain ⟨oc, od, oda, osl⟩ := oe
    obtain ⟨h1, h2⟩ := hz
    dsimp only at h1 h2 hv
    subst h1 h2 hv
    exact ⟨hget, rfl, rfl, trivial⟩
  obtain ⟨_, its, rv, o, h1, h2, n, h3⟩ := (show ObjOk X.prog X.w H s.heap tp (.tup cs) from I.hok tp _ hT)
  have e3 := ClsV.all k rv
  subst e3
  obtain ⟨oc, od, dt, sl⟩ := o
  simp only at h2 h3
  subst h2 h3
  exact PySem.W.kia_tup (PySem.W.handS_kitx_exc C.hg C.hk C.hs C.hd C.ha C.hn C.ht C.hm) I.kIn J h1 e (fun z => nomatch z) fun tk => ⟨.bl b, H, I.kept (t' := tk) fun _ _ z => z, rfl, q⟩
end
/-- what the top has written of the errors -/
structure Er (K : PySem.W.Frag) (mg : Str → Option Value) where
  cP : Addr
  cH : Addr
  c1 : Addr
  c2 : Addr
  c3 : Addr
  c4 : Addr
  c5 : Addr
  gP : mg "BadProgram" = some (.ref cP)
  gH : mg "HouseError" = some (.ref cH)
  g1 : mg "BadHistory" = some (.ref c1)
  g2 : mg "BadRow" = some (.ref c2)
  g3 : mg "BadSide" = some (.ref c3)
  g4 : mg "BadSteps" = some (.ref c4)
  g5 : mg "BadText" = some (.ref c5)
  xP : PySem.W.excIn K cP [.type "ValueError", .type "Exception", .type "BaseException", .type "object"] "ValueError.__new__" = true
  kP : PySem.W.keepIn K (.ref cP) = true
  bP : PySem.W.subIn K (.ref cP) (.type "BaseException") = some true
  tP : PySem.W.typeIn K (.ref cP) = some (.type "type")
  eP : PySem.W.exmOne K (.ref cP) (.ref cH) = some true
  eC : ExcC K cP
  k1 : PySem.W.kitOne K (.ref cP) (.ref cP) = some true
  k5 : PySem.W.kitAny K (.ref cP) [.ref c1, .ref c2, .ref c3, .ref c4, .ref c5] = some false
section
variable {P : Program} {w : World} {K : PySem.W.Frag} {mg : Str → Option Value} {base : Heap}
theorem scText : FnScope ["_law_program"] ["_law_program"] (defScope sText) := ⟨rfl, rfl, rfl, by decide +kernel, rfl, by decide +kernel, by decide +kernel⟩
theorem ok_text {f : Addr} {fd : FuncData} (F : Fun K "_law_text" "_law_text" sText f fd) (CL : Cal P w K mg base 6 "_law_lines" ["_law_body"] (spLL K 4)) : FnOk P w K mg base CX0 7 f fd ["_law_program"] (spText K) := by
  refine F.ok scText (fun vs H Q E h => ?_) (fun cdv A outer s H vs Q E hr h => ?_)
  · obtain ⟨v, k, d, c, rfl, _⟩ := h
    rfl
  obtain ⟨v, k, d, c, rfl, hd, ld, hk, hb, hc, q⟩ := h
  refine ⟨_, pss_one (ps_ret (pe_join pe_str (pe_op op_cat (pe_lst (pa_cons (pe_ix ix_tup (pv 0) pe_int (fun _ _ => rfl)) pa_nil)) (pe_call CL.G hr rfl CL.m CL.kp CL.b .nil pass0 (pa_cons (pe_ix ix_tup (pv 0) pe_int (fun _ _ => rfl)) pa_nil))))), ?_⟩
  obtain ⟨a, xs, rfl, hs, ha⟩ := dp_tup_inv hd
  obtain ⟨x0, x1, d0, d1, rfl, e, hx0, hx1⟩ := dp_two ha rfl
  injection e with e0 e
  injection e with e1 e
  subst e0 e1
  cases hx0
  refine ⟨⟨_, rfl⟩, _, rfl, a, _, _, _, rfl, rfl, hs, atI_nat (j := 0) rfl, (by show 1 ≤ sizeLine; decide), fun l nl => ?_⟩
  have s2 : Same H (upd H l (.lst [V.str k])) := same_new nl _
  have el : (upd H l (.lst [V.str k])) l = some (.lst [V.str k]) := upd_same
  generalize upd H l (.lst [V.str k]) = H2 at s2 el ⊢
  refine ⟨_, rfl, a, _, _, _, rfl, rfl, Same.tup s2 hs, atI_nat (j := 1) rfl, x1, d, k, c, rfl, by decide, dp_mono s2 _ _ hx1, lay_mem (lay_tup ld) _ (by simp), hb, hc, fun H3 p s3 np hp3 => ?_⟩
  obtain ⟨m1, m2⟩ := body_okT 4 _ _ hb
  refine catTwo (s3 _ _ el) hp3 (by rw [List.length_map]; show 1 + _ ≤ 1000; omega) fun H4 r s4 nr e4 => ?_
  exact ⟨_, r, k :: bodyT 4 d, rfl, rfl, .inl (SqL.of e4), text_ok hk hb hc, q _ (s2.trans (s3.trans s4))⟩
end
abbrev okS (z : Str) : Prop := PyData.strOk z = true
theorem okS_iff {z : Str} : okS z ↔ ∀ n ∈ z.cps.toList, n < 0x110000 := by
  show z.cps.all (· < 0x110000) = true ↔ _
  rw [← Array.all_toList, List.all_eq_true]
  simp
theorem okS_app {a b : Str} (ha : okS a) (hb : okS b) : okS (a ++ b) := by
  rw [okS_iff] at ha hb ⊢
  intro n m
  have m' : n ∈ (a.cps ++ b.cps).toList := m
  rw [Array.toList_append, List.mem_append] at m'
  exact m'.elim (ha n) (hb n)
theorem okS_of (s : String) : okS (Str.ofString s) := by
  rw [okS_iff, Str.ofString_eq_toList]
  intro n m
  have m' : n ∈ s.toList.map Char.toNat := by simpa using m
  obtain ⟨c, _, rfl⟩ := List.mem_map.mp m'
  rcases c.valid with h | h
  · exact Nat.lt_trans h (by decide)
  · exact h.2
theorem okS_lit (s : String) : okS (s : Str) := okS_of s
theorem okS_glue {sep : Str} (hs : okS sep) : ∀ {ys : List Str} {acc : Array Nat}, (∀ n ∈ acc.toList, n < 0x110000) → (∀ y ∈ ys, okS y) → ∀ n ∈ (List.foldl (fun acc (p : Str) => acc ++ sep.cps ++ p.cps) acc ys).toList, n < 0x110000
  | [], acc, ha, _ => ha
  | y :: r, acc, ha, hy => by
    rw [List.foldl_cons]
    refine okS_glue hs (fun n m => ?_) (fun z m => hy z (List.mem_cons_of_mem _ m))
    rw [Array.toList_append, Array.toList_append, List.mem_append, List.mem_append] at m
    rcases m with (m | m) | m
    · exact ha n m
    · exact (okS_iff.mp hs) n m
    · exact (okS_iff.mp (hy y (by simp))) n m
theorem okS_join {sep : Str} {ys : List Str} (hs : okS sep) (hy : ∀ y ∈ ys, okS y) : okS (Txt.join sep ys) := by
  rw [okS_iff]
  show ∀ n ∈ (List.foldl (fun acc (p : Str) => acc ++ sep.cps ++ p.cps) ((ys.headD Str.empty).cps) (ys.drop 1)).toList, n < 0x110000
  refine okS_glue hs (fun n m => ?_) (fun y m => hy y (List.mem_of_mem_drop m))
  cases ys with
  | nil => simp [Str.empty] at m
  | cons y r => exact (okS_iff.mp (hy y (by simp))) n m
theorem okS_empty : okS Str.empty := by decide +kernel
theorem strD_okS {d : PyData} (h : Lay d) : okS (strD d) := by
  cases d with
  | str z =>
    unfold Lay at h
    simp only [PyData.canLay0] at h
    exact h
  | int i => exact okS_of _
  | _ => exact okS_empty
theorem joinD_okS {ds : List PyData} (h : ∀ d ∈ ds, Lay d) : okS (joinD ds) := by
  refine okS_join (okS_lit " ") fun y m => ?_
  obtain ⟨d, md, rfl⟩ := List.mem_map.mp m
  exact strD_okS (h d md)
theorem plainT_okS {s : PyData} (h : Lay s) : okS (plainT s) := by
  unfold plainT
  split
  · rename_i z g t x
    have lm := lay_mem (lay_tup h)
    split
    · refine okS_join (okS_lit " ") fun y m => ?_
      simp only [List.map_cons, List.map_nil, List.mem_cons, List.not_mem_nil, or_false] at m
      rcases m with e | e | e
      · rw [e]; exact strD_okS (lm (.str z) (by simp))
      · rw [e]
        unfold askW
        split
        · exact strD_okS (lm t (by simp))
        · exact okS_app (okS_app (okS_lit "x") (strD_okS (lm (.str g) (by simp)))) (strD_okS (lm t (by simp)))
      · rw [e]; exact strD_okS (lm x (by simp))
    · exact joinD_okS lm
  · exact joinD_okS (lay_mem (lay_tup h))
  · exact okS_empty
theorem condT_okS {w : Str} {co : PyData} (hw : okS w) (h : Lay co) : okS (condT w co) := by
  unfold condT
  split
  · refine okS_join (okS_lit " ") fun y m => ?_
    obtain ⟨d, md, rfl⟩ := List.mem_map.mp m
    rcases List.mem_cons.mp md with rfl | md
    · exact hw
    · exact strD_okS (lay_mem (lay_tup h) d md)
  · exact okS_empty
theorem stT_okS {g : PyData → List Str} (hg : ∀ d, Lay d → ∀ y ∈ g d, okS y) {s : PyData} (h : Lay s) : ∀ y ∈ stT g s, okS y := by
  have one : ∀ y ∈ [plainT s], okS y := fun y m => by rw [List.mem_singleton.mp m]; exact plainT_okS h
  unfold stT
  split
  · rename_i z c b
    have lm := lay_mem (lay_tup h)
    split
    · intro y m
      simp only [List.mem_cons, List.mem_append, List.not_mem_nil, or_false] at m
      rcases m with rfl | m | rfl
      · exact condT_okS (strD_okS (lm (.str z) (by simp))) (lm c (by simp))
      · exact hg b (lm b (by simp)) y m
      · exact okS_lit "end"
    · exact one
  · rename_i z c b1 b2
    have lm := lay_mem (lay_tup h)
    split
    · intro y m
      simp only [List.mem_cons, List.mem_append, List.not_mem_nil, or_false] at m
      rcases m with rfl | (m | m) | rfl
      · exact condT_okS (strD_okS (lm (.str z) (by simp))) (lm c (by simp))
      · exact hg b1 (lm b1 (by simp)) y m
      · split at m
        · cases m
        · rcases List.mem_cons.mp m with rfl | m
          · exact okS_lit "else"
          · exact hg b2 (lm b2 (by simp)) y m
      · exact okS_lit "end"
    · exact one
  · exact one
theorem bodyT_okS : ∀ (n : Nat) (d : PyData), Lay d → ∀ y ∈ bodyT n d, okS y
  | 0, _, _ => fun y m => nomatch m
  | n + 1, .tuple ss, h => by
    intro y m
    have m' : y ∈ (ss.map (stT (bodyT n))).flatten := m
    obtain ⟨ys, my, m2⟩ := List.mem_flatten.mp m'
    obtain ⟨s, ms, rfl⟩ := List.mem_map.mp my
    exact stT_okS (bodyT_okS n) (lay_mem (lay_tup h) s ms) y m2
  | _ + 1, .none, _ => fun y m => nomatch m
  | _ + 1, .bool _, _ => fun y m => nomatch m
  | _ + 1, .int _, _ => fun y m => nomatch m
  | _ + 1, .str _, _ => fun y m => nomatch m
  | _ + 1, .list _, _ => fun y m => nomatch m
  | _ + 1, .dict _, _ => fun y m => nomatch m
theorem textT_okS {k : Str} {d : PyData} (hk : okS k) (h : Lay d) : okS (textT k d) := by
  refine okS_join (okS_lit "\n") fun y m => ?_
  rcases List.mem_cons.mp m with rfl | m
  · exact hk
  · exact bodyT_okS 4 d h y m
/-! ### data without lists, over a heap whose lists change -/
def tupH (H : Hp) : Hp := fun a => match H a with
  | some (.tup xs) => some (.tup xs)
  | some (.frz o u) => some (.frz o u)
  | _ => none
theorem tupH_same (H : Hp) : Same (tupH H) H := fun a o h => by
  unfold tupH at h
  split at h
  · rename_i e; rw [e]; exact h
  · rename_i e; rw [e]; exact h
  · cases h
def KeepT (H H' : Hp) : Prop := (∀ a xs, H a = some (.tup xs) → H' a = some (.tup xs)) ∧ ∀ a o u, H a = some (.frz o u) → H' a = some (.frz o u)
theorem KeepT.same {H H' : Hp} (k : KeepT H H') : Same (tupH H) (tupH H') := fun a o h => by
  unfold tupH at h
  split at h
  · rename_i e
    unfold tupH
    rw [k.1 _ _ e]
    exact h
  · rename_i e
    unfold tupH
    rw [k.2 _ _ _ e]
    exact h
  · cases h
theorem KeepT.trans {H H' H'' : Hp} (a : KeepT H H') (b : KeepT H' H'') : KeepT H H'' := ⟨fun x xs e => b.1 _ _ (a.1 _ _ e), fun x o u e => b.2 _ _ _ (a.2 _ _ _ e)⟩
theorem KeepT.of {H H' : Hp} (s : Same H H') : KeepT H H' := ⟨fun x xs e => s _ _ e, fun x o u e => s _ _ e⟩
theorem KeepT.fr {b : Addr} {H H' : Hp} (hb : ∃ xs, H b = some (.lst xs)) (f : Fr b H H') : KeepT H H' := by
  obtain ⟨xs, hb⟩ := hb
  exact ⟨fun x ys e => f _ _ (fun z => by rw [z, hb] at e; cases e) e, fun x o u e => f _ _ (fun z => by rw [z, hb] at e; cases e) e⟩
theorem KeepT.upd {b : Addr} {H : Hp} {o : HO} (hb : ∃ xs, H b = some (.lst xs)) : KeepT H (upd H b o) := KeepT.fr hb (Fr.upd o)
abbrev Dt (K : PySem.W.Frag) (H : Hp) (v : V) (d : PyData) : Prop := Dp K (tupH H) v d
theorem new_tup {K : PySem.W.Frag} {H : Hp} {p : Addr} {xs : List V} {ds : List PyData} (np : H p = none) (h : DpAll K (tupH H) xs ds) : Dt K (upd H p (.tup xs)) (.ref p) (.tuple ds) := by
  have e : tupH (upd H p (.tup xs)) p = some (.tup xs) := by unfold tupH; rw [upd_same]
  exact .tup (SqT.of e) (dpAll_mono (KeepT.of (same_new np _)).same _ _ h)
theorem Bag.lst {H : Hp} {b : Addr} (h : Bag H b) : ∃ xs, H b = some (.lst xs) := by
  obtain ⟨c, s, e, _⟩ := h
  exact ⟨_, e⟩
/-! ### as in Q3 and Q7, for laws without the walks -/
def Fx (S : List Addr) (H H' : Hp) : Prop := ∀ p o, p ∉ S → H p = some o → H' p = some o
theorem Fx.of {S : List Addr} {H H' : Hp} (s : Same H H') : Fx S H H' := fun p o _ e => s p o e
theorem Fx.trans {S : List Addr} {H H' H'' : Hp} (a : Fx S H H') (b : Fx S H' H'') : Fx S H H'' := fun p o n e => b p o n (a p o n e)
theorem Fx.upd {S : List Addr} {H : Hp} {p : Addr} {o : HO} (m : p ∈ S) : Fx S H (upd H p o) := fun q x n e => by
  rw [upd_ne (fun z : q = p => n (by rw [z]; exact m))]
  exact e
theorem Fx.mono {S S' : List Addr} {H H' : Hp} (h : ∀ p ∈ S, p ∈ S') (a : Fx S H H') : Fx S' H H' := fun p o n e => a p o (fun m => n (h p m)) e
/-- what was changed was new: nothing has changed for who stood before -/
theorem Fx.same {S : List Addr} {H0 H H' : Hp} (s : Same H0 H) (n : ∀ p ∈ S, H0 p = none) (a : Fx S H H') : Same H0 H' := fun p o e => a p o (fun m => by rw [n p m] at e; cases e) (s p o e)
theorem made_same {H H' : Hp} {x dx C : Addr} (nx : H x = none) (ndx : H dx = none) (f : Fx [x] (upd (upd H dx (.own x)) x (.ins C dx [])) H') : Same H H' := fun p o e => by
  have h1 : p ≠ x := ne_of_none e nx
  refine f p o (by simp; exact h1) ?_
  rw [upd_ne h1, upd_ne (ne_of_none e ndx)]
  exact e
theorem made_same0 {H : Hp} {x dx C : Addr} (nx : H x = none) (ndx : H dx = none) : Same H (upd (upd H dx (.own x)) x (.ins C dx [])) := made_same nx ndx fun p o _ e => e
/-! ### a line of a text and its parts -/
abbrev sDec : Stmt := top 29
abbrev sNW : Stmt := top 28
abbrev sAP : Stmt := top 27
abbrev sLP : Stmt := top 26
abbrev sOpn : Stmt := top 32
def isDec (z : Str) : Bool := Txt.isascii z && Txt.isdigit z && decide (z.length ≤ 31) && (decide (z = "0") || !Txt.startswith z "0")
def numW (z : Str) : PyData := if isDec z = true then .int ((intText? z).getD 0) else .str z
def numV8 (z : Str) : V := if isDec z = true then .int ((intText? z).getD 0) else .str z
theorem numV_dp {K : PySem.W.Frag} {H : Hp} (z : Str) : Dp K H (numV8 z) (numW z) := by
  unfold numV8 numW
  split
  · exact .int _
  · exact .str _
theorem digit_ascii : ∀ c, c < 128 → Unicode.isDigit c = true → 48 ≤ c ∧ c ≤ 57 := by decide +kernel
theorem dec_int {z : Str} (h : isDec z = true) : ∃ n, intText? z = some n ∧ z.length ≤ 640 := by
  unfold isDec at h
  rw [Bool.and_eq_true, Bool.and_eq_true, Bool.and_eq_true] at h
  obtain ⟨⟨⟨h1, h2⟩, h3⟩, _⟩ := h
  have h3' := of_decide_eq_true h3
  unfold Txt.isascii at h1
  unfold Txt.isdigit at h2
  rw [Bool.and_eq_true] at h2
  obtain ⟨h4, h5⟩ := h2
  have h4' := of_decide_eq_true h4
  rw [Array.all_eq_true_iff_forall_mem] at h1 h5
  refine ⟨_, intText_digits (x := z) (fun c hc => ?_) (fun e => ?_) (by omega), by omega⟩
  · have hc' : c ∈ z.cps := Array.mem_toList_iff.mp hc
    exact digit_ascii c (of_decide_eq_true (h1 c hc')) (h5 c hc')
  · have : z.cps.toList.length = 0 := by rw [e]; rfl
    rw [Array.length_toList] at this
    have h6 : z.length = z.cps.size := rfl
    omega
/-- the sign behind x and what is written behind it -/
def askP (ws : List Str) : PyData := match ws with
  | [_, p, x] => if Txt.startswith p "x+" = true ∨ Txt.startswith p "x-" = true then .tuple [.str "ask", .str ⟨#[(p.cps.toList[1]?).getD 0]⟩, numW (cutS p (some 2) none), .str x] else .tuple [.str "ask", .str "=", numW p, .str x]
  | _ => .tuple []
def lineP (w : Str) (ws : List Str) : PyData :=
  if w = "ask" then askP (w :: ws) else if w = "if" ∨ w = "while" then .tuple [.str w, .tuple (ws.map numW)] else .tuple (.str w :: ws.map numW)
def spDec (K : PySem.W.Frag) : Sp := fun vs H Q _ => ∃ (z : Str), vs = [.str z, .int 31] ∧ z.length ≤ sizeLine ∧ Q (.bl (isDec z)) H
def spNW (K : PySem.W.Frag) : Sp := fun vs H Q _ => ∃ (z : Str), vs = [.str z] ∧ z.length ≤ sizeLine ∧ Q (numV8 z) H
def spAP (K : PySem.W.Frag) : Sp := fun vs H Q _ => ∃ (a : Addr) (ws : List Str), vs = [.ref a] ∧ H a = some (.lst (ws.map V.str)) ∧ (∀ u ∈ ws, u.length ≤ sizeLine) ∧ ∀ H' p, Same H H' → H p = none → Dt K H' (.ref p) (askP ws) → Q (.ref p) H'
def spLP (K : PySem.W.Frag) : Sp := fun vs H Q _ => ∃ (z w : Str) (ws : List Str), vs = [.str z] ∧ z.length + 2 ≤ sizeLine ∧ Txt.split z " " = w :: ws ∧ (∀ u ∈ w :: ws, u.length ≤ sizeLine) ∧ ws.length ≤ 10000 ∧ ∀ H' p, Same H H' → H p = none → Dt K H' (.ref p) (lineP w ws) → Q (.ref p) H'
/-- a line that opens an if or a while -/
def isOpen (d : PyData) : Bool := match d with
  | .tuple [.str w, c] => decide (w = "if" ∨ w = "while") && isCond c
  | _ => false
def spOpn (K : PySem.W.Frag) : Sp := fun vs H Q _ => ∃ (v : V) (ds : List PyData), vs = [v] ∧ Dp K H v (.tuple ds) ∧ Lay (.tuple ds) ∧ (ds ≠ [] → ∃ w r, ds = .str w :: r) ∧ Q (.bl (isOpen (.tuple ds))) H
section
variable {P : Program} {w : World} {K : PySem.W.Frag} {mg : Str → Option Value} {base : Heap}
theorem scDec : FnScope ["word", "most"] ["word", "most"] (defScope sDec) := ⟨rfl, rfl, rfl, by decide +kernel, rfl, by decide +kernel, by decide +kernel⟩
theorem ok_Dec {f : Addr} {fd : FuncData} (F : Fun K "is_decimal" "is_decimal" sDec f fd) (T : Gs K mg) : FnOk P w K mg base CX0 1 f fd ["word", "most"] (spDec K) := by
  refine F.ok scDec (fun vs H Q E h => ?_) (fun cdv A outer s H vs Q E hr h => ?_)
  · obtain ⟨z, rfl, _⟩ := h
    rfl
  obtain ⟨z, rfl, hz, q⟩ := h
  refine ⟨_, (pss_cons (ps_if (PW.pt (pw_or (pt_not (pt_val (pe_m0 PySem.F.slot_str_isascii PySem.F.type_str_isascii mt_isascii (pv 0)))) (pw_or (pt_not (pt_val (pe_m0 PySem.F.slot_str_isdigit PySem.F.type_str_isdigit mt_isdigit (pv 0)))) (pw_or1 (pt_cmpR op_gt (pe_callB call_len_str (by rfl) T.len PySem.boot_len (pa_cons (pv 0) pa_nil)) (pv 1) (nomark _))))))
    (pss_one (ps_ret pe_bl))
    pss_nil)
  (pss_one (ps_ret (pe_or (pe_cmpR op_eq (pv 0) pe_str (nomark _)) (pe_one (pe_not (pe_m1 PySem.F.slot_str_startswith PySem.F.type_str_startswith mt_startswith (pv 0) pe_str))))))), ?_⟩
  refine ⟨_, rfl, ⟨z, rfl⟩, z, rfl, rfl, trivial, _, rfl, ?_⟩
  cases h1 : Txt.isascii z with
  | false =>
    have : isDec z = false := by unfold isDec; rw [h1]; rfl
    rw [this] at q
    exact iteT q
  | true =>
    refine iteF ⟨_, rfl, ⟨z, rfl⟩, z, rfl, rfl, trivial, _, rfl, ?_⟩
    cases h2 : Txt.isdigit z with
    | false =>
      have : isDec z = false := by unfold isDec; rw [h1, h2]; rfl
      rw [this] at q
      exact iteT q
    | true =>
      refine iteF ⟨_, rfl, z, rfl, hz, _, rfl, _, _, rfl, rfl, _, rfl, ?_⟩
      by_cases c : 31 < z.length
      · have : isDec z = false := by unfold isDec; rw [h1, h2, decide_eq_false (show ¬ z.length ≤ 31 by omega)]; rfl
        rw [this] at q
        refine ite2 (fun _ => q) (fun n => absurd (decide_eq_true (show (31 : Int) < (z.length : Nat) by omega)) n)
      · refine ite2 (fun n => absurd (of_decide_eq_true n) (by omega)) (fun _ => ?_)
        refine ⟨_, rfl, rfl, _, rfl, ?_⟩
        by_cases c0 : z = "0"
        · have : isDec z = true := by unfold isDec; rw [h1, h2, decide_eq_true (show z.length ≤ 31 by omega), decide_eq_true c0]; rfl
          rw [this] at q
          exact ite2 (fun _ => q) (fun n => absurd (decide_eq_true (by rw [c0])) n)
        · have : isDec z = !Txt.startswith z "0" := by unfold isDec; rw [h1, h2, decide_eq_true (show z.length ≤ 31 by omega), decide_eq_false c0]; rfl
          rw [this] at q
          exact ite2 (fun n => absurd (of_decide_eq_true n) (fun e => c0 (by injection e))) (fun _ => ⟨_, rfl, ⟨z, rfl⟩, z, _, rfl, rfl, _, rfl, q⟩)
theorem scNW : FnScope ["word"] ["word"] (defScope sNW) := ⟨rfl, rfl, rfl, by decide +kernel, rfl, by decide +kernel, by decide +kernel⟩
theorem len_longest : (Str.ofString (toString longest)).length = 31 := by decide +kernel
theorem ok_NW {f : Addr} {fd : FuncData} (F : Fun K "number_or_word" "number_or_word" sNW f fd) (T : Gs K mg) (CD : Cal P w K mg base 1 "is_decimal" ["word", "most"] (spDec K)) : FnOk P w K mg base CX0 2 f fd ["word"] (spNW K) := by
  refine F.ok scNW (fun vs H Q E h => ?_) (fun cdv A outer s H vs Q E hr h => ?_)
  · obtain ⟨z, rfl, _⟩ := h
    rfl
  obtain ⟨z, rfl, hz, q⟩ := h
  refine ⟨_, (pss_one (ps_ret (pe_ifExp (pt_val (pe_call CD.G hr rfl CD.m CD.kp CD.b .nil pass0 (pa_cons (pv 0) (pa_cons (pe_callB call_len_str (by rfl) T.len PySem.boot_len (pa_cons (pe_callTy call_strW (by rfl) T.str (by decide +kernel) (pa_cons (pe_gint rfl T.mL) pa_nil)) pa_nil)) pa_nil)))) (pe_callTy call_int_str (by rfl) T.int (by decide +kernel) (pa_cons (pv 0) pa_nil)) (pv 0)))), ?_⟩
  refine ⟨_, rfl, .inr ⟨longest, rfl, wait_log (by decide +kernel) (Int.le_refl _), _, rfl, (by rw [len_longest]; decide), z, (by rw [len_longest]; rfl), hz, _, rfl, ?_⟩⟩
  cases hd : isDec z with
  | true =>
    obtain ⟨n, hn, hl⟩ := dec_int hd
    have e : numV8 z = .int n := by unfold numV8; rw [if_pos hd, hn]; rfl
    rw [e] at q
    exact iteT ⟨_, rfl, z, n, rfl, hn, hl, q⟩
  | false =>
    have e : numV8 z = .str z := by unfold numV8; rw [if_neg (by rw [hd]; decide)]
    rw [e] at q
    exact iteF ⟨_, rfl, q⟩
theorem sw_len {p y : Str} (h : Txt.startswith p y = true) : y.length ≤ p.length := by
  unfold Txt.startswith at h
  rw [Bool.and_eq_true] at h
  have := of_decide_eq_true h.1
  omega
theorem scAP : FnScope ["words", "position", "variable"] ["words"] (defScope sAP) := ⟨rfl, rfl, rfl, by decide +kernel, rfl, by decide +kernel, by decide +kernel⟩
theorem ok_AP {f : Addr} {fd : FuncData} (F : Fun K "ask_parts" "ask_parts" sAP f fd) (T : Gs K mg) (CN : Cal P w K mg base 2 "number_or_word" ["word"] (spNW K)) : FnOk P w K mg base CX0 3 f fd ["words"] (spAP K) := by
  refine F.ok scAP (fun vs H Q E h => ?_) (fun cdv A outer s H vs Q E hr h => ?_)
  · obtain ⟨a, ws, rfl, _⟩ := h
    rfl
  obtain ⟨a, ws, rfl, ha, hz, q⟩ := h
  refine ⟨_, (pss_cons (ps_if (pt_cmpR op_ne (pe_callB call_len_seq (by rfl) T.len PySem.boot_len (pa_cons (pv 0) pa_nil)) pe_int (nomark _))
    (pss_one (ps_ret (pe_tup pa_nil)))
    pss_nil)
  (pss_cons (ps_par (i := 1) (j := 2) rfl scAP.nd rfl rfl (by decide) rfl rfl (pa_cons (pe_ix ix_list (pv 0) pe_int (fun _ _ => rfl)) (pa_cons (pe_ix ix_list (pv 0) pe_int (fun _ _ => rfl)) pa_nil)) (by rfl))
  (pss_cons (ps_if (PW.pt (pw_or (pt_val (pe_m1 PySem.F.slot_str_startswith PySem.F.type_str_startswith mt_startswith (pv 1) pe_str)) (pw_or1 (pt_val (pe_m1 PySem.F.slot_str_startswith PySem.F.type_str_startswith mt_startswith (pv 1) pe_str)))))
    (pss_one (ps_ret (pe_tup (pa_cons pe_str (pa_cons (pe_ix ix_str (pv 1) pe_int (fun _ _ => rfl)) (pa_cons (pe_call CN.G hr rfl CN.m CN.kp CN.b .nil pass0 (pa_cons (pe_slice sl_str (pv 1) (po_some pe_int) po_none) pa_nil)) (pa_cons (pv 2) pa_nil)))))))
    pss_nil)
  (pss_one (ps_ret (pe_tup (pa_cons pe_str (pa_cons pe_str (pa_cons (pe_call CN.G hr rfl CN.m CN.kp CN.b .nil pass0 (pa_cons (pv 1) pa_nil)) (pa_cons (pv 2) pa_nil)))))))))), ?_⟩
  refine ⟨_, rfl, a, _, rfl, .inl (SqL.of ha), rfl, _, rfl, ?_⟩
  by_cases c : ws.length = 3
  · refine ite2 (fun n => absurd n (by rw [List.length_map, c]; decide)) (fun _ => ?_)
    match ws, c, ha, hz, q with
    | [u, p, x], _, ha, hz, q =>
    refine ⟨_, rfl, a, _, _, _, rfl, rfl, SqL.of ha, atI_nat (j := 1) rfl, _, rfl, a, _, _, _, rfl, rfl, SqL.of ha, atI_nat (j := 2) rfl, _, _, rfl, ?_⟩
    dsimp only [List.set_cons_succ, List.set_cons_zero]
    have hp : p.length ≤ sizeLine := hz p (by simp)
    by_cases cs : Txt.startswith p "x+" = true ∨ Txt.startswith p "x-" = true
    · have e : askP [u, p, x] = .tuple [.str "ask", .str ⟨#[(p.cps.toList[1]?).getD 0]⟩, numW (cutS p (some 2) none), .str x] := by show (if _ then _ else _) = _; exact if_pos cs
      rw [e] at q
      have h2 : 2 ≤ p.length := by
        rcases cs with h | h
        · exact sw_len h
        · exact sw_len h
      obtain ⟨ch, hch⟩ : ∃ ch, p.cps.toList[1]? = some ch := by
        have : 1 < p.cps.toList.length := by rw [Array.length_toList]; exact h2
        exact ⟨_, List.getElem?_eq_getElem this⟩
      rw [hch] at q
      refine ⟨_, rfl, ⟨p, rfl⟩, p, _, rfl, rfl, _, rfl, ?_⟩
      cases h1 : Txt.startswith p "x+" with
      | true =>
        refine iteT ⟨_, rfl, p, _, ch, rfl, rfl, hp, atI_nat (j := 1) hch, _, rfl, _, rfl, p, rfl, hp, cutS p (some 2) none, rfl, Nat.le_trans (cutS_length _ _ _) hp, _, rfl, (by show 4 ≤ sizeLine; decide), fun t nt => ?_⟩
        exact q _ t (same_new nt _) nt (new_tup nt (.cons (.str _) (.cons (.str _) (.cons (numV_dp _) (.cons (.str _) .nil)))))
      | false =>
        have h2' : Txt.startswith p "x-" = true := by rcases cs with h | h; · rw [h1] at h; cases h
                                                      · exact h
        refine iteF ⟨_, rfl, ⟨p, rfl⟩, p, _, rfl, rfl, _, rfl, ?_⟩
        rw [h2']
        refine iteT ⟨_, rfl, p, _, ch, rfl, rfl, hp, atI_nat (j := 1) hch, _, rfl, _, rfl, p, rfl, hp, cutS p (some 2) none, rfl, Nat.le_trans (cutS_length _ _ _) hp, _, rfl, (by show 4 ≤ sizeLine; decide), fun t nt => ?_⟩
        exact q _ t (same_new nt _) nt (new_tup nt (.cons (.str _) (.cons (.str _) (.cons (numV_dp _) (.cons (.str _) .nil)))))
    · have e : askP [u, p, x] = .tuple [.str "ask", .str "=", numW p, .str x] := by show (if _ then _ else _) = _; exact if_neg cs
      rw [e] at q
      have c1 : Txt.startswith p "x+" = false := by cases h : Txt.startswith p "x+" with | false => rfl | true => exact absurd (.inl h) cs
      have c2 : Txt.startswith p "x-" = false := by cases h : Txt.startswith p "x-" with | false => rfl | true => exact absurd (.inr h) cs
      refine ⟨_, rfl, ⟨p, rfl⟩, p, _, rfl, rfl, _, rfl, ?_⟩
      rw [c1]
      refine iteF ⟨_, rfl, ⟨p, rfl⟩, p, _, rfl, rfl, _, rfl, ?_⟩
      rw [c2]
      refine iteF ⟨_, rfl, p, rfl, hp, _, rfl, (by show 4 ≤ sizeLine; decide), fun t nt => ?_⟩
      exact q _ t (same_new nt _) nt (new_tup nt (.cons (.str _) (.cons (.str _) (.cons (numV_dp p) (.cons (.str _) .nil)))))
  · refine ite2 (fun _ => ?_) (fun n => absurd (by rw [List.length_map]; show (!decide (V.int ((ws.length : Nat) : Int) = V.int 3)) = true; rw [decide_eq_false (fun e => c (by injection e with e; omega))]; rfl) n)
    have e : askP ws = .tuple [] := by
      unfold askP
      split
      · exact absurd rfl c
      · rfl
    rw [e] at q
    exact ⟨(by show 0 ≤ sizeLine; decide), fun t nt => q _ t (same_new nt _) nt (new_tup nt .nil)⟩
theorem getB (w : Str) : (getT [("if", V.int 2), ("while", V.int 1)] (some w)).isSome = decide (w = "if" ∨ w = "while") := by
  by_cases h1 : w = "if"
  · subst h1; decide +kernel
  · by_cases h2 : w = "while"
    · subst h2; decide +kernel
    · rw [decide_eq_false (by rintro (h | h) <;> contradiction)]
      show (lookT [("if", V.int 2), ("while", V.int 1)] w).isSome = false
      unfold lookT
      have e1 : (("if" : Str) == w) = false := beq_false_of_ne (fun e => h1 e.symm)
      have e2 : (("while" : Str) == w) = false := beq_false_of_ne (fun e => h2 e.symm)
      rw [List.find?_cons_of_neg (by rw [e1]; decide), List.find?_cons_of_neg (by rw [e2]; decide)]
      rfl
abbrev nsLP : List Str := ["line", "words", "parts", "word"]
theorem scLP : FnScope nsLP ["line"] (defScope sLP) := ⟨rfl, rfl, rfl, by decide +kernel, rfl, by decide +kernel, by decide +kernel⟩
theorem numsV {K : PySem.W.Frag} {H : Hp} : ∀ ws : List Str, DpAll K H (ws.map numV8) (ws.map numW)
  | [] => .nil
  | z :: r => .cons (numV_dp z) (numsV r)
theorem ok_LP {f : Addr} {fd : FuncData} (F : Fun K "line_parts" "line_parts" sLP f fd) (T : Gs K mg) (D : Gd K w mg) (CN : Cal P w K mg base 2 "number_or_word" ["word"] (spNW K)) (CA : Cal P w K mg base 3 "ask_parts" ["words"] (spAP K)) : FnOk P w K mg base CX0 4 f fd ["line"] (spLP K) := by
  refine F.ok scLP (fun vs H Q E h => ?_) (fun cdv A outer s H vs Q E hr h => ?_)
  · obtain ⟨z, w', ws, rfl, _⟩ := h
    rfl
  obtain ⟨z, wd, ws, rfl, hz, hsp, hwl, hws, q⟩ := h
  have hr2 : Room 2 _ := hr.mono (by decide)
  refine ⟨_, (pss_cons (ps_set (i := 1) scLP.nd rfl (.inl rfl) (pe_m1 PySem.F.slot_str_split PySem.F.type_str_split mt_split (pv 0) pe_str))
  (pss_cons (ps_if (pt_cmpR op_eq (pe_ix ix_list (pv 1) pe_int (fun _ _ => rfl)) pe_str (nomark _))
    (pss_one (ps_ret (pe_call CA.G hr rfl CA.m CA.kp CA.b .nil pass0 (pa_cons (pv 1) pa_nil))))
    pss_nil)
  (pss_cons (ps_setLc (i := 2) (own := [("word", 3)]) (g := gName 3) (tt := tYes) rfl scLP.nd rfl rfl (sw_true rfl rfl rfl (by decide +kernel)) (pi_list (pe_slice sl_list (pv 1) (po_some pe_int) po_none)) (blkOk_by (N := nsLP) (sc := defScope sLP) (by decide +kernel)) (fun _ _ _ _ _ => pg_name (i := 3) scLP.nd rfl (.inl rfl)) (fun _ _ _ _ _ => pts_nil) (fun _ _ _ _ _ => pe_call CN.G hr2 rfl CN.m CN.kp CN.b .nil pass0 (pa_cons (pv 3) pa_nil)))
  (pss_cons (ps_if (pt_cmpR op_inK (pe_ix ix_list (pv 1) pe_int (fun _ _ => rfl)) (pe_gref rfl D.mB) (by rfl))
    (pss_one (ps_ret (pe_tup (pa_cons (pe_ix ix_list (pv 1) pe_int (fun _ _ => rfl)) (pa_cons (pe_callTy call_tuple_of (by rfl) T.tup (by decide +kernel) (pa_cons (pv 2) pa_nil)) pa_nil)))))
    pss_nil)
  (pss_one (ps_ret (pe_tup (pa_cons (pe_ix ix_list (pv 1) pe_int (fun _ _ => rfl)) (StX.pa_star (pv 2) pa_nil))))))))), ?_⟩
  refine ⟨_, rfl, ⟨z, rfl⟩, z, _, rfl, rfl, (by decide +kernel), hz, fun a na => ?_⟩
  rw [hsp]
  have u1 := same_new na (.lst ((wd :: ws).map V.str))
  have e1 : (upd H a (.lst ((wd :: ws).map V.str))) a = some (.lst ((wd :: ws).map V.str)) := upd_same
  generalize upd H a (.lst ((wd :: ws).map V.str)) = H1 at u1 e1 ⊢
  dsimp only [List.set_cons_succ, List.set_cons_zero]
  refine ⟨_, rfl, a, _, _, _, rfl, rfl, SqL.of e1, atI_nat (j := 0) rfl, rfl, _, rfl, ?_⟩
  by_cases ca : wd = "ask"
  · refine ite2 (fun _ => ?_) (fun n => absurd (decide_eq_true (by rw [ca])) n)
    refine ⟨_, rfl, a, wd :: ws, rfl, e1, hwl, fun H' p s' np hd => q H' p (u1.trans s') (u1.free np) ?_⟩
    unfold lineP
    rw [if_pos ca]
    exact hd
  refine ite2 (fun n => absurd (of_decide_eq_true n) (fun e => ca (by injection e))) (fun _ => ?_)
  refine ⟨_, rfl, _, rfl, a, _, rfl, SqL.of e1, fun b nb => ?_⟩
  rw [show cutV ((wd :: ws).map V.str) (some 1) none = ws.map V.str from cut_hi _ 1]
  have u2 := same_new nb (.lst (ws.map V.str))
  have e2 : (upd H1 b (.lst (ws.map V.str))) b = some (.lst (ws.map V.str)) := upd_same
  generalize upd H1 b (.lst (ws.map V.str)) = H2 at u2 e2 ⊢
  refine ⟨b, rfl, ⟨_, SqL.of e2⟩, fun G nG => lc_list (K := K) (a := b) (xs := ws.map V.str) (fun i H' => Same H2 H' ∧ H' G = some (.lst ((ws.take i).map numV8))) ⟨same_new nG _, upd_same⟩ (fun i H' _ ⟨s1, _⟩ => SqL.of (s1 _ _ e2)) ?_ ?_⟩
  · rintro i y H3 hy ⟨s1, eG⟩
    rw [List.getElem?_map] at hy
    cases hu : ws[i]? with
    | none => rw [hu] at hy; cases hy
    | some u =>
    rw [hu] at hy
    cases hy
    have hi : i < ws.length := (List.getElem?_eq_some_iff.mp hu).1
    refine ⟨rfl, ?_⟩
    dsimp only [tYes]
    rw [if_pos rfl]
    refine ⟨_, rfl, u, rfl, hwl u (List.mem_cons_of_mem _ (List.mem_of_getElem? hu)), (ws.take i).map numV8, eG, ?_, ?_⟩
    · rw [List.length_map, List.length_take]; exact Nat.lt_of_le_of_lt (by omega : _ ≤ 10000) (by decide)
    · refine ⟨same_upd s1 nG _, ?_⟩
      rw [upd_same, take_snoc hu, List.map_append]
      rfl
  rintro H3 ⟨s1, eG⟩
  rw [List.length_map, List.take_length] at eG
  have u3 := u2.trans s1
  have e3 := u3 _ _ e1
  dsimp only [List.set_cons_succ, List.set_cons_zero]
  refine ⟨_, rfl, a, _, _, _, rfl, rfl, SqL.of e3, atI_nat (j := 0) rfl, D.aB, _, some wd, rfl, D.tB, rfl, _, rfl, ?_⟩
  rw [if_neg (show ¬ (false = true) by decide), getB]
  by_cases cb : wd = "if" ∨ wd = "while"
  · refine ite2 (fun _ => ?_) (fun n => absurd (decide_eq_true cb) n)
    refine ⟨_, rfl, a, _, _, _, rfl, rfl, SqL.of e3, atI_nat (j := 0) rfl, _, rfl, G, _, rfl, .inl ⟨SqL.of eG, fun l nl => ?_⟩⟩
    have u4 := same_new nl (.tup (ws.map numV8))
    have d4 : Dt K (upd H3 l (.tup (ws.map numV8))) (.ref l) (.tuple (ws.map numW)) := new_tup nl (numsV ws)
    generalize upd H3 l (.tup (ws.map numV8)) = H4 at u4 d4 ⊢
    refine ⟨(by show 2 ≤ sizeLine; decide), fun t nt => ?_⟩
    have sA := u1.trans (u3.trans u4)
    refine q _ t (sA.trans (same_new nt _)) (sA.free nt) ?_
    unfold lineP
    rw [if_neg ca, if_pos cb]
    exact new_tup nt (.cons (.str _) (.cons d4 .nil))
  · refine ite2 (fun n => absurd (of_decide_eq_true n) cb) (fun _ => ?_)
    refine ⟨_, rfl, a, _, _, _, rfl, rfl, SqL.of e3, atI_nat (j := 0) rfl, _, rfl, G, _, rfl, .inr (SqL.of eG), ?_, fun t nt => ?_⟩
    · rw [List.append_nil, List.length_cons, List.length_map]
      exact Nat.le_trans (by omega : _ ≤ 10001) (by decide)
    · have sA := u1.trans u3
      refine q _ t (sA.trans (same_new nt _)) (sA.free nt) ?_
      unfold lineP
      rw [if_neg ca, if_neg cb]
      refine new_tup nt (.cons (.str _) ?_)
      rw [List.append_nil]
      exact numsV ws
theorem scOpn : FnScope ["parts"] ["parts"] (defScope sOpn) := ⟨rfl, rfl, rfl, by decide +kernel, rfl, by decide +kernel, by decide +kernel⟩
theorem ok_Opn {f : Addr} {fd : FuncData} (F : Fun K "is_opening" "is_opening" sOpn f fd) (T : Gs K mg) (D : Gd K w mg) (CC : Cal P w K mg base 4 "is_condition" ["thing"] (sp1 isCond K)) : FnOk P w K mg base CX0 5 f fd ["parts"] (spOpn K) := by
  refine F.ok scOpn (fun vs H Q E h => ?_) (fun cdv A outer s H vs Q E hr h => ?_)
  · obtain ⟨v, ds, rfl, _⟩ := h
    rfl
  obtain ⟨v, ds, rfl, hd, hl, hw, q⟩ := h
  refine ⟨_, (pss_one (ps_ret (pe_and (pe_cmpR op_eq (pe_callB call_len_seq (by rfl) T.len PySem.boot_len (pa_cons (pv 0) pa_nil)) pe_int (nomark _)) (pe_and (pe_cmpR op_inK (pe_ix ix_tup (pv 0) pe_int (fun _ _ => rfl)) (pe_gref rfl D.mB) (by rfl)) (pe_one (pe_call CC.G hr rfl CC.m CC.kp CC.b .nil pass0 (pa_cons (pe_ix ix_tup (pv 0) pe_int (fun _ _ => rfl)) pa_nil))))))), ?_⟩
  obtain ⟨a, xs, rfl, hs, ha⟩ := dp_tup_inv hd
  have hxl := dpAll_len ha
  refine ⟨_, rfl, a, _, rfl, .inr hs, rfl, _, rfl, ?_⟩
  by_cases c : ds.length = 2
  · refine ite2 (fun _ => ?_) (fun n => absurd (decide_eq_true (by rw [hxl, c]; rfl)) n)
    match ds, c, hw, ha, hl, q with
    | [d1, d2], _, hw, ha, hl, q =>
    obtain ⟨wd, r, e⟩ := hw (by simp)
    cases e
    obtain ⟨x1, x2, rfl, h1, h2⟩ : ∃ x1 x2, xs = [x1, x2] ∧ Dp K H x1 (.str wd) ∧ Dp K H x2 d2 := by
      cases ha with
      | cons h1 t =>
        cases t with
        | cons h2 t => cases t; exact ⟨_, _, rfl, h1, h2⟩
    cases h1
    refine ⟨_, rfl, a, _, _, _, rfl, rfl, hs, atI_nat (j := 0) rfl, D.aB, _, some wd, rfl, D.tB, rfl, _, rfl, ?_⟩
    rw [if_neg (show ¬ (false = true) by decide), getB]
    have eO : isOpen (.tuple [.str wd, d2]) = (decide (wd = "if" ∨ wd = "while") && isCond d2) := rfl
    rw [eO] at q
    by_cases cb : wd = "if" ∨ wd = "while"
    · refine ite2 (fun _ => ?_) (fun n => absurd (decide_eq_true cb) n)
      rw [decide_eq_true cb, Bool.true_and] at q
      exact ⟨_, rfl, a, _, _, _, rfl, rfl, hs, atI_nat (j := 1) rfl, _, d2, rfl, h2, lay_mem (lay_tup hl) _ (by simp), q⟩
    · refine ite2 (fun n => absurd (of_decide_eq_true n) cb) (fun _ => ?_)
      rw [decide_eq_false cb, Bool.false_and] at q
      exact q
  · refine ite2 (fun n => absurd (of_decide_eq_true n) (fun e => c (by rw [hxl] at e; injection e with e; omega))) (fun _ => ?_)
    have eO : isOpen (.tuple ds) = false := by
      unfold isOpen
      split
      · rename_i h; injection h with h; subst h; exact absurd rfl c
      · rfl
    rw [eO] at q
    exact q
end
end My

namespace My
open PySem L2 TL
/-! ### what is written is read: numbers and words -/
def goodW (d : PyData) : Prop := numW (strD d) = d ∧ 32 ∉ tl (strD d) ∧ 10 ∉ tl (strD d) ∧ (strD d).length ≤ 60 ∧ (∀ g : Nat, Txt.startswith (strD d) ⟨#[120, g]⟩ = false)
theorem sw_iff (x : Str) (c : Nat) : Txt.startswith x ⟨#[c]⟩ = true ↔ (tl x)[0]? = some c := by
  unfold Txt.startswith
  rw [Bool.and_eq_true, decide_eq_true_iff]
  exact PySem.StrLaws.subAt_one x c 0
theorem sw2_head {x : Str} {g : Nat} (h : Txt.startswith x ⟨#[120, g]⟩ = true) : (tl x)[0]? = some 120 := by
  unfold Txt.startswith at h
  rw [Bool.and_eq_true] at h
  have h2 := h.2
  rw [PySem.StrLaws.subAt_eq] at h2
  have e : ((tl x).drop 0).take 2 = [120, g] := eq_of_beq h2
  rw [List.drop_zero] at e
  have : ((tl x).take 2)[0]? = some 120 := by rw [e]; rfl
  rw [List.getElem?_take] at this
  simpa using this
theorem numL_head : ∀ n : Nat, 1 ≤ n → ∃ c r, numL n = c :: r ∧ 49 ≤ c ∧ c ≤ 57 := by
  intro n
  induction n using Nat.strongRecOn with
  | _ n ih =>
    intro h
    by_cases c : n < 10
    · exact ⟨48 + n, [], numL_lt c, by omega, by omega⟩
    · obtain ⟨d, r, e, h1, h2⟩ := ih (n / 10) (by omega) (by omega)
      exact ⟨d, r ++ [48 + n % 10], by rw [numL_step (by omega), e]; rfl, h1, h2⟩
theorem digits_ok : ∀ c, 48 ≤ c → c ≤ 57 → Unicode.isDigit c = true := by
  intro c h1 h2
  have : ∀ c, c < 58 → 48 ≤ c → Unicode.isDigit c = true := by decide +kernel
  exact this c (by omega) h1
theorem longest_31 : longest < 10 ^ 31 := by decide +kernel
theorem good_int {i : Int} (h0 : 0 ≤ i) (h1 : i ≤ longest) : goodW (.int i) := by
  obtain ⟨n, rfl⟩ : ∃ n : Nat, i = n := ⟨i.toNat, by omega⟩
  have hn : n < 10 ^ 31 := by
    have := longest_31
    have h : ((n : Nat) : Int) < 10 ^ 31 := by omega
    exact_mod_cast h
  have hl : (numL n).length ≤ 31 := numL_len (by decide) hn
  have ht : tl (Str.ofString (toString ((n : Nat) : Int))) = numL n := tl_num n
  have es : strD (.int (n : Nat)) = Str.ofString (toString ((n : Nat) : Int)) := rfl
  have hlen : (Str.ofString (toString ((n : Nat) : Int))).length = (numL n).length := by rw [len_tl, ht]
  have hne := numL_ne n
  have hdec : isDec (Str.ofString (toString ((n : Nat) : Int))) = true := by
    unfold isDec
    have a1 : Txt.isascii (Str.ofString (toString ((n : Nat) : Int))) = true := by
      unfold Txt.isascii
      rw [← Array.all_toList, show (Str.ofString (toString ((n : Nat) : Int))).cps.toList = numL n from ht, List.all_eq_true]
      intro c hc
      have := numL_digits n c hc
      exact decide_eq_true (by omega)
    have a2 : Txt.isdigit (Str.ofString (toString ((n : Nat) : Int))) = true := by
      unfold Txt.isdigit
      rw [Bool.and_eq_true]
      refine ⟨decide_eq_true ?_, ?_⟩
      · rw [hlen]; exact List.length_pos_iff.mpr hne
      · rw [← Array.all_toList, show (Str.ofString (toString ((n : Nat) : Int))).cps.toList = numL n from ht, List.all_eq_true]
        intro c hc
        have := numL_digits n c hc
        exact digits_ok c this.1 this.2
    rw [a1, a2, decide_eq_true (by rw [hlen]; exact hl)]
    by_cases c0 : n = 0
    · subst c0
      decide +kernel
    · have : Txt.startswith (Str.ofString (toString ((n : Nat) : Int))) "0" = false := by
        cases hs : Txt.startswith (Str.ofString (toString ((n : Nat) : Int))) "0" with
        | false => rfl
        | true =>
          have h2 := (sw_iff _ 48).mp hs
          obtain ⟨c, r, e, h3, h4⟩ := numL_head n (by omega)
          rw [ht, e] at h2
          have : c = 48 := by injection h2
          omega
      rw [this]
      simp
  refine ⟨?_, ?_, ?_, ?_, ?_⟩
  · rw [es]
    unfold numW
    rw [if_pos hdec, int_num (by omega)]
    rfl
  · rw [es, ht]; exact numL_free (.inl (by decide))
  · rw [es, ht]; exact numL_free (.inl (by decide))
  · rw [es, hlen]; omega
  · intro g
    cases hs : Txt.startswith (strD (.int (n : Nat))) ⟨#[120, g]⟩ with
    | false => rfl
    | true =>
      have h2 := sw2_head hs
      rw [es, ht] at h2
      have hm : 120 ∈ numL n := List.mem_of_getElem? h2
      exact absurd hm (numL_free (.inr (by decide)))
theorem good_str {z : Str} (h : z ∈ (["a", "b", "==", "!=", "<", "+", "-", "="] : List Str)) : goodW (.str z) := by
  have h2 : ∀ z ∈ (["a", "b", "==", "!=", "<", "+", "-", "="] : List Str), isDec z = false ∧ 32 ∉ tl z ∧ 10 ∉ tl z ∧ z.length ≤ 60 ∧ (tl z)[0]? ≠ some 120 := by decide +kernel
  obtain ⟨a1, a2, a3, a4, a5⟩ := h2 z h
  refine ⟨?_, a2, a3, a4, fun g => ?_⟩
  · show numW z = .str z
    unfold numW
    rw [if_neg (by rw [a1]; decide)]
  · cases hs : Txt.startswith z ⟨#[120, g]⟩ with
    | false => exact hs
    | true => exact absurd (sw2_head hs) a5
theorem inS_good {d : PyData} {zs : List Str} (h : inS d zs = true) (hz : ∀ z ∈ zs, z ∈ (["a", "b", "==", "!=", "<", "+", "-", "="] : List Str)) : goodW d := by
  cases d with
  | str z =>
    have h' : zs.any (· == z) = true := h
    obtain ⟨y, m, e⟩ := List.any_eq_true.mp h'
    have e' : y = z := by simpa using e
    exact good_str (hz z (e' ▸ m))
  | _ => cases h
theorem intIn_good {d : PyData} {lo hi : Int} (h : intIn d lo hi = true) (h0 : 0 ≤ lo) (h1 : hi ≤ longest) : goodW d := by
  cases d with
  | int i =>
    have h' : (decide (lo ≤ i) && decide (i ≤ hi)) = true := h
    rw [Bool.and_eq_true, decide_eq_true_iff, decide_eq_true_iff] at h'
    exact good_int (by omega) (by omega)
  | _ => cases h
theorem term_good {d : PyData} (h : isTerm d = true) : goodW d := by
  have h' : (inS d vars || intIn d 0 15) = true := h
  rcases Bool.or_eq_true _ _ ▸ h' with h | h
  · exact inS_good h (by decide)
  · exact intIn_good h (by decide) (by decide)
theorem part_good {d : PyData} {r : Str} (h : isPart d r = true) : goodW d := by
  unfold isPart at h
  split at h
  · exact inS_good h (by decide)
  split at h
  · exact term_good h
  split at h
  · exact inS_good h (by decide)
  split at h
  · exact intIn_good h (by decide) (by decide)
  split at h
  · exact intIn_good h (by decide) (by decide)
  · exact intIn_good h (by decide) (by decide)
theorem parts_good : ∀ {ps : List PyData} {rs : List Str}, ps.length = rs.length → allParts ps rs = true → ∀ p ∈ ps, goodW p
  | [], _, _, _ => fun p m => nomatch m
  | p :: ps, [], hl, _ => by simp at hl
  | p :: ps, r :: rs, hl, h => by
    have h' : isPart p r = true ∧ allParts ps rs = true := by simpa [allParts] using h
    intro q m
    rcases List.mem_cons.mp m with rfl | m
    · exact part_good h'.1
    · exact parts_good (by simpa using hl) h'.2 q m
/-! ### a line and its parts -/
def LineOf (y : Str) (d : PyData) : Prop := ∃ w ws, Txt.split y " " = w :: ws ∧ lineP w ws = d ∧ (∀ u ∈ w :: ws, u.length ≤ 60) ∧ ws.length ≤ 8 ∧ 10 ∉ tl y
theorem join_free {s : Nat} {sep : Str} (hs : s ∉ tl sep) : ∀ {ys : List Str}, (∀ y ∈ ys, s ∉ tl y) → s ∉ tl (Txt.join sep ys) := by
  intro ys h
  rw [join_eq, tl_join]
  have : ∀ (l : List (List Nat)), (∀ y ∈ l, s ∉ y) → s ∉ joinL (tl sep) l := by
    intro l
    induction l with
    | nil => intro _ m; cases m
    | cons p t ih =>
      intro hp
      cases t with
      | nil => exact hp p (List.mem_cons_self ..)
      | cons q r =>
        intro m
        have m' : s ∈ p ++ (tl sep ++ joinL (tl sep) (q :: r)) := m
        rw [List.mem_append, List.mem_append] at m'
        rcases m' with m' | m' | m'
        · exact hp p (List.mem_cons_self ..) m'
        · exact hs m'
        · exact ih (fun y my => hp y (List.mem_cons_of_mem _ my)) m'
  refine this _ fun y my => ?_
  obtain ⟨z, hz, rfl⟩ := List.mem_map.mp my
  exact h z hz
theorem split_words {ys : List Str} (hne : ys ≠ []) (h : ∀ y ∈ ys, 32 ∉ tl y) : Txt.split (Txt.join " " ys) " " = ys :=
  split_join (s := 32) (S := []) (by rfl) (by decide +kernel) hne h
theorem nums_back : ∀ {ps : List PyData}, (∀ p ∈ ps, goodW p) → (ps.map strD).map numW = ps
  | [], _ => rfl
  | p :: r, h => by
    rw [List.map_cons, List.map_cons, (h p (List.mem_cons_self ..)).1, nums_back fun q m => h q (List.mem_cons_of_mem _ m)]
theorem line_of {z : Str} {ps : List PyData} (hz : 32 ∉ tl z ∧ 10 ∉ tl z ∧ z.length ≤ 60) (hl : ps.length ≤ 8) (h : ∀ p ∈ ps, goodW p) : Txt.split (joinD (.str z :: ps)) " " = z :: ps.map strD ∧ (∀ u ∈ z :: ps.map strD, u.length ≤ 60) ∧ (ps.map strD).length ≤ 8 ∧ 10 ∉ tl (joinD (.str z :: ps)) := by
  have hw : ∀ y ∈ z :: ps.map strD, 32 ∉ tl y ∧ 10 ∉ tl y ∧ y.length ≤ 60 := fun y my => by
    rcases List.mem_cons.mp my with rfl | my
    · exact hz
    · obtain ⟨p, hp, rfl⟩ := List.mem_map.mp my
      have := h p hp
      exact ⟨this.2.1, this.2.2.1, this.2.2.2.1⟩
  refine ⟨split_words (by simp) fun y my => (hw y my).1, fun u mu => (hw u mu).2.2, by rw [List.length_map]; exact hl, ?_⟩
  exact join_free (by decide +kernel) fun y my => (hw y my).2.1
theorem word_clean {z kind : Str} {rs : List Str} (h : rolesZ z kind = some rs) : (32 ∉ tl z ∧ 10 ∉ tl z ∧ z.length ≤ 60) ∧ ¬ z = "if" ∧ ¬ z = "while" ∧ ¬ z = "end" ∧ ¬ z = "else" := by
  unfold rolesZ at h
  have k : ∀ z ∈ (["set", "add", "wait", "ask", "answer", "grow", "list"] : List Str), (32 ∉ tl z ∧ 10 ∉ tl z ∧ z.length ≤ 60) ∧ ¬ z = "if" ∧ ¬ z = "while" ∧ ¬ z = "end" ∧ ¬ z = "else" := by decide +kernel
  refine k z ?_
  split at h
  · rename_i e; rw [e]; decide
  split at h
  · rename_i e; rw [e]; decide
  split at h
  · rename_i e; rw [e]; decide
  split at h
  · split at h
    · rename_i e; rw [e]; decide
    split at h
    · rename_i e; rw [e]; decide
    · cases h
  · split at h
    · rename_i e; rw [e]; decide
    split at h
    · rename_i e; rw [e]; decide
    · cases h
theorem plain_line {s : PyData} {k : Str} (h : isPlain s k = true) : LineOf (plainT s) s := by
  obtain ⟨z, ps, rs, rfl, hz, hl, hp⟩ := plain_inv h
  obtain ⟨hc, n1, n2, n3, n4⟩ := word_clean hz
  have hg := parts_good hl hp
  have hl8 : ps.length ≤ 8 := by have := roles_short hz; omega
  by_cases c : z = "ask"
  · subst c
    have e := word_ask hz
    subst e
    match ps, hl, hp, hg with
    | [a, b, x], _, hp, hg =>
      have h' : isPart a "sign" = true ∧ isPart b "term" = true ∧ isPart x "variable" = true := by simpa [allParts] using hp
      rw [part_sign] at h'
      have hx := part_good h'.2.2
      have ht := term_good (show isTerm b = true from h'.2.1)
      obtain ⟨g, rfl⟩ : ∃ g, a = .str g := by
        cases a with
        | str g => exact ⟨g, rfl⟩
        | _ => exact absurd h'.1 (by intro z; cases z)
      obtain ⟨xv, rfl⟩ : ∃ v, x = .str v := by
        cases x with
        | str v => exact ⟨v, rfl⟩
        | _ => exact absurd h'.2.2 (by rw [show ∀ d, isPart d "variable" = inS d vars from fun d => by unfold isPart; rw [if_pos rfl]]; intro z; cases z)
      have hgs : g = "+" ∨ g = "-" ∨ g = "=" := by
        have h2 : asks.any (· == g) = true := h'.1
        obtain ⟨y, m, e⟩ := List.any_eq_true.mp h2
        have e' : y = g := eq_of_beq e
        subst e'
        have m' : y = ("+" : Str) ∨ y = ("-" : Str) ∨ y = ("=" : Str) := by
          unfold asks at m
          rw [List.mem_cons, List.mem_cons, List.mem_singleton] at m
          exact m
        exact m'
      rw [plainT_ask]
      have hp2 : ∀ p : PyData, (p = askW g b) → (32 ∉ tl (strD p) ∧ 10 ∉ tl (strD p) ∧ (strD p).length ≤ 60) ∧ askP ["ask", strD p, xv] = .tuple [.str "ask", .str g, b, .str xv] := by
        rintro p rfl
        by_cases ce : g = "="
        · subst ce
          have e : askW "=" b = b := by unfold askW; rw [if_pos rfl]
          rw [e]
          refine ⟨⟨ht.2.1, ht.2.2.1, ht.2.2.2.1⟩, ?_⟩
          show (if _ then _ else _) = _
          rw [if_neg (by
            rintro (z | z)
            · have := ht.2.2.2.2 43
              exact absurd z (by rw [show Txt.startswith (strD b) "x+" = false from this]; decide)
            · have := ht.2.2.2.2 45
              exact absurd z (by rw [show Txt.startswith (strD b) "x-" = false from this]; decide)), ht.1]
        · have e : askW g b = .str ((("x" : Str) ++ g) ++ strD b) := by unfold askW; rw [if_neg ce]
          rw [e]
          have hg1 : g = "+" ∨ g = "-" := by
            rcases hgs with h | h | h
            · exact .inl h
            · exact .inr h
            · exact absurd h ce
          have gl : ∃ c, tl g = [c] ∧ g = ⟨#[c]⟩ ∧ (c = 43 ∨ c = 45) := by
            rcases hg1 with rfl | rfl
            · exact ⟨43, rfl, rfl, .inl rfl⟩
            · exact ⟨45, rfl, rfl, .inr rfl⟩
          obtain ⟨c, g1, g2, g3⟩ := gl
          have et : tl ((("x" : Str) ++ g) ++ strD b) = 120 :: c :: tl (strD b) := by
            rw [tl_append, tl_append, g1]
            rfl
          have hsw : Txt.startswith ((("x" : Str) ++ g) ++ strD b) ⟨#[120, c]⟩ = true := by
            unfold Txt.startswith
            rw [Bool.and_eq_true]
            refine ⟨decide_eq_true ?_, ?_⟩
            · rw [len_tl ((("x" : Str) ++ g) ++ strD b), et]
              show 0 + 2 ≤ (tl (strD b)).length + 1 + 1
              omega
            · rw [PySem.StrLaws.subAt_eq, show ((("x" : Str) ++ g) ++ strD b).cps.toList = 120 :: c :: tl (strD b) from et]
              exact beq_self_eq_true _
          have hcut : cutS ((("x" : Str) ++ g) ++ strD b) (some 2) none = strD b := by
            apply ext_tl
            unfold cutS
            rw [show HT.sIx ((("x" : Str) ++ g) ++ strD b).length 0 (some 2) = min 2 ((("x" : Str) ++ g) ++ strD b).length from HT.sIx_nat _ _ 2, HT.sIx_none, show ((("x" : Str) ++ g) ++ strD b).cps.toList = 120 :: c :: tl (strD b) from et, len_tl, et]
            rw [Nat.min_eq_left (by simp)]
            show ((120 :: c :: tl (strD b)).drop 2).take _ = _
            rw [List.take_of_length_le (by simp)]
            rfl
          refine ⟨⟨?_, ?_, ?_⟩, ?_⟩
          · show 32 ∉ tl ((("x" : Str) ++ g) ++ strD b)
            rw [et, List.mem_cons, List.mem_cons]
            rintro (h | h | h)
            · cases h
            · omega
            · exact ht.2.1 h
          · show 10 ∉ tl ((("x" : Str) ++ g) ++ strD b)
            rw [et, List.mem_cons, List.mem_cons]
            rintro (h | h | h)
            · cases h
            · omega
            · exact ht.2.2.1 h
          · show ((("x" : Str) ++ g) ++ strD b).length ≤ 60
            have h31 := strD_short (term_okP (show isTerm b = true from h'.2.1))
            rw [len_tl] at h31
            rw [len_tl, et]
            show (tl (strD b)).length + 1 + 1 ≤ 60
            omega
          · show (if _ then _ else _) = _
            rw [if_pos (by
              rcases g3 with rfl | rfl
              · exact .inl hsw
              · exact .inr hsw)]
            show PyData.tuple [.str "ask", .str ⟨#[((tl ((("x" : Str) ++ g) ++ strD b))[1]?).getD 0]⟩, numW (cutS ((("x" : Str) ++ g) ++ strD b) (some 2) none), .str xv] = _
            rw [hcut, ht.1]
            show PyData.tuple [.str "ask", .str ⟨#[((tl ((("x" : Str) ++ g) ++ strD b))[1]?).getD 0]⟩, b, .str xv] = _
            rw [et, g2]
            rfl
      obtain ⟨hm, he⟩ := hp2 _ rfl
      have hw : ∀ y ∈ ([("ask" : Str), strD (askW g b), xv] : List Str), 32 ∉ tl y ∧ 10 ∉ tl y ∧ y.length ≤ 60 := fun y my => by
        have my' : y = "ask" ∨ y = strD (askW g b) ∨ y = xv := by simpa using my
        rcases my' with rfl | rfl | rfl
        · exact hc
        · exact hm
        · exact ⟨hx.2.1, hx.2.2.1, hx.2.2.2.1⟩
      refine ⟨"ask", [strD (askW g b), xv], split_words (by simp) fun y my => (hw y my).1, ?_, fun u mu => (hw u mu).2.2, by simp, join_free (by decide +kernel) fun y my => (hw y my).2.1⟩
      unfold lineP
      rw [if_pos rfl]
      exact he
  · rw [plainT_no c]
    obtain ⟨h1, h2, h3, h4⟩ := line_of hc hl8 hg
    refine ⟨z, ps.map strD, h1, ?_, h2, h3, h4⟩
    unfold lineP
    rw [if_neg c, if_neg (by rintro (h | h) <;> contradiction), nums_back hg]
theorem cond_line {w : Str} {co : PyData} (hw : w = "if" ∨ w = "while") (h : isCond co = true) : LineOf (condT w co) (.tuple [.str w, co]) := by
  unfold isCond at h
  split at h
  · rename_i x y z
    rw [Bool.and_eq_true, Bool.and_eq_true] at h
    obtain ⟨⟨h1, h2⟩, h3⟩ := h
    have hg : ∀ p ∈ [x, y, z], goodW p := fun p mp => by
      have mp' : p = x ∨ p = y ∨ p = z := by simpa using mp
      rcases mp' with rfl | rfl | rfl
      · exact inS_good h1 (by decide)
      · exact inS_good h2 (by decide)
      · exact term_good h3
    have hc : 32 ∉ tl w ∧ 10 ∉ tl w ∧ w.length ≤ 60 := by
      rcases hw with rfl | rfl <;> decide +kernel
    obtain ⟨a1, a2, a3, a4⟩ := line_of hc (by simp : [x, y, z].length ≤ 8) hg
    refine ⟨w, [x, y, z].map strD, a1, ?_, a2, a3, a4⟩
    unfold lineP
    rw [if_neg (by rcases hw with rfl | rfl <;> decide +kernel), if_pos hw, nums_back hg]
  · cases h
theorem end_line : LineOf "end" (.tuple [.str "end"]) := ⟨"end", [], by decide +kernel, rfl, by decide, by decide, by decide +kernel⟩
theorem else_line : LineOf "else" (.tuple [.str "else"]) := ⟨"else", [], by decide +kernel, rfl, by decide, by decide, by decide +kernel⟩
end My

namespace My
open PySem L2 TL
/-! ### the reader as a function -/
structure Blk where
  w : Str
  c : PyData
  b1 : List PyData
  b2 : Option (List PyData)
structure RS where
  many : Nat
  top : Blk
  rest : List Blk
def isW (d : PyData) (z : Str) : Bool := match d with
  | .tuple [.str w] => decide (w = z)
  | _ => false
def mayBranch (b : Blk) : Bool := decide (b.w = "if") && b.b2.isNone
def mayEnd (b : Blk) : Bool := decide (b.w = "if" ∨ b.w = "while") && (match b.b2 with
  | none => true
  | some x => decide (0 < x.length))
def asStmt (b : Blk) : PyData := .tuple ([.str b.w, b.c, .tuple b.b1] ++ (match b.b2 with
  | some x => [.tuple x]
  | none => if b.w = "if" then [.tuple []] else []))
def addL (ss : List PyData) (b : Blk) : Blk := match b.b2 with
  | none => ⟨b.w, b.c, b.b1 ++ ss, none⟩
  | some x => ⟨b.w, b.c, b.b1, some (x ++ ss)⟩
def hasRoom (S : RS) : Bool := decide (S.many < 24) && decide (S.rest.length + 1 ≤ 4)
def allowsF (k : Str) (S : RS) (d : PyData) : Bool :=
  if isW d "end" = true then mayEnd S.top else if hasRoom S = false then false else if isW d "else" = true then mayBranch S.top else isOpen d || isPlain d k
def opens (d : PyData) : Blk := match d with
  | .tuple [.str w, c] => ⟨w, c, [], none⟩
  | _ => ⟨"", .tuple [], [], none⟩
def takeF (S : RS) (d : PyData) : RS :=
  if isW d "end" = true then (match S.rest with
    | n :: r => ⟨S.many, addL [asStmt S.top] n, r⟩
    | [] => S)
  else if isW d "else" = true then ⟨S.many, ⟨S.top.w, S.top.c, S.top.b1, some []⟩, S.rest⟩
  else if isOpen d = true then ⟨S.many + 1, opens d, S.top :: S.rest⟩
  else ⟨S.many + 1, addL [d] S.top, S.rest⟩
def readF (k : Str) : RS → List PyData → Option RS
  | S, [] => some S
  | S, d :: ds => if allowsF k S d = true then readF k (takeF S d) ds else none
theorem readF_cons {k : Str} {S : RS} {d : PyData} {ds : List PyData} (h : allowsF k S d = true) : readF k S (d :: ds) = readF k (takeF S d) ds := by
  show (if _ then _ else _) = _
  rw [if_pos h]
theorem addL_nil (b : Blk) : addL [] b = b := by
  obtain ⟨w, c, b1, b2⟩ := b
  cases b2 <;> simp [addL]
theorem addL_two (s : PyData) (ss : List PyData) (b : Blk) : addL ss (addL [s] b) = addL (s :: ss) b := by
  obtain ⟨w, c, b1, b2⟩ := b
  cases b2 <;> simp [addL]
theorem paired_app {α β : Type} {R : α → β → Prop} : ∀ {as : List α} {bs : List β} {cs : List α} {ds : List β}, Paired R as bs → Paired R cs ds → Paired R (as ++ cs) (bs ++ ds)
  | _, _, _, _, .nil, h => h
  | _, _, _, _, .cons a t, h => .cons a (paired_app t h)
/-- what the reader asks of the parts of a line -/
def goodD (d : PyData) : Prop := ∃ ds, d = .tuple ds ∧ Lay d ∧ SeqAt.shaped d = true ∧ (ds ≠ [] → ∃ w r, ds = .str w :: r)
def LineG (y : Str) (d : PyData) : Prop := LineOf y d ∧ goodD d
theorem shaped_of {d : PyData} (h : Lay d) (hd : d.depth ≤ 64) : SeqAt.shaped d = true := by
  show (d.canLay0 && decide (d.depth ≤ 64)) = true
  rw [Bool.and_eq_true]
  exact ⟨h, decide_eq_true hd⟩
theorem end_good : LineG "end" (.tuple [.str "end"]) := ⟨end_line, _, rfl, by decide +kernel, by decide +kernel, fun _ => ⟨_, _, rfl⟩⟩
theorem else_good : LineG "else" (.tuple [.str "else"]) := ⟨else_line, _, rfl, by decide +kernel, by decide +kernel, fun _ => ⟨_, _, rfl⟩⟩
theorem cond_good {w : Str} {co : PyData} (hw : w = "if" ∨ w = "while") (h : isCond co = true) (hl : Lay co) : LineG (condT w co) (.tuple [.str w, co]) := by
  have hly : Lay (.tuple [.str w, co]) := lay2 (lay_str (by rcases hw with rfl | rfl <;> decide +kernel)) hl
  refine ⟨cond_line hw h, _, rfl, hly, shaped_of hly ?_, fun _ => ⟨_, _, rfl⟩⟩
  have := cond_depth h
  simp only [PyData.depth, PyData.depthAll]
  omega
theorem plain_good {s : PyData} {k : Str} (h : isPlain s k = true) (hl : Lay s) : LineG (plainT s) s := by
  refine ⟨plain_line h, ?_⟩
  have hd := plain_depth h
  obtain ⟨z, ps, rs, rfl, _⟩ := plain_inv h
  exact ⟨_, rfl, hl, shaped_of hl (by omega), fun _ => ⟨_, _, rfl⟩⟩
def ReadsB (k : Str) (ys : List Str) (c n : Nat) (ss : List PyData) : Prop := ∃ ds, Paired LineG ys ds ∧ ∀ (S : RS) more, S.rest.length + n ≤ 4 → S.many + c ≤ 24 → readF k S (ds ++ more) = readF k ⟨S.many + c, addL ss S.top, S.rest⟩ more
theorem take_open {S : RS} {w : Str} {co : PyData} (hw : w = "if" ∨ w = "while") (hc : isCond co = true) : takeF S (.tuple [.str w, co]) = ⟨S.many + 1, ⟨w, co, [], none⟩, S.top :: S.rest⟩ := by
  have ho : isOpen (.tuple [.str w, co]) = true := by
    show (decide (w = "if" ∨ w = "while") && isCond co) = true
    rw [decide_eq_true hw, hc]; rfl
  unfold takeF
  rw [if_neg (by intro z; cases z), if_neg (by intro z; cases z), if_pos ho]
  rfl
theorem allow_open {k : Str} {S : RS} {w : Str} {co : PyData} (hw : w = "if" ∨ w = "while") (hc : isCond co = true) (hr : hasRoom S = true) : allowsF k S (.tuple [.str w, co]) = true := by
  have ho : isOpen (.tuple [.str w, co]) = true := by
    show (decide (w = "if" ∨ w = "while") && isCond co) = true
    rw [decide_eq_true hw, hc]; rfl
  unfold allowsF
  rw [if_neg (by intro z; cases z), if_neg (by rw [hr]; decide), if_neg (by intro z; cases z), ho]
  rfl
theorem room_of {S : RS} (h1 : S.many < 24) (h2 : S.rest.length + 1 ≤ 4) : hasRoom S = true := by
  unfold hasRoom
  rw [decide_eq_true h1, decide_eq_true h2]; rfl
theorem st_reads {k : Str} {n c : Nat} {s : PyData} (hl : Lay s) (hB : ∀ ss c, Lay (.tuple ss) → bodyN k n (.tuple ss) = some c → ReadsB k (bodyT n (.tuple ss)) c n ss) (h : stN k n s = some c) : ReadsB k (stT (bodyT n) s) c (n + 1) [s] := by
  rcases st_shape h with ⟨z, ps, rfl, h1, h2, hp, rfl⟩ | ⟨co, b, c', rfl, hco, hb, rfl⟩ | ⟨co, b1, b2, c1, c2, rfl, hco, hb1, hb2, rfl⟩
  · rw [stT_plain h1 h2]
    refine ⟨[.tuple (.str z :: ps)], .cons (plain_good hp hl) .nil, fun S more hr hm => ?_⟩
    obtain ⟨z', ps', rs, e, hz, hl, _⟩ := plain_inv hp
    injection e with e; injection e with e1 e2; injection e1 with e1
    subst e1 e2
    obtain ⟨_, n1, n2, n3, n4⟩ := word_clean hz
    have w1 : ∀ y : Str, ¬ z = y → isW (.tuple (.str z :: ps)) y = false := fun y hy => by
      cases ps with
      | nil => exact decide_eq_false hy
      | cons _ _ => rfl
    have ho : isOpen (.tuple (.str z :: ps)) = false := by
      unfold isOpen
      split
      · rename_i e; injection e with e; injection e with e1 e2; injection e1 with e1
        subst e1
        rw [decide_eq_false (by rintro (h | h) <;> contradiction)]; rfl
      · rfl
    have hroom : hasRoom S = true := room_of (by omega) (by omega)
    show readF k S (.tuple (.str z :: ps) :: more) = _
    rw [readF_cons (by
      unfold allowsF
      rw [if_neg (by rw [w1 _ n3]; decide), if_neg (by rw [hroom]; decide), if_neg (by rw [w1 _ n4]; decide), hp, Bool.or_true])]
    unfold takeF
    rw [if_neg (by rw [w1 _ n3]; decide), if_neg (by rw [w1 _ n4]; decide), if_neg (by rw [ho]; decide)]
  · obtain ⟨ss, rfl⟩ := body_tuple hb
    rw [stT_while]
    obtain ⟨ds, hds, hrd⟩ := hB ss c' (lay_mem (lay_tup hl) _ (by simp)) hb
    refine ⟨.tuple [.str "while", co] :: (ds ++ [.tuple [.str "end"]]), .cons (cond_good (.inr rfl) hco (lay_mem (lay_tup hl) _ (by simp))) (paired_app hds (.cons end_good .nil)), fun S more hr hm => ?_⟩
    rw [List.cons_append, readF_cons (allow_open (.inr rfl) hco (room_of (by omega) (by omega))), take_open (.inr rfl) hco, List.append_assoc, hrd _ _ (by show S.rest.length + 1 + n ≤ 4; omega) (by show S.many + 1 + c' ≤ 24; omega)]
    show readF k ⟨S.many + 1 + c', ⟨"while", co, [] ++ ss, none⟩, S.top :: S.rest⟩ (.tuple [.str "end"] :: more) = _
    rw [List.nil_append, readF_cons (by rfl)]
    rw [Nat.add_assoc]
    rfl
  · obtain ⟨ss1, rfl⟩ := body_tuple hb1
    obtain ⟨ss2, rfl⟩ := body_tuple hb2
    rw [stT_if]
    obtain ⟨ds1, hds1, hrd1⟩ := hB ss1 c1 (lay_mem (lay_tup hl) _ (by simp)) hb1
    cases ss2 with
    | nil =>
      have hc2 : c2 = 0 := by
        cases n with
        | zero => exact (Option.some.inj hb2).symm
        | succ n => rw [bodyN_tup] at hb2; exact (Option.some.inj hb2).symm
      subst hc2
      rw [if_pos (show isNil (.tuple []) = true from rfl), List.append_nil]
      refine ⟨.tuple [.str "if", co] :: (ds1 ++ [.tuple [.str "end"]]), .cons (cond_good (.inl rfl) hco (lay_mem (lay_tup hl) _ (by simp))) (paired_app hds1 (.cons end_good .nil)), fun S more hr hm => ?_⟩
      rw [List.cons_append, readF_cons (allow_open (.inl rfl) hco (room_of (by omega) (by omega))), take_open (.inl rfl) hco, List.append_assoc, hrd1 _ _ (by show S.rest.length + 1 + n ≤ 4; omega) (by show S.many + 1 + c1 ≤ 24; omega)]
      show readF k ⟨S.many + 1 + c1, ⟨"if", co, [] ++ ss1, none⟩, S.top :: S.rest⟩ (.tuple [.str "end"] :: more) = _
      rw [List.nil_append, readF_cons (by rfl)]
      rw [Nat.add_assoc]
      rfl
    | cons s2 r2 =>
      have hc2 : 1 ≤ c2 ∧ 1 ≤ n := by
        cases n with
        | zero => cases hb2
        | succ n =>
          rw [bodyN_tup] at hb2
          obtain ⟨a, ha, hle⟩ := sum_le (show bodyN k (n + 1) (.tuple (s2 :: r2)) = some c2 from by rw [bodyN_tup]; exact hb2) (List.mem_cons_self ..)
          have := stN_ge ha
          omega
      obtain ⟨ds2, hds2, hrd2⟩ := hB (s2 :: r2) c2 (lay_mem (lay_tup hl) _ (by simp)) hb2
      rw [if_neg (by intro z; cases z)]
      refine ⟨.tuple [.str "if", co] :: ((ds1 ++ .tuple [.str "else"] :: ds2) ++ [.tuple [.str "end"]]), .cons (cond_good (.inl rfl) hco (lay_mem (lay_tup hl) _ (by simp))) (paired_app (paired_app hds1 (.cons else_good hds2)) (.cons end_good .nil)), fun S more hr hm => ?_⟩
      rw [List.cons_append, readF_cons (allow_open (.inl rfl) hco (room_of (by omega) (by omega))), take_open (.inl rfl) hco, List.append_assoc, List.append_assoc, hrd1 _ _ (by show S.rest.length + 1 + n ≤ 4; omega) (by show S.many + 1 + c1 ≤ 24; omega)]
      show readF k ⟨S.many + 1 + c1, ⟨"if", co, [] ++ ss1, none⟩, S.top :: S.rest⟩ (.tuple [.str "else"] :: (ds2 ++ (.tuple [.str "end"] :: more))) = _
      have hroom : hasRoom ⟨S.many + 1 + c1, ⟨"if", co, [] ++ ss1, none⟩, S.top :: S.rest⟩ = true := room_of (by show S.many + 1 + c1 < 24; omega) (by show S.rest.length + 1 + 1 ≤ 4; omega)
      rw [readF_cons (by
        unfold allowsF
        rw [if_neg (by intro z; revert z; decide +kernel), if_neg (by rw [hroom]; decide)]
        rfl)]
      rw [show takeF ⟨S.many + 1 + c1, ⟨"if", co, [] ++ ss1, none⟩, S.top :: S.rest⟩ (.tuple [.str "else"]) = ⟨S.many + 1 + c1, ⟨"if", co, [] ++ ss1, some []⟩, S.top :: S.rest⟩ from rfl]
      rw [hrd2 _ _ (by show S.rest.length + 1 + n ≤ 4; omega) (by show S.many + 1 + c1 + c2 ≤ 24; omega)]
      show readF k ⟨S.many + 1 + c1 + c2, ⟨"if", co, [] ++ ss1, some ([] ++ s2 :: r2)⟩, S.top :: S.rest⟩ (.tuple [.str "end"] :: more) = _
      rw [List.nil_append, List.nil_append, readF_cons (by rfl)]
      rw [Nat.add_assoc, Nat.add_assoc]
      rfl
theorem body_reads {k : Str} : ∀ (n : Nat) (ss : List PyData) (c : Nat), Lay (.tuple ss) → bodyN k n (.tuple ss) = some c → ReadsB k (bodyT n (.tuple ss)) c n ss
  | 0, ss, c, hl, h => by
    cases ss with
    | nil =>
      have : c = 0 := (Option.some.inj h).symm
      subst this
      exact ⟨[], .nil, fun S more _ _ => by rw [addL_nil]; rfl⟩
    | cons _ _ => cases h
  | n + 1, ss, c, hl, h => by
    rw [bodyN_tup] at h
    show ReadsB k ((ss.map (stT (bodyT n))).flatten) c (n + 1) ss
    have hall := lay_mem (lay_tup hl)
    clear hl
    revert c h hall
    induction ss with
    | nil =>
      intro c h _
      have : c = 0 := (Option.some.inj h).symm
      subst this
      exact ⟨[], .nil, fun S more _ _ => by rw [addL_nil]; rfl⟩
    | cons s r ih =>
      intro c h hall
      rw [List.map_cons] at h
      obtain ⟨c1, c2, h1, h2, rfl⟩ : ∃ c1 c2, stN k n s = some c1 ∧ sumO (r.map (stN k n)) = some c2 ∧ c = c1 + c2 := by
        cases e1 : stN k n s with
        | none => rw [e1] at h; cases h
        | some c1 =>
          cases e2 : sumO (r.map (stN k n)) with
          | none =>
            have h' : addO (stN k n s) (sumO (r.map (stN k n))) = some c := h
            rw [e1, e2] at h'
            cases h'
          | some c2 =>
            have h' : addO (stN k n s) (sumO (r.map (stN k n))) = some c := h
            rw [e1, e2] at h'
            exact ⟨c1, c2, rfl, rfl, (Option.some.inj h').symm⟩
      obtain ⟨d1, p1, q1⟩ := st_reads (hall s (by simp)) (body_reads n) h1
      obtain ⟨d2, p2, q2⟩ := ih c2 h2 (fun d m => hall d (List.mem_cons_of_mem _ m))
      rw [List.map_cons, List.flatten_cons]
      refine ⟨d1 ++ d2, paired_app p1 p2, fun S more hr hm => ?_⟩
      rw [List.append_assoc, q1 _ _ hr (by omega), q2 ⟨S.many + c1, addL [s] S.top, S.rest⟩ _ hr (by show S.many + c1 + c2 ≤ 24; omega), addL_two, Nat.add_assoc]
def R0 : RS := ⟨0, ⟨"", .tuple [], [], none⟩, []⟩
theorem text_reads {k : Str} {ss : List PyData} {c : Nat} (hl : Lay (.tuple ss)) (h : bodyN k 4 (.tuple ss) = some c) (hc : c ≤ 24) : ∃ ds, Paired LineG (bodyT 4 (.tuple ss)) ds ∧ readF k R0 ds = some ⟨c, ⟨"", .tuple [], ss, none⟩, []⟩ := by
  obtain ⟨ds, hp, hr⟩ := body_reads 4 ss c hl h
  refine ⟨ds, hp, ?_⟩
  have := hr R0 [] (by decide) (by show 0 + c ≤ 24; omega)
  rw [List.append_nil] at this
  rw [this]
  show some (RS.mk (0 + c) ⟨"", .tuple [], [] ++ ss, none⟩ []) = _
  rw [Nat.zero_add, List.nil_append]
end My

namespace My
open PySem L2 TL
/-! ### blocks on the heap -/
abbrev sBI : Stmt := inClass (top 30) 0
abbrev sMB : Stmt := inClass (top 30) 1
abbrev sME : Stmt := inClass (top 30) 2
abbrev sAS : Stmt := inClass (top 30) 3
structure BNo (K : PySem.W.Frag) (C : Addr) : Prop where
  cl : Cls K C
  nW : NoAttr K C "word"
  nC : NoAttr K C "condition"
  nB : NoAttr K C "bodies"
structure MCl (P : Program) (w : World) (K : PySem.W.Frag) (mg : Str → Option Value) (base : Heap) (k : Nat) (C : Addr) (x : Str) (ps : List Str) (sp : Sp) where
  f : Addr
  fd : FuncData
  G : FnOk P w K mg base CX0 k f fd ps sp
  b : Binds K fd ps []
  m : Meth K C x f
def bkf (w : Str) (vc : V) (bl : Addr) : List (Str × V) := [("word", .str w), ("condition", vc), ("bodies", .ref bl)]
/-- a block stands at b, its lists at o -/
def BlkA (K : PySem.W.Frag) (H : Hp) (C b : Addr) (bk : Blk) (o : List Addr) : Prop :=
  ∃ (dx : Addr) (vc : V) (bl l1 : Addr) (xs1 : List V), H b = some (.ins C dx (bkf bk.w vc bl)) ∧ Dt K H vc bk.c ∧ H l1 = some (.lst xs1) ∧ DpAll K (tupH H) xs1 bk.b1 ∧
    ((bk.b2 = none ∧ H bl = some (.lst [.ref l1]) ∧ o = [bl, l1]) ∨ ∃ s2 l2 xs2, bk.b2 = some s2 ∧ H bl = some (.lst [.ref l1, .ref l2]) ∧ H l2 = some (.lst xs2) ∧ DpAll K (tupH H) xs2 s2 ∧ o = [bl, l1, l2])
theorem BlkA.lists {K : PySem.W.Frag} {H : Hp} {C b : Addr} {bk : Blk} {o : List Addr} (h : BlkA K H C b bk o) : ∀ p ∈ o, ∃ xs, H p = some (.lst xs) := by
  obtain ⟨dx, vc, bl, l1, xs1, e1, e2, e3, e4, ⟨_, e5, rfl⟩ | ⟨s2, l2, xs2, _, e5, e6, e7, rfl⟩⟩ := h
  · intro p mp
    have mp' : p = bl ∨ p = l1 := by simpa using mp
    rcases mp' with rfl | rfl
    · exact ⟨_, e5⟩
    · exact ⟨_, e3⟩
  · intro p mp
    have mp' : p = bl ∨ p = l1 ∨ p = l2 := by simpa using mp
    rcases mp' with rfl | rfl | rfl
    · exact ⟨_, e5⟩
    · exact ⟨_, e3⟩
    · exact ⟨_, e6⟩
/-- what is written elsewhere leaves a block as it is -/
theorem BlkA.keep {K : PySem.W.Frag} {H H' : Hp} {C b : Addr} {bk : Blk} {o X : List Addr} (h : BlkA K H C b bk o) (f : Fx X H H') (k : KeepT H H') (hb : b ∉ X) (ho : ∀ p ∈ o, p ∉ X) : BlkA K H' C b bk o := by
  obtain ⟨dx, vc, bl, l1, xs1, e1, e2, e3, e4, e5⟩ := h
  have d1 : Dt K H' vc bk.c := dp_mono k.same _ _ e2
  have d2 := dpAll_mono k.same _ _ e4
  rcases e5 with ⟨e5, e6, rfl⟩ | ⟨s2, l2, xs2, e5, e6, e7, e8, rfl⟩
  · exact ⟨dx, vc, bl, l1, xs1, f _ _ hb e1, d1, f _ _ (ho l1 (by simp)) e3, d2, .inl ⟨e5, f _ _ (ho bl (by simp)) e6, rfl⟩⟩
  · exact ⟨dx, vc, bl, l1, xs1, f _ _ hb e1, d1, f _ _ (ho l1 (by simp)) e3, d2, .inr ⟨s2, l2, xs2, e5, f _ _ (ho bl (by simp)) e6, f _ _ (ho l2 (by simp)) e7, dpAll_mono k.same _ _ e8, rfl⟩⟩
theorem BlkA.same {K : PySem.W.Frag} {H H' : Hp} {C b : Addr} {bk : Blk} {o : List Addr} (h : BlkA K H C b bk o) (s : Same H H') : BlkA K H' C b bk o := h.keep (X := []) (Fx.of s) (KeepT.of s) (by simp) (by simp)
def spBI (K : PySem.W.Frag) (C : Addr) : Sp := fun vs H Q _ => ∃ (b dx : Addr) (z : Str) (vc : V) (c : PyData), vs = [.ref b, .str z, vc] ∧ H b = some (.ins C dx []) ∧ Dt K H vc c ∧
  ∀ H' bl l1, Fx [b] H H' → H bl = none → H l1 = none → bl ≠ l1 → BlkA K H' C b ⟨z, c, [], none⟩ [bl, l1] → Q .non H'
def spMB (K : PySem.W.Frag) (C : Addr) : Sp := fun vs H Q _ => ∃ (b : Addr) (bk : Blk) (o : List Addr), vs = [.ref b] ∧ BlkA K H C b bk o ∧ Q (.bl (mayBranch bk)) H
def spME (K : PySem.W.Frag) (C : Addr) : Sp := fun vs H Q _ => ∃ (b : Addr) (bk : Blk) (o : List Addr), vs = [.ref b] ∧ BlkA K H C b bk o ∧ Q (.bl (mayEnd bk)) H
def spAS (K : PySem.W.Frag) (C : Addr) : Sp := fun vs H Q _ => ∃ (b : Addr) (bk : Blk) (o : List Addr), vs = [.ref b] ∧ BlkA K H C b bk o ∧ ∀ H' p, Same H H' → H p = none → Dt K H' (.ref p) (asStmt bk) → Q (.ref p) H'
def rTupOf (K : PySem.W.Frag) : List V → Hp → VK → Prop := fun xs H Q => ∃ p ys, xs = [V.ref p] ∧ ((SqL K H p ys ∧ ∀ l, H l = none → Q (.ref l) (upd H l (.tup ys))) ∨ (SqT K H p ys ∧ Q (.ref p) H))
def bodsB (bk : Blk) : List (List PyData) := bk.b1 :: (match bk.b2 with
  | none => []
  | some x => [x])
theorem BlkA.bods {K : PySem.W.Frag} {H : Hp} {C b : Addr} {bk : Blk} {o : List Addr} (h : BlkA K H C b bk o) : ∃ (dx bl : Addr) (vc : V) (ls : List Addr), H b = some (.ins C dx (bkf bk.w vc bl)) ∧ Dt K H vc bk.c ∧ H bl = some (.lst (ls.map V.ref)) ∧ ls.length ≤ 2 ∧ ls.length = (bodsB bk).length ∧ Paired (fun l ss => ∃ xs, H l = some (.lst xs) ∧ DpAll K (tupH H) xs ss) ls (bodsB bk) := by
  obtain ⟨dx, vc, bl, l1, xs1, e1, e2, e3, e4, e5⟩ := h
  obtain ⟨bw, bc, b1, b2⟩ := bk
  rcases e5 with ⟨e5, e6, rfl⟩ | ⟨s2, l2, xs2, e5, e6, e7, e8, rfl⟩
  · cases (show b2 = none from e5)
    exact ⟨dx, bl, vc, [l1], e1, e2, e6, (by simp), rfl, .cons ⟨xs1, e3, e4⟩ .nil⟩
  · cases (show b2 = some s2 from e5)
    exact ⟨dx, bl, vc, [l1, l2], e1, e2, e6, (by simp), rfl, .cons ⟨xs1, e3, e4⟩ (.cons ⟨xs2, e7, e8⟩ .nil)⟩
theorem paired_at {α β : Type} {R : α → β → Prop} : ∀ {as : List α} {bs : List β} {i : Nat} {a : α}, Paired R as bs → as[i]? = some a → ∃ b, bs[i]? = some b ∧ R a b
  | _, _, _, _, .nil, h => by simp at h
  | _, _, 0, _, .cons r _, h => by
    cases h
    exact ⟨_, rfl, r⟩
  | _, _, i + 1, _, .cons _ t, h => by
    obtain ⟨b, hb, hr⟩ := paired_at (i := i) t (by simpa using h)
    exact ⟨b, by simpa using hb, hr⟩
theorem asStmt_eq (bk : Blk) : asStmt bk = .tuple ([.str bk.w, bk.c] ++ ((bodsB bk).map PyData.tuple ++ (if mayBranch bk = true then [.tuple []] else []))) := by
  obtain ⟨bw, bc, b1, b2⟩ := bk
  cases b2 with
  | none =>
    by_cases h : bw = "if"
    · simp [asStmt, bodsB, mayBranch, h]
    · simp [asStmt, bodsB, mayBranch, h]
  | some x => simp [asStmt, bodsB, mayBranch]
section
variable {P : Program} {w : World} {K : PySem.W.Frag} {mg : Str → Option Value} {base : Heap}
theorem scMB : FnScope ["self"] ["self"] (defScope sMB) := ⟨rfl, rfl, rfl, by decide +kernel, rfl, by decide +kernel, by decide +kernel⟩
theorem ok_MB {f C : Addr} {fd : FuncData} (F : Fun K "may_branch" "Block.may_branch" sMB f fd) (T : Gs K mg) (N : BNo K C) : FnOk P w K mg base CX0 1 f fd ["self"] (spMB K C) := by
  refine F.ok scMB (fun vs H Q E h => ?_) (fun cdv A outer s H vs Q E hr h => ?_)
  · obtain ⟨b, bk, o, rfl, _⟩ := h
    rfl
  obtain ⟨b, bk, o, rfl, ⟨dx, vc, bl, l1, xs1, e1, e2, e3, e4, e5⟩, q⟩ := h
  refine ⟨_, (pss_one (ps_ret (pe_and (pe_cmpR op_eq (pe_fld (pv 0) rfl) pe_str (nomark _)) (pe_one (pe_cmpR op_eq (pe_callB call_len_seq (by rfl) T.len PySem.boot_len (pa_cons (pe_fld (pv 0) rfl) pa_nil)) pe_int (nomark _)))))), ?_⟩
  refine ⟨_, rfl, b, C, dx, _, _, rfl, e1, N.cl, N.nW, rfl, rfl, _, rfl, ?_⟩
  unfold mayBranch at q
  by_cases c : bk.w = "if"
  · refine ite2 (fun _ => ?_) (fun n => absurd (decide_eq_true (by rw [c])) n)
    rw [decide_eq_true c, Bool.true_and] at q
    rcases e5 with ⟨h2, e6, _⟩ | ⟨s2, l2, xs2, h2, e6, _⟩
    · refine ⟨_, rfl, b, C, dx, _, _, rfl, e1, N.cl, N.nB, rfl, bl, _, rfl, .inl (SqL.of e6), rfl, ?_⟩
      rw [h2] at q
      exact q
    · refine ⟨_, rfl, b, C, dx, _, _, rfl, e1, N.cl, N.nB, rfl, bl, _, rfl, .inl (SqL.of e6), rfl, ?_⟩
      rw [h2] at q
      exact q
  · refine ite2 (fun n => absurd (of_decide_eq_true n) (fun e => c (by injection e))) (fun _ => ?_)
    rw [decide_eq_false c, Bool.false_and] at q
    exact q
theorem scME : FnScope ["self"] ["self"] (defScope sME) := ⟨rfl, rfl, rfl, by decide +kernel, rfl, by decide +kernel, by decide +kernel⟩
theorem ok_ME {f C : Addr} {fd : FuncData} (F : Fun K "may_end" "Block.may_end" sME f fd) (T : Gs K mg) (D : Gd K w mg) (N : BNo K C) : FnOk P w K mg base CX0 1 f fd ["self"] (spME K C) := by
  refine F.ok scME (fun vs H Q E h => ?_) (fun cdv A outer s H vs Q E hr h => ?_)
  · obtain ⟨b, bk, o, rfl, _⟩ := h
    rfl
  obtain ⟨b, bk, o, rfl, ⟨dx, vc, bl, l1, xs1, e1, e2, e3, e4, e5⟩, q⟩ := h
  refine ⟨_, (pss_one (ps_ret (pe_and (pe_cmpR op_inK (pe_fld (pv 0) rfl) (pe_gref rfl D.mB) (by rfl)) (pe_one (pe_or (pe_cmpR op_eq (pe_callB call_len_seq (by rfl) T.len PySem.boot_len (pa_cons (pe_fld (pv 0) rfl) pa_nil)) pe_int (nomark _)) (pe_one (pe_cmpR op_gt (pe_callB call_len_seq (by rfl) T.len PySem.boot_len (pa_cons (pe_ix ix_list (pe_fld (pv 0) rfl) pe_int (fun _ _ => rfl)) pa_nil)) pe_int (nomark _)))))))), ?_⟩
  refine ⟨_, rfl, b, C, dx, _, _, rfl, e1, N.cl, N.nW, rfl, D.aB, _, some bk.w, rfl, D.tB, rfl, _, rfl, ?_⟩
  rw [if_neg (show ¬ (false = true) by decide), getB]
  unfold mayEnd at q
  by_cases c : bk.w = "if" ∨ bk.w = "while"
  · refine ite2 (fun _ => ?_) (fun n => absurd (decide_eq_true c) n)
    rw [decide_eq_true c, Bool.true_and] at q
    rcases e5 with ⟨h2, e6, _⟩ | ⟨s2, l2, xs2, h2, e6, e7, e8, _⟩
    · refine ⟨_, rfl, b, C, dx, _, _, rfl, e1, N.cl, N.nB, rfl, bl, _, rfl, .inl (SqL.of e6), rfl, _, rfl, ?_⟩
      rw [h2] at q
      exact iteT q
    · refine ⟨_, rfl, b, C, dx, _, _, rfl, e1, N.cl, N.nB, rfl, bl, _, rfl, .inl (SqL.of e6), rfl, _, rfl, ?_⟩
      rw [h2] at q
      have hl := dpAll_len e8
      refine iteF ⟨_, rfl, b, C, dx, _, _, rfl, e1, N.cl, N.nB, rfl, bl, _, _, _, rfl, rfl, SqL.of e6, atI_nat (j := 1) rfl, l2, _, rfl, .inl (SqL.of e7), _, _, rfl, rfl, ?_⟩
      have eq : decide ((0 : Int) < ((xs2.length : Nat) : Int)) = decide (0 < s2.length) := decide_eq_decide.mpr (by omega)
      show Q (.bl (decide ((0 : Int) < ((xs2.length : Nat) : Int)))) H
      rw [eq]
      exact q
  · refine ite2 (fun n => absurd (of_decide_eq_true n) c) (fun _ => ?_)
    rw [decide_eq_false c, Bool.false_and] at q
    exact q
abbrev nsAS : List Str := ["self", "bodies", "body"]
theorem scAS : FnScope nsAS ["self"] (defScope sAS) := ⟨rfl, rfl, rfl, by decide +kernel, rfl, by decide +kernel, by decide +kernel⟩
theorem ok_AS {f C : Addr} {fd : FuncData} (F : Fun K "as_statement" "Block.as_statement" sAS f fd) (T : Gs K mg) (N : BNo K C) (MB : MCl P w K mg base 1 C "may_branch" ["self"] (spMB K C)) : FnOk P w K mg base CX0 2 f fd ["self"] (spAS K C) := by
  refine F.ok scAS (fun vs H Q E h => ?_) (fun cdv A outer s H vs Q E hr h => ?_)
  · obtain ⟨b, bk, o, rfl, _⟩ := h
    rfl
  obtain ⟨b, bk, o, rfl, hb, q⟩ := h
  refine ⟨_, (pss_cons (ps_setLc (i := 1) (own := [("body", 2)]) (g := gName 2) (tt := tYes) rfl scAS.nd rfl rfl (sw_true rfl rfl rfl (by decide +kernel)) (pi_list (pe_fld (pv 0) rfl)) (blkOk_by (N := nsAS) (sc := defScope sAS) (by decide +kernel)) (fun _ _ _ _ _ => pg_name (i := 2) scAS.nd rfl (.inl rfl)) (fun _ _ _ _ _ => pts_nil) (fun _ _ _ _ _ => pe_callTy (show CallR _ _ (rTupOf K) from call_tuple_of) (by rfl) T.tup (by decide +kernel) (pa_cons (pv 2) pa_nil)))
  (pss_cons (ps_if (pt_val (pe_meth0 (pv 0) N.cl MB.m MB.G hr MB.b .nil pass0))
    (pss_one (ps_expr (pe_bm PySem.F.plainAttrs_list PySem.F.slot_list_append PySem.F.type_list_append mt_append (pv 1) (pa_cons (pe_tup pa_nil) pa_nil))))
    pss_nil)
  (pss_one (ps_ret (pe_tup (pa_cons (pe_fld (pv 0) rfl) (pa_cons (pe_fld (pv 0) rfl) (StX.pa_star (pv 1) pa_nil)))))))), ?_⟩
  obtain ⟨dx, bl, vc, ls, e1, e2, e3, hl2, hll, hp⟩ := hb.bods
  refine ⟨_, rfl, b, C, dx, _, _, rfl, e1, N.cl, N.nB, rfl, bl, rfl, ⟨_, SqL.of e3⟩, fun G nG => lc_list (K := K) (a := bl) (xs := ls.map V.ref) (fun i H' => Same H H' ∧ ∃ ts : List V, H' G = some (.lst ts) ∧ DpAll K (tupH H') ts (((bodsB bk).take i).map PyData.tuple)) ⟨same_new nG _, [], upd_same, .nil⟩ (fun i H' _ ⟨s1, _⟩ => SqL.of (s1 _ _ e3)) ?_ ?_⟩
  · rintro i y H1 hy ⟨s1, ts, eG, tp⟩
    rw [List.getElem?_map] at hy
    cases hu : ls[i]? with
    | none => rw [hu] at hy; cases hy
    | some l =>
    rw [hu] at hy
    cases hy
    have hi : i < ls.length := (List.getElem?_eq_some_iff.mp hu).1
    obtain ⟨ss, hss, xs, ex, dx'⟩ := paired_at hp hu
    refine ⟨rfl, ?_⟩
    dsimp only [tYes]
    rw [if_pos rfl]
    refine ⟨_, rfl, l, xs, rfl, .inl ⟨SqL.of (s1 _ _ ex), fun t nt => ?_⟩⟩
    have u2 := same_new nt (.tup xs)
    have d2 : Dt K (upd H1 t (.tup xs)) (.ref t) (.tuple ss) := new_tup nt (dpAll_mono (KeepT.of s1).same _ _ dx')
    generalize upd H1 t (.tup xs) = H2 at u2 d2 ⊢
    have hlt := dpAll_len tp
    rw [List.length_map, List.length_take] at hlt
    have k3 : KeepT H2 (upd H2 G (.lst (ts ++ [.ref t]))) := KeepT.upd ⟨_, u2 _ _ eG⟩
    refine ⟨ts, u2 _ _ eG, Nat.lt_of_le_of_lt (by omega : _ ≤ 10) (by decide), same_upd (s1.trans u2) nG _, ts ++ [.ref t], upd_same, ?_⟩
    rw [take_snoc hss, List.map_append]
    exact dpAll_append (dpAll_mono (((KeepT.of u2).trans k3).same) _ _ tp) (.cons (dp_mono k3.same _ _ d2) .nil)
  rintro H1 ⟨s1, ts, eG, tp⟩
  rw [List.length_map, hll, List.take_length] at tp
  have hlt := dpAll_len tp
  rw [List.length_map] at hlt
  dsimp only [List.set_cons_succ, List.set_cons_zero]
  have fin : ∀ (H2 : Hp) (zs : List V), Same H H2 → H2 G = some (.lst zs) → zs.length ≤ 10 → DpAll K (tupH H2) zs ((bodsB bk).map PyData.tuple ++ (if mayBranch bk = true then [.tuple []] else [])) → ∀ t, H2 t = none → Q (.ref t) (upd H2 t (.tup ([.str bk.w, vc] ++ zs))) := fun H2 zs s2 _ _ hz t nt => by
    refine q _ t (s2.trans (same_new nt _)) (s2.free nt) ?_
    rw [asStmt_eq]
    exact new_tup nt (.cons (.str _) (.cons (dp_mono (KeepT.of s2).same _ _ e2) hz))
  refine ⟨_, rfl, b, dx, _, rfl, s1 _ _ e1, rfl, b, bk, o, rfl, hb.same s1, _, rfl, ?_⟩
  cases hm : mayBranch bk with
  | true =>
    rw [hm] at fin
    refine iteT ⟨_, rfl, .inl ⟨rfl, _, SqL.of eG⟩, (by show 0 ≤ sizeLine; decide), fun t nt => ?_⟩
    have u2 := same_new nt (.tup [])
    have d2 : Dt K (upd H1 t (.tup [])) (.ref t) (.tuple []) := new_tup nt .nil
    generalize upd H1 t (.tup []) = H2 at u2 d2 ⊢
    have k3 : KeepT H2 (upd H2 G (.lst (ts ++ [.ref t]))) := KeepT.upd ⟨_, u2 _ _ eG⟩
    refine ⟨G, ts, _, rfl, rfl, u2 _ _ eG, Nat.lt_of_le_of_lt (by omega : _ ≤ 10) (by decide), ?_⟩
    have s3 : Same H (upd H2 G (.lst (ts ++ [.ref t]))) := same_upd (s1.trans u2) nG _
    have e3' : (upd H2 G (.lst (ts ++ [.ref t]))) G = some (.lst (ts ++ [.ref t])) := upd_same
    have d3 : DpAll K (tupH (upd H2 G (.lst (ts ++ [.ref t])))) (ts ++ [.ref t]) ((bodsB bk).map PyData.tuple ++ [.tuple []]) := dpAll_append (dpAll_mono (((KeepT.of u2).trans k3).same) _ _ tp) (.cons (dp_mono k3.same _ _ d2) .nil)
    generalize upd H2 G (.lst (ts ++ [.ref t])) = H3 at s3 e3' d3 ⊢
    refine ⟨_, rfl, b, C, dx, _, _, rfl, s3 _ _ e1, N.cl, N.nW, rfl, _, rfl, b, C, dx, _, _, rfl, s3 _ _ e1, N.cl, N.nC, rfl, _, rfl, G, _, rfl, .inr (SqL.of e3'), ?_, fun t' nt' => ?_⟩
    · rw [List.append_nil, List.length_cons, List.length_cons, List.length_append]
      exact Nat.le_trans (by show _ + 1 + 1 + 1 ≤ 20; omega : _ ≤ 20) (by decide)
    · rw [List.append_nil]
      exact fin H3 _ s3 e3' (by rw [List.length_append]; show ts.length + 1 ≤ 10; omega) d3 t' nt'
  | false =>
    rw [hm] at fin
    refine iteF ⟨_, rfl, b, C, dx, _, _, rfl, s1 _ _ e1, N.cl, N.nW, rfl, _, rfl, b, C, dx, _, _, rfl, s1 _ _ e1, N.cl, N.nC, rfl, _, rfl, G, _, rfl, .inr (SqL.of eG), ?_, fun t' nt' => ?_⟩
    · rw [List.append_nil, List.length_cons, List.length_cons]
      exact Nat.le_trans (by omega : _ ≤ 20) (by decide)
    · rw [List.append_nil]
      exact fin H1 _ s1 eG (by omega) (by rw [if_neg (by decide), List.append_nil]; exact tp) t' nt'
theorem scBI : FnScope ["self", "word", "condition"] ["self", "word", "condition"] (defScope sBI) := ⟨rfl, rfl, rfl, by decide +kernel, rfl, by decide +kernel, by decide +kernel⟩
theorem ok_BI {f C : Addr} {fd : FuncData} (F : Fun K "__init__" "Block.__init__" sBI f fd) (N : BNo K C) : FnOk P w K mg base CX0 1 f fd ["self", "word", "condition"] (spBI K C) := by
  refine F.ok scBI (fun vs H Q E h => ?_) (fun cdv A outer s H vs Q E hr h => ?_)
  · obtain ⟨b, dx, z, vc, c, rfl, _⟩ := h
    rfl
  obtain ⟨b, dx, z, vc, c, rfl, e0, hc, q⟩ := h
  refine ⟨_, (pss_cons (ps_fld (pv 0) (pv 1) rfl)
  (pss_cons (ps_fld (pv 0) (pv 2) rfl)
  (pss_one (ps_fld (pv 0) (pe_lst (pa_cons (pe_lst pa_nil) pa_nil)) rfl)))), ?_⟩
  refine ⟨_, rfl, _, rfl, b, C, dx, _, rfl, e0, N.cl, N.nW, (by show 0 < 1000; decide), ?_⟩
  refine ⟨_, rfl, _, rfl, b, C, dx, _, rfl, upd_same, N.cl, N.nC, (by show 1 < 1000; decide), ?_⟩
  have f1 : Fx [b] H (upd (upd H b (.ins C dx (putF "word" (.str z) []))) b (.ins C dx (putF "condition" vc (putF "word" (.str z) [])))) := (Fx.upd (by simp)).trans (Fx.upd (by simp))
  have e1 : (upd (upd H b (.ins C dx (putF "word" (.str z) []))) b (.ins C dx (putF "condition" vc (putF "word" (.str z) [])))) b = some (.ins C dx [("word", .str z), ("condition", vc)]) := upd_same
  have n1 : ∀ p, (upd (upd H b (.ins C dx (putF "word" (.str z) []))) b (.ins C dx (putF "condition" vc (putF "word" (.str z) [])))) p = none → H p = none := fun p e => by
    by_cases c : p = b
    · rw [c, upd_same] at e; cases e
    · rw [upd_ne c, upd_ne c] at e; exact e
  generalize upd (upd H b (.ins C dx (putF "word" (.str z) []))) b (.ins C dx (putF "condition" vc (putF "word" (.str z) []))) = H1 at f1 e1 n1 ⊢
  refine ⟨(by show 0 ≤ sizeLine; decide), fun l1 nl1 => ?_⟩
  have u2 := same_new nl1 (.lst [])
  have e2 : (upd H1 l1 (.lst [])) l1 = some (.lst []) := upd_same
  generalize upd H1 l1 (.lst []) = H2 at u2 e2 ⊢
  refine ⟨(by show 1 ≤ sizeLine; decide), fun bl nbl => ?_⟩
  have u3 := same_new nbl (.lst [.ref l1])
  have e3 : (upd H2 bl (.lst [.ref l1])) bl = some (.lst [.ref l1]) := upd_same
  generalize upd H2 bl (.lst [.ref l1]) = H3 at u3 e3 ⊢
  refine ⟨_, rfl, b, C, dx, _, rfl, u3 _ _ (u2 _ _ e1), N.cl, N.nB, (by show 2 < 1000; decide), ?_⟩
  have nb1 : l1 ≠ b := fun x => by rw [x, e1] at nl1; cases nl1
  have nb2 : bl ≠ b := fun x => by rw [x, u2 _ _ e1] at nbl; cases nbl
  have n12 : bl ≠ l1 := fun x => by rw [x, e2] at nbl; cases nbl
  have f4 : Fx [b] H (upd H3 b (.ins C dx (putF "bodies" (.ref bl) [("word", .str z), ("condition", vc)]))) := (f1.trans (Fx.of (u2.trans u3))).trans (Fx.upd (by simp))
  have kT : KeepT H (upd H3 b (.ins C dx (putF "bodies" (.ref bl) [("word", .str z), ("condition", vc)]))) :=
    ⟨fun p xs e => f4 _ _ (by simp; rintro rfl; rw [e0] at e; cases e) e, fun p o u e => f4 _ _ (by simp; rintro rfl; rw [e0] at e; cases e) e⟩
  refine q _ bl l1 f4 (n1 _ (u2.free nbl)) (n1 _ nl1) n12 ?_
  exact ⟨dx, vc, bl, l1, [], upd_same, dp_mono kT.same _ _ hc, by rw [upd_ne nb1]; exact u3 _ _ e2, .nil, .inl ⟨rfl, by rw [upd_ne nb2]; exact e3, rfl⟩⟩
end
end My

namespace My
open PySem L2 TL
/-! ### the reader on the heap -/
abbrev sDI : Stmt := inClass (top 31) 0
abbrev sDH : Stmt := inClass (top 31) 1
abbrev sDA : Stmt := inClass (top 31) 2
abbrev sDT : Stmt := inClass (top 31) 3
abbrev sDC : Stmt := inClass (top 31) 4
abbrev sDP : Stmt := inClass (top 31) 5
structure DNo (K : PySem.W.Frag) (C : Addr) : Prop where
  cl : Cls K C
  nK : NoAttr K C "kind"
  nM : NoAttr K C "many"
  nB : NoAttr K C "blocks"
def rdf (k : Str) (m : Nat) (lb : Addr) : List (Str × V) := [("kind", .str k), ("many", .int (m : Int)), ("blocks", .ref lb)]
inductive StkA (K : PySem.W.Frag) (H : Hp) (C : Addr) : List Addr → List Blk → List Addr → Prop
  | nil : StkA K H C [] [] []
  | cons {b : Addr} {bk : Blk} {o bs os : List Addr} {bks : List Blk} : BlkA K H C b bk o → StkA K H C bs bks os → StkA K H C (b :: bs) (bk :: bks) (o ++ os)
theorem StkA.len {K : PySem.W.Frag} {H : Hp} {C : Addr} : ∀ {bs os : List Addr} {bks : List Blk}, StkA K H C bs bks os → bs.length = bks.length
  | _, _, _, .nil => rfl
  | _, _, _, .cons _ t => by rw [List.length_cons, List.length_cons, t.len]
theorem StkA.lists {K : PySem.W.Frag} {H : Hp} {C : Addr} : ∀ {bs os : List Addr} {bks : List Blk}, StkA K H C bs bks os → ∀ p ∈ os, ∃ xs, H p = some (.lst xs)
  | _, _, _, .nil => fun p m => nomatch m
  | _, _, _, .cons h t => fun p m => by
    rcases List.mem_append.mp m with m | m
    · exact h.lists p m
    · exact t.lists p m
theorem StkA.obs {K : PySem.W.Frag} {H : Hp} {C : Addr} : ∀ {bs os : List Addr} {bks : List Blk}, StkA K H C bs bks os → ∀ b ∈ bs, ∃ dx z vc bl, H b = some (.ins C dx (bkf z vc bl))
  | _, _, _, .nil => fun p m => nomatch m
  | _, _, _, .cons h t => fun p m => by
    rcases List.mem_cons.mp m with rfl | m
    · obtain ⟨dx, vc, bl, l1, xs1, e1, _⟩ := h
      exact ⟨_, _, _, _, e1⟩
    · exact t.obs p m
theorem StkA.keep {K : PySem.W.Frag} {H H' : Hp} {C : Addr} {X : List Addr} (f : Fx X H H') (k : KeepT H H') : ∀ {bs os : List Addr} {bks : List Blk}, StkA K H C bs bks os → (∀ b ∈ bs, b ∉ X) → (∀ p ∈ os, p ∉ X) → StkA K H' C bs bks os
  | _, _, _, .nil, _, _ => .nil
  | _, _, _, .cons h t, hb, ho => .cons (h.keep f k (hb _ (List.mem_cons_self ..)) fun p m => ho p (List.mem_append.mpr (.inl m))) (t.keep f k (fun b m => hb b (List.mem_cons_of_mem _ m)) fun p m => ho p (List.mem_append.mpr (.inr m)))
structure RdA (K : PySem.W.Frag) (H0 H : Hp) (CR CB r dx lb : Addr) (bs os : List Addr) (k : Str) (S : RS) : Prop where
  ob : H r = some (.ins CR dx (rdf k S.many lb))
  hb : H lb = some (.lst (bs.reverse.map V.ref))
  st : StkA K H CB bs (S.top :: S.rest) os
  nd : (lb :: os).Nodup
  fr : H0 r = none
  fo : ∀ p ∈ lb :: os, H0 p = none
  sm : Same H0 H
theorem RdA.same {K : PySem.W.Frag} {H0 H H' : Hp} {CR CB r dx lb : Addr} {bs os : List Addr} {k : Str} {S : RS} (h : RdA K H0 H CR CB r dx lb bs os k S) (s : Same H H') : RdA K H0 H' CR CB r dx lb bs os k S :=
  ⟨s _ _ h.ob, s _ _ h.hb, h.st.keep (X := []) (Fx.of s) (KeepT.of s) (by simp) (by simp), h.nd, h.fr, h.fo, h.sm.trans s⟩
/-- the places of the blocks are no lists and not the reader's -/
theorem RdA.bl {K : PySem.W.Frag} {H0 H : Hp} {CR CB r dx lb : Addr} {bs os : List Addr} {k : Str} {S : RS} (h : RdA K H0 H CR CB r dx lb bs os k S) : ∀ b ∈ bs, b ∉ r :: lb :: os := fun b m z => by
  obtain ⟨dx', z', vc, bl, e⟩ := h.st.obs b m
  rcases List.mem_cons.mp z with rfl | z
  · rw [h.ob] at e
    have e' := Option.some.inj e
    injection e' with _ _ e'
    have : (("kind" : Str), V.str k) = (("word" : Str), V.str z') := by injection e'
    injection this with this _
    revert this
    decide +kernel
  · rcases List.mem_cons.mp z with rfl | z
    · rw [h.hb] at e; cases e
    · obtain ⟨xs, e2⟩ := h.st.lists b z
      rw [e2] at e; cases e
theorem RdA.rl {K : PySem.W.Frag} {H0 H : Hp} {CR CB r dx lb : Addr} {bs os : List Addr} {k : Str} {S : RS} (h : RdA K H0 H CR CB r dx lb bs os k S) : r ∉ lb :: os := fun z => by
  rcases List.mem_cons.mp z with rfl | z
  · have := h.ob; rw [h.hb] at this; cases this
  · obtain ⟨xs, e2⟩ := h.st.lists r z
    have := h.ob; rw [e2] at this; cases this
/-- what is written at the reader's own places leaves tuples as they are -/
theorem RdA.kt {K : PySem.W.Frag} {H0 H H' : Hp} {CR CB r dx lb : Addr} {bs os : List Addr} {k : Str} {S : RS} (h : RdA K H0 H CR CB r dx lb bs os k S) (f : Fx (r :: lb :: os) H H') : KeepT H H' := by
  have n : ∀ {p : Addr} {o : HO}, H p = some o → (∀ xs, o ≠ .lst xs) → (∀ C dx fs, o ≠ .ins C dx fs) → p ∉ r :: lb :: os := fun {p o} e n1 n2 z => by
    rcases List.mem_cons.mp z with rfl | z
    · rw [h.ob] at e; cases e; exact n2 _ _ _ rfl
    · rcases List.mem_cons.mp z with rfl | z
      · rw [h.hb] at e; cases e; exact n1 _ rfl
      · obtain ⟨xs, e2⟩ := h.st.lists p z
        rw [e2] at e; cases e; exact n1 _ rfl
  exact ⟨fun p xs e => f _ _ (n e (fun _ z => nomatch z) (fun _ _ _ z => nomatch z)) e, fun p o u e => f _ _ (n e (fun _ z => nomatch z) (fun _ _ _ z => nomatch z)) e⟩
theorem RdA.sm' {K : PySem.W.Frag} {H0 H H' : Hp} {CR CB r dx lb : Addr} {bs os : List Addr} {k : Str} {S : RS} (h : RdA K H0 H CR CB r dx lb bs os k S) (f : Fx (r :: lb :: os) H H') : Same H0 H' :=
  Fx.same h.sm (fun p m => by
    rcases List.mem_cons.mp m with rfl | m
    · exact h.fr
    · exact h.fo p m) f
/-- a block's last body -/
theorem BlkA.last {K : PySem.W.Frag} {H : Hp} {C b : Addr} {bk : Blk} {o : List Addr} (h : BlkA K H C b bk o) (hn : o.Nodup) : ∃ (dx bl : Addr) (vc : V) (ys : List V) (l : Addr) (xs : List V), H b = some (.ins C dx (bkf bk.w vc bl)) ∧ H bl = some (.lst (ys ++ [.ref l])) ∧ H l = some (.lst xs) ∧ l ∈ o ∧ (xs.length = bk.b1.length ∨ ∃ x, bk.b2 = some x ∧ xs.length = x.length) ∧
    ∀ H', Same H H' → ∀ v d, Dt K H' v d → BlkA K (upd H' l (.lst (xs ++ [v]))) C b (addL [d] bk) o := by
  obtain ⟨dx, vc, bl, l1, xs1, e1, e2, e3, e4, e5⟩ := h
  obtain ⟨bw, bc, b1, b2⟩ := bk
  rcases e5 with ⟨e5, e6, rfl⟩ | ⟨s2, l2, xs2, e5, e6, e7, e8, rfl⟩
  · cases (show b2 = none from e5)
    refine ⟨dx, bl, vc, [], l1, xs1, e1, e6, e3, by simp, .inl (dpAll_len e4), fun H' s v d hd => ?_⟩
    have k : KeepT H' (upd H' l1 (.lst (xs1 ++ [v]))) := KeepT.upd ⟨_, s _ _ e3⟩
    have k2 := (KeepT.of s).trans k
    have n1 : b ≠ l1 := fun z => by rw [z, e3] at e1; cases e1
    have n2 : bl ≠ l1 := by simp at hn; exact hn
    exact ⟨dx, vc, bl, l1, xs1 ++ [v], by rw [upd_ne n1]; exact s _ _ e1, dp_mono k2.same _ _ e2, upd_same, dpAll_append (dpAll_mono k2.same _ _ e4) (.cons (dp_mono k.same _ _ hd) .nil), .inl ⟨rfl, by rw [upd_ne n2]; exact s _ _ e6, rfl⟩⟩
  · cases (show b2 = some s2 from e5)
    refine ⟨dx, bl, vc, [.ref l1], l2, xs2, e1, e6, e7, by simp, .inr ⟨s2, rfl, dpAll_len e8⟩, fun H' s v d hd => ?_⟩
    have k : KeepT H' (upd H' l2 (.lst (xs2 ++ [v]))) := KeepT.upd ⟨_, s _ _ e7⟩
    have k2 := (KeepT.of s).trans k
    have n1 : b ≠ l2 := fun z => by rw [z, e7] at e1; cases e1
    have hn' : (¬ bl = l1 ∧ ¬ bl = l2) ∧ ¬ l1 = l2 := by simpa using hn
    exact ⟨dx, vc, bl, l1, xs1, by rw [upd_ne n1]; exact s _ _ e1, dp_mono k2.same _ _ e2, by rw [upd_ne hn'.2]; exact s _ _ e3, dpAll_mono k2.same _ _ e4, .inr ⟨s2 ++ [d], l2, xs2 ++ [v], rfl, by rw [upd_ne hn'.1.2]; exact s _ _ e6, upd_same, dpAll_append (dpAll_mono k2.same _ _ e8) (.cons (dp_mono k.same _ _ hd) .nil), rfl⟩⟩
theorem eqv_word (ds : List PyData) (z : Str) : PyData.eqv (.tuple ds) (.tuple [.str z]) = isW (.tuple ds) z := by
  cases ds with
  | nil => simp [PyData.eqv, PyData.eqvAll, isW]
  | cons d r =>
    cases r with
    | nil =>
      cases d with
      | str x =>
        have e : (x == z) = decide (x = z) := by
          by_cases c : x = z
          · subst c; simp
          · rw [decide_eq_false c]; exact beq_false_of_ne c
        simp [PyData.eqv, PyData.eqvAll, isW, e]
      | _ => simp [PyData.eqv, PyData.eqvAll, isW]
    | cons e r => simp [PyData.eqv, PyData.eqvAll, isW]
def spDH (K : PySem.W.Frag) (CR CB : Addr) : Sp := fun vs H Q _ => ∃ (H0 : Hp) (r dx lb : Addr) (bs os : List Addr) (k : Str) (S : RS), vs = [.ref r] ∧ RdA K H0 H CR CB r dx lb bs os k S ∧ Q (.bl (hasRoom S)) H
def spDC (K : PySem.W.Frag) (CR CB : Addr) : Sp := fun vs H Q _ => ∃ (H0 : Hp) (r dx lb : Addr) (bs os : List Addr) (k : Str) (S : RS), vs = [.ref r] ∧ RdA K H0 H CR CB r dx lb bs os k S ∧ Q (.bl (decide (S.rest = []))) H
def spDP (K : PySem.W.Frag) (CR CB : Addr) : Sp := fun vs H Q _ => ∃ (H0 : Hp) (r dx lb : Addr) (bs os : List Addr) (k : Str) (S : RS), vs = [.ref r] ∧ RdA K H0 H CR CB r dx lb bs os k S ∧ S.rest = [] ∧ ∀ H' p, Same H H' → H p = none → Dt K H' (.ref p) (.tuple [.str k, .tuple S.top.b1]) → Q (.ref p) H'
def spDA (K : PySem.W.Frag) (CR CB : Addr) : Sp := fun vs H Q _ => ∃ (H0 : Hp) (r dx lb : Addr) (bs os : List Addr) (k : Str) (S : RS) (v : V) (ds : List PyData), vs = [.ref r, v] ∧ RdA K H0 H CR CB r dx lb bs os k S ∧ Dt K H v (.tuple ds) ∧ Lay (.tuple ds) ∧ SeqAt.shaped (.tuple ds) = true ∧ (ds ≠ [] → ∃ w r, ds = .str w :: r) ∧ ∀ H', Same H H' → Q (.bl (allowsF k S (.tuple ds))) H'
section
variable {P : Program} {w : World} {K : PySem.W.Frag} {mg : Str → Option Value} {base : Heap}
theorem scDH : FnScope ["self"] ["self"] (defScope sDH) := ⟨rfl, rfl, rfl, by decide +kernel, rfl, by decide +kernel, by decide +kernel⟩
theorem ok_DH {f CR CB : Addr} {fd : FuncData} (F : Fun K "has_room" "Reader.has_room" sDH f fd) (T : Gs K mg) (N : DNo K CR) : FnOk P w K mg base CX0 1 f fd ["self"] (spDH K CR CB) := by
  refine F.ok scDH (fun vs H Q E h => ?_) (fun cdv A outer s H vs Q E hr h => ?_)
  · obtain ⟨H0, r, dx, lb, bs, os, k, S, rfl, _⟩ := h
    rfl
  obtain ⟨H0, r, dx, lb, bs, os, k, S, rfl, h, q⟩ := h
  refine ⟨_, (pss_one (ps_ret (pe_and (pe_cmpR op_lt (pe_fld (pv 0) rfl) (pe_gint rfl T.mS) (nomark _)) (pe_one (pe_cmpR op_le (pe_callB call_len_seq (by rfl) T.len PySem.boot_len (pa_cons (pe_fld (pv 0) rfl) pa_nil)) (pe_gint rfl T.mD) (nomark _)))))), ?_⟩
  have hl := h.st.len
  rw [List.length_cons] at hl
  refine ⟨_, rfl, r, CR, dx, _, _, rfl, h.ob, N.cl, N.nM, rfl, _, _, rfl, rfl, _, rfl, ?_⟩
  unfold hasRoom at q
  by_cases c : S.many < 24
  · refine ite2 (fun _ => ?_) (fun n => absurd (decide_eq_true (show ((S.many : Nat) : Int) < 24 by omega)) n)
    rw [decide_eq_true c, Bool.true_and] at q
    refine ⟨_, rfl, r, CR, dx, _, _, rfl, h.ob, N.cl, N.nB, rfl, lb, _, rfl, .inl (SqL.of h.hb), _, _, rfl, rfl, ?_⟩
    show Q (.bl (decide ((((bs.reverse.map V.ref).length : Nat) : Int) ≤ 4))) H
    rw [List.length_map, List.length_reverse, show decide (((bs.length : Nat) : Int) ≤ 4) = decide (S.rest.length + 1 ≤ 4) from decide_eq_decide.mpr (by omega)]
    exact q
  · refine ite2 (fun n => absurd (of_decide_eq_true n) (show ¬ ((S.many : Nat) : Int) < 24 by omega)) (fun _ => ?_)
    rw [decide_eq_false c, Bool.false_and] at q
    exact q
theorem scDC : FnScope ["self"] ["self"] (defScope sDC) := ⟨rfl, rfl, rfl, by decide +kernel, rfl, by decide +kernel, by decide +kernel⟩
theorem ok_DC {f CR CB : Addr} {fd : FuncData} (F : Fun K "is_complete" "Reader.is_complete" sDC f fd) (T : Gs K mg) (N : DNo K CR) : FnOk P w K mg base CX0 1 f fd ["self"] (spDC K CR CB) := by
  refine F.ok scDC (fun vs H Q E h => ?_) (fun cdv A outer s H vs Q E hr h => ?_)
  · obtain ⟨H0, r, dx, lb, bs, os, k, S, rfl, _⟩ := h
    rfl
  obtain ⟨H0, r, dx, lb, bs, os, k, S, rfl, h, q⟩ := h
  refine ⟨_, (pss_one (ps_ret (pe_cmpR op_eq (pe_callB call_len_seq (by rfl) T.len PySem.boot_len (pa_cons (pe_fld (pv 0) rfl) pa_nil)) pe_int (nomark _)))), ?_⟩
  have hl := h.st.len
  rw [List.length_cons] at hl
  refine ⟨_, rfl, r, CR, dx, _, _, rfl, h.ob, N.cl, N.nB, rfl, lb, _, rfl, .inl (SqL.of h.hb), rfl, ?_⟩
  show Q (.bl (decide (V.int (((bs.reverse.map V.ref).length : Nat) : Int) = V.int 1))) H
  have e : decide (V.int (((bs.reverse.map V.ref).length : Nat) : Int) = V.int 1) = decide (S.rest = []) := decide_eq_decide.mpr (by
    rw [List.length_map, List.length_reverse, hl]
    constructor
    · intro e
      injection e with e
      exact List.eq_nil_of_length_eq_zero (by omega)
    · intro e
      rw [e]
      rfl)
  rw [e]
  exact q
theorem scDP : FnScope ["self"] ["self"] (defScope sDP) := ⟨rfl, rfl, rfl, by decide +kernel, rfl, by decide +kernel, by decide +kernel⟩
theorem ok_DP {f CR CB : Addr} {fd : FuncData} (F : Fun K "as_program" "Reader.as_program" sDP f fd) (T : Gs K mg) (N : DNo K CR) (NB : BNo K CB) : FnOk P w K mg base CX0 1 f fd ["self"] (spDP K CR CB) := by
  refine F.ok scDP (fun vs H Q E h => ?_) (fun cdv A outer s H vs Q E hr h => ?_)
  · obtain ⟨H0, r, dx, lb, bs, os, k, S, rfl, _⟩ := h
    rfl
  obtain ⟨H0, r, dx, lb, bs, os, k, S, rfl, h, hS, q⟩ := h
  refine ⟨_, (pss_one (ps_ret (pe_tup (pa_cons (pe_fld (pv 0) rfl) (pa_cons (pe_callTy call_tuple_of (by rfl) T.tup (by decide +kernel) (pa_cons (pe_ix ix_list (pe_fld (pe_ix ix_list (pe_fld (pv 0) rfl) pe_int (fun _ _ => rfl)) rfl) pe_int (fun _ _ => rfl)) pa_nil)) pa_nil))))), ?_⟩
  have hst := h.st
  rw [hS] at hst
  have hhb := h.hb
  cases hst with
  | cons hb1 t =>
  cases t
  rename_i b o
  obtain ⟨dx', bl, vc, ls, e1, e2, e3, hl2, hll, hp⟩ := hb1.bods
  cases hp with
  | @cons l ss ls' sss hx hp' =>
  obtain ⟨xs, ex, dxs⟩ := hx
  refine ⟨_, rfl, r, CR, dx, _, _, rfl, h.ob, N.cl, N.nK, rfl, _, rfl, r, CR, dx, _, _, rfl, h.ob, N.cl, N.nB, rfl, lb, _, _, _, rfl, rfl, SqL.of hhb, atI_nat (j := 0) rfl, b, CB, dx', _, _, rfl, e1, NB.cl, NB.nB, rfl, bl, _, _, _, rfl, rfl, SqL.of e3, atI_nat (j := 0) rfl, l, xs, rfl, .inl ⟨SqL.of ex, fun t nt => ?_⟩⟩
  have u2 := same_new nt (.tup xs)
  have d2 : Dt K (upd H t (.tup xs)) (.ref t) (.tuple S.top.b1) := new_tup nt dxs
  generalize upd H t (.tup xs) = H2 at u2 d2 ⊢
  refine ⟨(by show 2 ≤ sizeLine; decide), fun t' nt' => ?_⟩
  exact q _ t' (u2.trans (same_new nt' _)) (u2.free nt') (new_tup nt' (.cons (.str _) (.cons d2 .nil)))
theorem shaped_word (z : Str) (h : PyData.strOk z = true) : SeqAt.shaped (.tuple [.str z]) = true := by
  show ((PyData.tuple [.str z]).canLay0 && decide (_ ≤ 64)) = true
  rw [Bool.and_eq_true]
  refine ⟨lay_tuple fun d m => ?_, decide_eq_true (by simp only [PyData.depth, PyData.depthAll]; decide)⟩
  rw [List.mem_singleton.mp m]
  exact lay_str h
/-- parts == (z,) -/
theorem eq_word {H : Hp} {v : V} {ds : List PyData} {z : Str} {t : Addr} {Q : VK} (hd : Dp K H v (.tuple ds)) (sh : SeqAt.shaped (.tuple ds) = true) (hz : PyData.strOk z = true) (et : H t = some (.tup [.str z])) (q : Q (.bl (isW (.tuple ds) z)) H) : rEqD K v (.ref t) H Q := by
  refine ⟨.tuple ds, .tuple [.str z], hd, .tup (SqT.of et) (.cons (.str _) .nil), sh, shaped_word z hz, ?_⟩
  rw [eqv_word]
  exact q
theorem scDA : FnScope ["self", "parts", "block"] ["self", "parts"] (defScope sDA) := ⟨rfl, rfl, rfl, by decide +kernel, rfl, by decide +kernel, by decide +kernel⟩
theorem ok_DA {f CR CB : Addr} {fd : FuncData} (F : Fun K "allows" "Reader.allows" sDA f fd) (N : DNo K CR) (NB : BNo K CB) (ME : MCl P w K mg base 1 CB "may_end" ["self"] (spME K CB)) (MB : MCl P w K mg base 1 CB "may_branch" ["self"] (spMB K CB)) (MH : MCl P w K mg base 1 CR "has_room" ["self"] (spDH K CR CB))
    (CO : Cal P w K mg base 5 "is_opening" ["parts"] (spOpn K)) (CP : Cal P w K mg base 5 "is_plain_statement" ["thing", "kind"] (sp2 isPlain K)) : FnOk P w K mg base CX0 6 f fd ["self", "parts"] (spDA K CR CB) := by
  refine F.ok scDA (fun vs H Q E h => ?_) (fun cdv A outer s H vs Q E hr h => ?_)
  · obtain ⟨H0, r, dx, lb, bs, os, k, S, v, ds, rfl, _⟩ := h
    rfl
  obtain ⟨H0, r, dx, lb, bs, os, k, S, v, ds, rfl, h, hd, hly, hsh, hw, q⟩ := h
  have hr1 : Room 1 _ := hr.mono (by decide)
  refine ⟨_, (pss_cons (ps_set (i := 2) scDA.nd rfl (.inl rfl) (pe_ix ix_list (pe_fld (pv 0) rfl) (pe_un un_neg pe_int) (fun _ _ => rfl)))
  (pss_cons (ps_if (pt_cmpR (op_eqD hr.units) (pv 1) (pe_tup (pa_cons pe_str pa_nil)) (nomark _))
    (pss_one (ps_ret (pe_meth0 (pv 2) NB.cl ME.m ME.G hr1 ME.b .nil pass0)))
    pss_nil)
  (pss_cons (ps_if (pt_not (pt_val (pe_meth0 (pv 0) N.cl MH.m MH.G hr1 MH.b .nil pass0)))
    (pss_one (ps_ret pe_bl))
    pss_nil)
  (pss_cons (ps_if (pt_cmpR (op_eqD hr.units) (pv 1) (pe_tup (pa_cons pe_str pa_nil)) (nomark _))
    (pss_one (ps_ret (pe_meth0 (pv 2) NB.cl MB.m MB.G hr1 MB.b .nil pass0)))
    pss_nil)
  (pss_one (ps_ret (pe_or (pe_call CO.G hr rfl CO.m CO.kp CO.b .nil pass0 (pa_cons (pv 1) pa_nil)) (pe_one (pe_call CP.G hr rfl CP.m CP.kp CP.b .nil pass0 (pa_cons (pv 1) (pa_cons (pe_fld (pv 0) rfl) pa_nil))))))))))), ?_⟩
  obtain ⟨b, bs', rfl⟩ : ∃ b bs', bs = b :: bs' := by
    cases h.st with
    | cons _ _ => exact ⟨_, _, rfl⟩
  obtain ⟨o, hb⟩ : ∃ o, BlkA K H CB b S.top o := by
    cases h.st with
    | cons h1 _ => exact ⟨_, h1⟩
  have hlb : H lb = some (.lst (bs'.reverse.map V.ref ++ [.ref b])) := by
    have := h.hb
    rw [List.reverse_cons, List.map_append] at this
    exact this
  refine ⟨_, rfl, r, CR, dx, _, _, rfl, h.ob, N.cl, N.nB, rfl, _, rfl, lb, _, _, _, rfl, rfl, SqL.of hlb, atI_last _ _, ?_⟩
  dsimp only [List.set_cons_succ, List.set_cons_zero]
  refine ⟨_, rfl, (by show 1 ≤ sizeLine; decide), fun t1 nt1 => ?_⟩
  have u1 := same_new nt1 (.tup [.str "end"])
  have e1 : (upd H t1 (.tup [.str "end"])) t1 = some (.tup [.str "end"]) := upd_same
  generalize upd H t1 (.tup [.str "end"]) = H1 at u1 e1 ⊢
  have hd1 : Dp K H1 v (.tuple ds) := dp_mono (tupH_same H1) _ _ (dp_mono (KeepT.of u1).same _ _ hd)
  refine eq_word hd1 hsh (by decide +kernel) e1 ⟨_, rfl, ?_⟩
  unfold allowsF at q
  have hb1 := hb.same u1
  have h1 := h.same u1
  obtain ⟨dxb, vcb, blb, _, _, eb1, _⟩ := hb1
  cases c1 : isW (.tuple ds) "end" with
  | true =>
    rw [if_pos c1] at q
    exact iteT ⟨_, rfl, b, dxb, _, rfl, eb1, rfl, b, S.top, o, rfl, hb.same u1, q _ u1⟩
  | false =>
    rw [if_neg (by rw [c1]; decide)] at q
    refine iteF ⟨_, rfl, r, dx, _, rfl, h1.ob, rfl, H0, r, dx, lb, _, _, k, S, rfl, h1, _, rfl, ?_⟩
    cases c2 : hasRoom S with
    | false =>
      rw [if_pos c2] at q
      exact iteT (q _ u1)
    | true =>
      rw [if_neg (by rw [c2]; decide)] at q
      refine iteF ⟨_, rfl, (by show 1 ≤ sizeLine; decide), fun t2 nt2 => ?_⟩
      have u2 := same_new nt2 (.tup [.str "else"])
      have e2 : (upd H1 t2 (.tup [.str "else"])) t2 = some (.tup [.str "else"]) := upd_same
      generalize upd H1 t2 (.tup [.str "else"]) = H2 at u2 e2 ⊢
      have u12 := u1.trans u2
      have hd2 : Dp K H2 v (.tuple ds) := dp_mono u2 _ _ hd1
      refine eq_word hd2 hsh (by decide +kernel) e2 ⟨_, rfl, ?_⟩
      cases c3 : isW (.tuple ds) "else" with
      | true =>
        rw [if_pos c3] at q
        exact iteT ⟨_, rfl, b, dxb, _, rfl, u2 _ _ eb1, rfl, b, S.top, o, rfl, hb.same u12, q _ u12⟩
      | false =>
        rw [if_neg (by rw [c3]; decide)] at q
        refine iteF ⟨_, rfl, v, ds, rfl, hd2, hly, hw, _, rfl, ?_⟩
        cases c4 : isOpen (.tuple ds) with
        | true =>
          rw [c4, Bool.true_or] at q
          exact iteT (q _ u12)
        | false =>
          rw [c4, Bool.false_or] at q
          refine iteF ⟨_, rfl, _, rfl, r, CR, dx, _, _, rfl, u2 _ _ h1.ob, N.cl, N.nK, rfl, v, .tuple ds, k, rfl, hd2, hly, fun H3 u3 => q _ (u12.trans u3)⟩
end
end My

namespace My
open PySem L2 TL
/-! ### the reader takes a line -/
def lenOk (N : Nat) (S : RS) : Prop := ∀ b ∈ S.top :: S.rest, b.b1.length ≤ N ∧ ∀ x, b.b2 = some x → x.length ≤ N
theorem lenOk_last {N : Nat} {b : Blk} {n : Nat} (h : b.b1.length ≤ N ∧ ∀ x, b.b2 = some x → x.length ≤ N) (hn : n = b.b1.length ∨ ∃ x, b.b2 = some x ∧ n = x.length) : n ≤ N := by
  rcases hn with rfl | ⟨x, e, rfl⟩
  · exact h.1
  · exact h.2 x e
def spDT (K : PySem.W.Frag) (CR CB : Addr) : Sp := fun vs H Q _ => ∃ (H0 : Hp) (r dx lb : Addr) (bs os : List Addr) (k : Str) (S : RS) (v : V) (ds : List PyData) (N : Nat), vs = [.ref r, v] ∧ RdA K H0 H CR CB r dx lb bs os k S ∧ lenOk N S ∧ N ≤ 100000 ∧ S.rest.length ≤ 100 ∧ Dt K H v (.tuple ds) ∧ Lay (.tuple ds) ∧ SeqAt.shaped (.tuple ds) = true ∧ (ds ≠ [] → ∃ w r, ds = .str w :: r) ∧ (isW (.tuple ds) "end" = true → S.rest ≠ []) ∧ (isW (.tuple ds) "else" = true → S.top.b2 = none) ∧
  ∀ H' bs' os', RdA K H0 H' CR CB r dx lb bs' os' k (takeF S (.tuple ds)) → KeepT H H' → Q .non H'
theorem made_free {H : Hp} {x dx p : Addr} {o : HO} (h : (upd (upd H dx (.own x)) x o) p = none) : H p = none := by
  by_cases c : p = x
  · rw [c, upd_same] at h; cases h
  · rw [upd_ne c] at h
    by_cases c2 : p = dx
    · rw [c2, upd_same] at h; cases h
    · rw [upd_ne c2] at h; exact h
theorem RdA.more {K : PySem.W.Frag} {H0 H : Hp} {CR CB r dx lb : Addr} {bs os : List Addr} {k : Str} {S : RS} (h : RdA K H0 H CR CB r dx lb bs os k S) : RdA K H0 (upd H r (.ins CR dx (rdf k (S.many + 1) lb))) CR CB r dx lb bs os k ⟨S.many + 1, S.top, S.rest⟩ ∧ KeepT H (upd H r (.ins CR dx (rdf k (S.many + 1) lb))) := by
  have f : Fx [r] H (upd H r (.ins CR dx (rdf k (S.many + 1) lb))) := Fx.upd (by simp)
  have f' : Fx (r :: lb :: os) H (upd H r (.ins CR dx (rdf k (S.many + 1) lb))) := f.mono (fun x m => by
    have : x = r := by simpa using m
    rw [this]; simp)
  have kT := h.kt f'
  refine ⟨⟨upd_same, ?_, h.st.keep f kT (fun b m z => h.bl b m (by
    have : b = r := by simpa using z
    rw [this]; simp)) (fun p m z => h.rl (by
    have : p = r := by simpa using z
    rw [← this]; exact List.mem_cons_of_mem _ m)), h.nd, h.fr, h.fo, h.sm' f'⟩, kT⟩
  rw [upd_ne (fun z : lb = r => h.rl (by rw [← z]; simp))]
  exact h.hb
theorem RdA.setTop {K : PySem.W.Frag} {H0 H : Hp} {CR CB r dx lb b l : Addr} {bs' o os' : List Addr} {k : Str} {S : RS} {bk : Blk} {xs : List V} (h : RdA K H0 H CR CB r dx lb (b :: bs') (o ++ os') k S) (ht : StkA K H CB bs' S.rest os') (hl : l ∈ o) (hb : BlkA K (upd H l (.lst xs)) CB b bk o) : RdA K H0 (upd H l (.lst xs)) CR CB r dx lb (b :: bs') (o ++ os') k ⟨S.many, bk, S.rest⟩ ∧ KeepT H (upd H l (.lst xs)) := by
  have f : Fx [l] H (upd H l (.lst xs)) := Fx.upd (by simp)
  have lm : l ∈ lb :: (o ++ os') := List.mem_cons_of_mem _ (List.mem_append.mpr (.inl hl))
  have f' : Fx (r :: lb :: (o ++ os')) H (upd H l (.lst xs)) := f.mono (fun x m => by
    have : x = l := by simpa using m
    rw [this]; exact List.mem_cons_of_mem _ lm)
  have kT := h.kt f'
  have hn := List.nodup_cons.mp h.nd
  refine ⟨⟨f _ _ (fun z => h.rl (by
    have : r = l := by simpa using z
    rw [this]; exact lm)) h.ob, ?_, .cons hb (ht.keep f kT (fun x m z => h.bl x (List.mem_cons_of_mem _ m) (by
    have : x = l := by simpa using z
    rw [this]; exact List.mem_cons_of_mem _ lm)) (fun p m z => by
    have : p = l := by simpa using z
    rw [this] at m
    exact (List.nodup_append.mp hn.2).2.2 l hl l m rfl)), h.nd, h.fr, h.fo, h.sm' f'⟩, kT⟩
  rw [upd_ne (fun z : lb = l => hn.1 (by rw [z]; exact List.mem_append.mpr (.inl hl)))]
  exact h.hb
section
variable {P : Program} {w : World} {K : PySem.W.Frag} {mg : Str → Option Value} {base : Heap}
theorem scDT : FnScope ["self", "parts", "block"] ["self", "parts"] (defScope sDT) := ⟨rfl, rfl, rfl, by decide +kernel, rfl, by decide +kernel, by decide +kernel⟩
theorem ok_DT {f CR CB fB : Addr} {fd dB : FuncData} (F : Fun K "take" "Reader.take" sDT f fd) (N : DNo K CR) (NB : BNo K CB) (MA : MCl P w K mg base 2 CB "as_statement" ["self"] (spAS K CB)) (CO : Cal P w K mg base 5 "is_opening" ["parts"] (spOpn K))
    (gB : mg "Block" = some (.ref CB)) (BM : Mk K CB fB) (BG : FnOk P w K mg base CX0 1 fB dB ["self", "word", "condition"] (spBI K CB)) (bB : Binds K dB ["self", "word", "condition"] []) : FnOk P w K mg base CX0 6 f fd ["self", "parts"] (spDT K CR CB) := by
  refine F.ok scDT (fun vs H Q E h => ?_) (fun cdv A outer s H vs Q E hr h => ?_)
  · obtain ⟨H0, r, dx, lb, bs, os, k, S, v, ds, n, rfl, _⟩ := h
    rfl
  obtain ⟨H0, r, dx, lb, bs, os, k, S, v, ds, n, rfl, h, hlen, hN, hrl, hd, hly, hsh, hw, hend, hels, q⟩ := h
  have hr2 : Room 2 _ := hr.mono (by decide)
  refine ⟨_, (pss_cons (ps_set (i := 2) scDT.nd rfl (.inl rfl) (pe_ix ix_list (pe_fld (pv 0) rfl) (pe_un un_neg pe_int) (fun _ _ => rfl)))
  (pss_one (ps_if (pt_cmpR (op_eqD hr.units) (pv 1) (pe_tup (pa_cons pe_str pa_nil)) (nomark _))
    (pss_cons (ps_expr (pe_bm0 PySem.F.plainAttrs_list PySem.F.slot_list_pop PySem.F.type_list_pop mt_pop (pe_fld (pv 0) rfl)))
    (pss_one (ps_expr (pe_bm PySem.F.plainAttrs_list PySem.F.slot_list_append PySem.F.type_list_append mt_append (pe_ix ix_list (pe_fld (pe_ix ix_list (pe_fld (pv 0) rfl) (pe_un un_neg pe_int) (fun _ _ => rfl)) rfl) (pe_un un_neg pe_int) (fun _ _ => rfl)) (pa_cons (pe_meth0 (pv 2) NB.cl MA.m MA.G hr2 MA.b .nil pass0) pa_nil)))))
    (pss_one (ps_if (pt_cmpR (op_eqD hr.units) (pv 1) (pe_tup (pa_cons pe_str pa_nil)) (nomark _))
      (pss_one (ps_expr (pe_bm PySem.F.plainAttrs_list PySem.F.slot_list_append PySem.F.type_list_append mt_append (pe_fld (pv 2) rfl) (pa_cons (pe_lst pa_nil) pa_nil))))
      (pss_cons (ps_fldaug (pv 0) pe_int in_add)
      (pss_one (ps_if (pt_val (pe_call CO.G hr rfl CO.m CO.kp CO.b .nil pass0 (pa_cons (pv 1) pa_nil)))
        (pss_one (ps_expr (pe_bm PySem.F.plainAttrs_list PySem.F.slot_list_append PySem.F.type_list_append mt_append (pe_fld (pv 0) rfl) (pa_cons (pe_make BM BG hr2 rfl gB bB .nil pass0 (pa_cons (pe_ix ix_tup (pv 1) pe_int (fun _ _ => rfl)) (pa_cons (pe_ix ix_tup (pv 1) pe_int (fun _ _ => rfl)) pa_nil))) pa_nil))))
        (pss_one (ps_expr (pe_bm PySem.F.plainAttrs_list PySem.F.slot_list_append PySem.F.type_list_append mt_append (pe_ix ix_list (pe_fld (pv 2) rfl) (pe_un un_neg pe_int) (fun _ _ => rfl)) (pa_cons (pv 1) pa_nil)))))))))))), ?_⟩
  obtain ⟨b, bs', o, os', rfl, rfl, hb, ht⟩ : ∃ b bs' o os', bs = b :: bs' ∧ os = o ++ os' ∧ BlkA K H CB b S.top o ∧ StkA K H CB bs' S.rest os' := by
    cases h.st with
    | cons h1 h2 => exact ⟨_, _, _, _, rfl, rfl, h1, h2⟩
  have hlb : H lb = some (.lst (bs'.reverse.map V.ref ++ [.ref b])) := by
    have := h.hb
    rw [List.reverse_cons, List.map_append] at this
    exact this
  have hnd := h.nd
  have hbl := h.bl
  have hrl' := h.rl
  refine ⟨_, rfl, r, CR, dx, _, _, rfl, h.ob, N.cl, N.nB, rfl, _, rfl, lb, _, _, _, rfl, rfl, SqL.of hlb, atI_last _ _, ?_⟩
  dsimp only [List.set_cons_succ, List.set_cons_zero]
  refine ⟨_, rfl, (by show 1 ≤ sizeLine; decide), fun t1 nt1 => ?_⟩
  have u1 := same_new nt1 (.tup [.str "end"])
  have e1 : (upd H t1 (.tup [.str "end"])) t1 = some (.tup [.str "end"]) := upd_same
  generalize upd H t1 (.tup [.str "end"]) = H1 at u1 e1 ⊢
  have hd1 : Dp K H1 v (.tuple ds) := dp_mono (tupH_same H1) _ _ (dp_mono (KeepT.of u1).same _ _ hd)
  have h1 := h.same u1
  refine eq_word hd1 hsh (by decide +kernel) e1 ⟨_, rfl, ?_⟩
  unfold takeF at q
  cases c1 : isW (.tuple ds) "end" with
  | true =>
    rw [if_pos c1] at q
    refine iteT ?_
    obtain ⟨nb, rs, hrs⟩ : ∃ nb rs, S.rest = nb :: rs := by
      cases e : S.rest with
      | nil => exact absurd e (hend c1)
      | cons a t => exact ⟨a, t, rfl⟩
    rw [hrs] at ht q
    dsimp only at q
    obtain ⟨b2, bs2, o2, os2, rfl, rfl, hb2, ht2⟩ : ∃ b2 bs2 o2 os2, bs' = b2 :: bs2 ∧ os' = o2 ++ os2 ∧ BlkA K H CB b2 nb o2 ∧ StkA K H CB bs2 rs os2 := by
      cases ht with
      | cons a t => exact ⟨_, _, _, _, rfl, rfl, a, t⟩
    have hnd' := List.nodup_cons.mp hnd
    have hlbo : ∀ p ∈ o ++ (o2 ++ os2), p ≠ lb := fun p m z => hnd'.1 (z ▸ m)
    have hnd2 := (List.nodup_append.mp hnd'.2)
    have hnd3 := List.nodup_append.mp hnd2.2.1
    refine ⟨_, rfl, r, CR, dx, _, _, rfl, h1.ob, N.cl, N.nB, rfl, .inl ⟨rfl, _, SqL.of (u1 _ _ hlb)⟩, lb, _, .ref b, rfl, rfl, u1 _ _ hlb, (by simp), ?_⟩
    rw [List.dropLast_concat]
    have f2 : Fx [lb] H1 (upd H1 lb (.lst ((b2 :: bs2).reverse.map V.ref))) := Fx.upd (by simp)
    have k2 : KeepT H1 (upd H1 lb (.lst ((b2 :: bs2).reverse.map V.ref))) := KeepT.upd ⟨_, u1 _ _ hlb⟩
    have e2 : (upd H1 lb (.lst ((b2 :: bs2).reverse.map V.ref))) lb = some (.lst ((b2 :: bs2).reverse.map V.ref)) := upd_same
    generalize upd H1 lb (.lst ((b2 :: bs2).reverse.map V.ref)) = H2 at f2 k2 e2 ⊢
    have nlb : ∀ x, x ∈ b :: b2 :: bs2 → x ≠ lb := fun x mx z => hbl x mx (by rw [z]; simp)
    have hbA := (hb.same u1).keep f2 k2 (by simp; exact nlb b (by simp)) (fun p m => by simp; exact hlbo p (List.mem_append.mpr (.inl m)))
    have hb2A := (hb2.same u1).keep f2 k2 (by simp; exact nlb b2 (by simp)) (fun p m => by simp; exact hlbo p (List.mem_append.mpr (.inr (List.mem_append.mpr (.inl m)))))
    have er2 : H2 r = some (.ins CR dx (rdf k S.many lb)) := f2 _ _ (by simp; exact fun z => hrl' (by rw [z]; simp)) h1.ob
    have hlb2 : H2 lb = some (.lst (bs2.reverse.map V.ref ++ [.ref b2])) := by
      rw [List.reverse_cons, List.map_append] at e2
      exact e2
    obtain ⟨dxn, bln, vcn, ys, l, xs, en, ebl, el, hlo, hxl, hadd⟩ := hb2A.last hnd3.1
    obtain ⟨dxb, vcb, blb, l1b, xs1b, ebb, _⟩ := hbA
    refine ⟨_, rfl, r, CR, dx, _, _, rfl, er2, N.cl, N.nB, rfl, _, rfl, lb, _, _, _, rfl, rfl, SqL.of hlb2, atI_last _ _, b2, CB, dxn, _, _, rfl, en, NB.cl, NB.nB, rfl, _, rfl, bln, _, _, _, rfl, rfl, SqL.of ebl, atI_last _ _, .inl ⟨rfl, _, SqL.of el⟩, _, rfl, b, dxb, _, rfl, ebb, rfl, b, S.top, o, rfl, (hb.same u1).keep f2 k2 (by simp; exact nlb b (by simp)) (fun p m => by simp; exact hlbo p (List.mem_append.mpr (.inl m))), fun H3 p s3 np dp => ⟨l, xs, _, rfl, rfl, s3 _ _ el, ?_, ?_⟩⟩
    · have := lenOk_last (hlen nb (by rw [hrs]; simp)) hxl
      exact Nat.lt_of_le_of_lt (by omega : _ ≤ 100000) (by decide)
    have nll : l ≠ lb := hlbo l (List.mem_append.mpr (.inr (List.mem_append.mpr (.inl hlo))))
    have f4 : Fx [lb, l] H (upd H3 l (.lst (xs ++ [.ref p]))) := ((Fx.of u1).trans ((f2.mono (by simp)).trans (Fx.of s3))).trans (Fx.upd (by simp))
    have f4' : Fx (r :: lb :: (o ++ (o2 ++ os2))) H (upd H3 l (.lst (xs ++ [.ref p]))) := f4.mono (fun x mx => by
      have mx' : x = lb ∨ x = l := by simpa using mx
      rcases mx' with rfl | rfl
      · simp
      · simp; exact .inr (.inr (.inr (.inl hlo))))
    have kT := h.kt f4'
    refine q _ (b2 :: bs2) (o2 ++ os2) ⟨f4 _ _ (fun z => hrl' (by
      have z' : r = lb ∨ r = l := by simpa using z
      rcases z' with z' | z'
      · rw [z']; simp
      · rw [z']; simp; exact .inr (.inr (.inl hlo)))) h.ob, by rw [upd_ne nll.symm]; exact s3 _ _ e2, .cons (hadd H3 s3 _ _ dp) (ht2.keep f4 kT (fun x mx z => hbl x (by simp [mx]) (by
        have z' : x = lb ∨ x = l := by simpa using z
        rcases z' with rfl | rfl
        · simp
        · simp; exact .inr (.inr (.inr (.inl hlo))))) (fun x mx z => by
        have z' : x = lb ∨ x = l := by simpa using z
        rcases z' with rfl | rfl
        · exact hlbo x (by simp [mx]) rfl
        · exact hnd3.2.2 x hlo x mx rfl)), ?_, h.fr, fun x mx => h.fo x (by
          rcases List.mem_cons.mp mx with rfl | mx
          · simp
          · exact List.mem_cons_of_mem _ (List.mem_append.mpr (.inr mx))), h.sm' f4'⟩ kT
    exact List.nodup_cons.mpr ⟨fun z => hnd'.1 (List.mem_append.mpr (.inr z)), hnd2.2.1⟩
  | false =>
    rw [if_neg (by rw [c1]; decide)] at q
    refine iteF ⟨_, rfl, (by show 1 ≤ sizeLine; decide), fun t2 nt2 => ?_⟩
    have u2 := same_new nt2 (.tup [.str "else"])
    have e2 : (upd H1 t2 (.tup [.str "else"])) t2 = some (.tup [.str "else"]) := upd_same
    generalize upd H1 t2 (.tup [.str "else"]) = H2 at u2 e2 ⊢
    have u12 := u1.trans u2
    have hd2 : Dp K H2 v (.tuple ds) := dp_mono u2 _ _ hd1
    have h2 := h.same u12
    refine eq_word hd2 hsh (by decide +kernel) e2 ⟨_, rfl, ?_⟩
    cases c3 : isW (.tuple ds) "else" with
    | true =>
      rw [if_pos c3] at q
      refine iteT ?_
      obtain ⟨dxb, vc, bl, l1, xs1, eb, ec, e3, e4, e5⟩ := hb.same u12
      have hb2n := hels c3
      obtain ⟨ebl, rfl⟩ : H2 bl = some (.lst [.ref l1]) ∧ o = [bl, l1] := by
        rcases e5 with ⟨_, a, b'⟩ | ⟨s2, l2, xs2, a, _⟩
        · exact ⟨a, b'⟩
        · rw [hb2n] at a; cases a
      refine ⟨_, rfl, b, CB, dxb, _, _, rfl, eb, NB.cl, NB.nB, rfl, .inl ⟨rfl, _, SqL.of ebl⟩, (by show 0 ≤ sizeLine; decide), fun l2 nl2 => ?_⟩
      have u3 := same_new nl2 (.lst [])
      have el2 : (upd H2 l2 (.lst [])) l2 = some (.lst []) := upd_same
      generalize upd H2 l2 (.lst []) = H3 at u3 el2 ⊢
      refine ⟨bl, _, _, rfl, rfl, u3 _ _ ebl, (by show 1 < sizeLine; decide), ?_⟩
      have u13 := u12.trans u3
      have f4 : Fx [bl] H (upd H3 bl (.lst ([.ref l1] ++ [.ref l2]))) := (Fx.of u13).trans (Fx.upd (by simp))
      have f4' : Fx (r :: lb :: ([bl, l1] ++ os')) H (upd H3 bl (.lst ([.ref l1] ++ [.ref l2]))) := f4.mono (fun x mx => by
        have mx' : x = bl := by simpa using mx
        rw [mx']; simp)
      have kT := h.kt f4'
      have k4 : KeepT H2 (upd H3 bl (.lst ([.ref l1] ++ [.ref l2]))) := (KeepT.of u3).trans (KeepT.upd ⟨_, u3 _ _ ebl⟩)
      have hn' := List.nodup_cons.mp hnd
      have hn2 : ∀ p ∈ lb :: ([bl, l1] ++ os'), p ≠ l2 := fun p mp z => by
        have : ∃ xs, H p = some (.lst xs) := by
          rcases List.mem_cons.mp mp with rfl | mp
          · exact ⟨_, h.hb⟩
          · exact h.st.lists p mp
        obtain ⟨xs, ex⟩ := this
        rw [← z, u12 _ _ ex] at nl2
        cases nl2
      have nb1 : b ≠ bl := fun z => hbl b (by simp) (by rw [z]; simp)
      have n1l : l1 ≠ bl := fun z => by
        have := hn'.2
        rw [z] at this
        simp at this
      have n2l : l2 ≠ bl := fun z => hn2 bl (by simp) z.symm
      have hnBlk : BlkA K (upd H3 bl (.lst ([.ref l1] ++ [.ref l2]))) CB b ⟨S.top.w, S.top.c, S.top.b1, some []⟩ [bl, l1, l2] :=
        ⟨dxb, vc, bl, l1, xs1, by rw [upd_ne nb1]; exact u3 _ _ eb, dp_mono k4.same _ _ ec, by rw [upd_ne n1l]; exact u3 _ _ e3, dpAll_mono k4.same _ _ e4, .inr ⟨[], l2, [], rfl, upd_same, by rw [upd_ne n2l]; exact el2, .nil, rfl⟩⟩
      refine q _ (b :: bs') ([bl, l1, l2] ++ os') ⟨f4 _ _ (fun z => hrl' (by
        have z' : r = bl := by simpa using z
        rw [z']; simp)) h.ob, by
          rw [upd_ne (fun z : lb = bl => hn'.1 (by rw [z]; simp))]
          exact u13 _ _ h.hb, .cons hnBlk (ht.keep f4 kT (fun x mx z => hbl x (by simp [mx]) (by
            have z' : x = bl := by simpa using z
            rw [z']; simp)) (fun x mx z => by
            have z' : x = bl := by simpa using z
            rw [z'] at mx
            have := (List.nodup_append.mp hn'.2).2.2 bl (by simp) bl mx
            exact this rfl)), ?_, h.fr, fun x mx => ?_, h.sm' f4'⟩ kT
      · have hsub : ∀ p, p ∈ lb :: ([bl, l1] ++ os') ↔ (p = lb ∨ p = bl ∨ p = l1 ∨ p ∈ os') := fun p => by simp
        have hnn : (lb :: ([bl, l1] ++ os')).Nodup := hnd
        have hl2 : l2 ∉ lb :: ([bl, l1] ++ os') := fun m => hn2 l2 m rfl
        simp at hnn hl2 ⊢
        obtain ⟨⟨a1, a2, a3⟩, ⟨a4, a5⟩, a6, a7⟩ := hnn
        obtain ⟨c1, c2, c3, c4⟩ := hl2
        exact ⟨⟨a1, a2, fun z => c1 z.symm, a3⟩, ⟨a4, fun z => c2 z.symm, a5⟩, ⟨fun z => c3 z.symm, a6⟩, c4, a7⟩
      · by_cases cx : x = l2
        · rw [cx]; exact (h.sm.trans u12).free nl2
        · refine h.fo x ?_
          simp at mx ⊢
          rcases mx with a | a | a | a | a
          · exact .inl a
          · exact .inr (.inl a)
          · exact .inr (.inr (.inl a))
          · exact absurd a cx
          · exact .inr (.inr (.inr a))
    | false =>
      rw [if_neg (by rw [c3]; decide)] at q
      refine iteF ?_
      obtain ⟨h3, k3⟩ := h2.more
      refine ⟨_, rfl, r, CR, dx, _, _, rfl, h2.ob, N.cl, N.nM, rfl, _, _, rfl, rfl, dx, _, h2.ob, (by show 3 < 1000; decide), ?_⟩
      rw [show putF "many" (V.int ((S.many : Nat) + 1)) (rdf k S.many lb) = rdf k (S.many + 1) lb from rfl]
      have f3 : Fx [r] H2 (upd H2 r (.ins CR dx (rdf k (S.many + 1) lb))) := Fx.upd (by simp)
      generalize upd H2 r (.ins CR dx (rdf k (S.many + 1) lb)) = H3 at h3 k3 f3 ⊢
      have kk : KeepT H H3 := (KeepT.of u12).trans k3
      have hdt3 : Dt K H3 v (.tuple ds) := dp_mono kk.same _ _ hd
      have hd3 : Dp K H3 v (.tuple ds) := dp_mono (tupH_same H3) _ _ hdt3
      obtain ⟨hb3, ht3⟩ : BlkA K H3 CB b S.top o ∧ StkA K H3 CB bs' S.rest os' := by
        have nr : ∀ p ∈ o ++ os', p ∉ [r] := fun p m z => hrl' (by
          have : p = r := by simpa using z
          rw [← this]; exact List.mem_cons_of_mem _ m)
        have nb : ∀ x ∈ b :: bs', x ∉ [r] := fun x m z => hbl x m (by
          have : x = r := by simpa using z
          rw [this]; simp)
        refine ⟨(hb.same u12).keep f3 k3 (nb b (by simp)) fun p m => nr p (List.mem_append.mpr (.inl m)), ?_⟩
        have ht2 : StkA K H2 CB bs' S.rest os' := ht.keep (X := []) (Fx.of u12) (KeepT.of u12) (by simp) (by simp)
        exact ht2.keep f3 k3 (fun x m => nb x (List.mem_cons_of_mem _ m)) fun p m => nr p (List.mem_append.mpr (.inr m))
      refine ⟨_, rfl, v, ds, rfl, hd3, hly, hw, _, rfl, ?_⟩
      cases c4 : isOpen (.tuple ds) with
      | true =>
        rw [if_pos c4] at q
        refine iteT ?_
        obtain ⟨wd, co, rfl⟩ : ∃ wd co, ds = [.str wd, co] := by
          unfold isOpen at c4
          split at c4
          · rename_i w' c' e
            injection e with e
            exact ⟨w', c', e⟩
          · cases c4
        obtain ⟨ta, txs, rfl, hts, hta⟩ := dp_tup_inv hdt3
        obtain ⟨x1, x2, rfl, hx1, hx2⟩ : ∃ x1 x2, txs = [x1, x2] ∧ Dt K H3 x1 (.str wd) ∧ Dt K H3 x2 co := by
          cases hta with
          | cons a1 t =>
            cases t with
            | cons a2 t => cases t; exact ⟨_, _, rfl, a1, a2⟩
        cases hx1
        have hts3 := Same.tup (tupH_same H3) hts
        have hlb3 : H3 lb = some (.lst (bs'.reverse.map V.ref ++ [.ref b])) := by
          have := h3.hb
          rw [List.reverse_cons, List.map_append] at this
          exact this
        refine ⟨_, rfl, r, CR, dx, _, _, rfl, h3.ob, N.cl, N.nB, rfl, .inl ⟨rfl, _, SqL.of hlb3⟩, _, rfl, ta, _, _, _, rfl, rfl, hts3, atI_nat (j := 0) rfl, _, rfl, ta, _, _, _, rfl, rfl, hts3, atI_nat (j := 1) rfl, fun x dxx nx ndx ndd => ?_⟩
        have s4 : Same H3 (upd (upd H3 dxx (.own x)) x (.ins CB dxx [])) := made_same0 nx ndx
        refine ⟨x, dxx, wd, x2, co, rfl, upd_same, dp_mono (KeepT.of s4).same _ _ hx2, fun H5 bl l1 f5 nbl nl1 n12 hblk => ⟨rfl, lb, bs'.reverse.map V.ref ++ [.ref b], _, rfl, rfl, made_same nx ndx f5 _ _ hlb3, ?_, ?_⟩⟩
        · have hl := ht.len
          rw [List.length_append, List.length_map, List.length_reverse, hl]
          exact Nat.lt_of_le_of_lt (show S.rest.length + 1 ≤ 1000 by omega) (by decide)
        have s5 : Same H3 H5 := made_same nx ndx f5
        have elb5 := s5 _ _ hlb3
        have f6 : Fx [lb] H5 (upd H5 lb (.lst (bs'.reverse.map V.ref ++ [.ref b] ++ [.ref x]))) := Fx.upd (by simp)
        have k6 : KeepT H5 (upd H5 lb (.lst (bs'.reverse.map V.ref ++ [.ref b] ++ [.ref x]))) := KeepT.upd ⟨_, elb5⟩
        have fbl : H3 bl = none := made_free nbl
        have fl1 : H3 l1 = none := made_free nl1
        have hv3 : ∀ p ∈ lb :: (o ++ os'), ∃ xs, H3 p = some (.lst xs) := fun p m => by
          rcases List.mem_cons.mp m with rfl | m
          · exact ⟨_, hlb3⟩
          · rcases List.mem_append.mp m with m | m
            · exact hb3.lists p m
            · exact ht3.lists p m
        have nfr : ∀ q', H3 q' = none → ∀ p ∈ lb :: (o ++ os'), p ≠ q' := fun q' hq p m z => by
          obtain ⟨xs, ex⟩ := hv3 p m
          rw [z, hq] at ex
          cases ex
        have hn' := List.nodup_cons.mp hnd
        have nxb : x ∉ [lb] := by
          intro z
          have : x = lb := by simpa using z
          rw [this, hlb3] at nx
          cases nx
        have ol : ∀ p ∈ o ++ os', p ∉ [lb] := fun p m z => hn'.1 (by
          have : p = lb := by simpa using z
          rw [← this]; exact m)
        have bb : ∀ y ∈ b :: bs', y ∉ [lb] := fun y m z => hbl y m (by
          have : y = lb := by simpa using z
          rw [this]; simp)
        have st5 : StkA K H5 CB bs' S.rest os' := ht3.keep (X := []) (Fx.of s5) (KeepT.of s5) (by simp) (by simp)
        have hS6 : StkA K (upd H5 lb (.lst (bs'.reverse.map V.ref ++ [.ref b] ++ [.ref x]))) CB (x :: b :: bs') (⟨wd, co, [], none⟩ :: S.top :: S.rest) ([bl, l1] ++ (o ++ os')) :=
          .cons (hblk.keep f6 k6 nxb (fun p m z => by
            have z' : p = lb := by simpa using z
            have m' : p = bl ∨ p = l1 := by simpa using m
            rcases m' with e | e
            · exact nfr bl fbl lb (by simp) (z' ▸ e)
            · exact nfr l1 fl1 lb (by simp) (z' ▸ e)))
            (.cons ((hb3.same s5).keep f6 k6 (bb b (by simp)) fun p m => ol p (List.mem_append.mpr (.inl m))) (st5.keep f6 k6 (fun y m => bb y (List.mem_cons_of_mem _ m)) fun p m => ol p (List.mem_append.mpr (.inr m))))
        refine q _ (x :: b :: bs') ([bl, l1] ++ (o ++ os')) ⟨?_, ?_, hS6, ?_, h.fr, fun p m => ?_, same_upd (h3.sm.trans s5) (h.fo lb (by simp)) _⟩ (kk.trans ((KeepT.of s5).trans k6))
        · rw [upd_ne (fun z : r = lb => hrl' (by rw [z]; simp))]
          exact s5 _ _ h3.ob
        · rw [upd_same, List.reverse_cons, List.reverse_cons, List.map_append, List.map_append]
          rfl
        · rw [List.nodup_cons]
          refine ⟨fun z => ?_, ?_⟩
          · have z' : lb = bl ∨ lb = l1 ∨ lb ∈ o ++ os' := by simpa using z
            rcases z' with e | e | e
            · exact nfr bl fbl lb (by simp) e
            · exact nfr l1 fl1 lb (by simp) e
            · exact hn'.1 e
          · show (bl :: l1 :: (o ++ os')).Nodup
            rw [List.nodup_cons, List.nodup_cons]
            refine ⟨fun z => ?_, fun z => nfr l1 fl1 l1 (List.mem_cons_of_mem _ z) rfl, hn'.2⟩
            rcases List.mem_cons.mp z with e | e
            · exact n12 e
            · exact nfr bl fbl bl (List.mem_cons_of_mem _ e) rfl
        · have m' : p = lb ∨ p = bl ∨ p = l1 ∨ p ∈ o ++ os' := by simpa using m
          rcases m' with e | e | e | e
          · rw [e]; exact h.fo lb (by simp)
          · rw [e]; exact h3.sm.free fbl
          · rw [e]; exact h3.sm.free fl1
          · exact h.fo p (List.mem_cons_of_mem _ e)
      | false =>
        rw [if_neg (by rw [c4]; decide)] at q
        refine iteF ?_
        obtain ⟨dxn, bln, vcn, ys, l, xs, en, ebl, el, hlo, hxl, hadd⟩ := hb3.last (List.nodup_append.mp (List.nodup_cons.mp hnd).2).1
        refine ⟨_, rfl, b, CB, dxn, _, _, rfl, en, NB.cl, NB.nB, rfl, _, rfl, bln, _, _, _, rfl, rfl, SqL.of ebl, atI_last _ _, .inl ⟨rfl, _, SqL.of el⟩, _, rfl, l, xs, _, rfl, rfl, el, ?_, ?_⟩
        · have := lenOk_last (hlen S.top (by simp)) hxl
          exact Nat.lt_of_le_of_lt (by omega : _ ≤ 100000) (by decide)
        obtain ⟨h4, k4⟩ := h3.setTop ht3 hlo (hadd H3 (Same.refl _) v (.tuple ds) hdt3)
        exact q _ _ _ h4 (kk.trans k4)
end
end My

namespace My
open PySem L2 TL
/-! ### a new reader -/
def spDI (K : PySem.W.Frag) (CR CB : Addr) : Sp := fun vs H Q _ => ∃ (H0 : Hp) (r dx : Addr) (k : Str), vs = [.ref r, .str k] ∧ H r = some (.ins CR dx []) ∧ Same H0 H ∧ H0 r = none ∧ ∀ H' lb bs os, RdA K H0 H' CR CB r dx lb bs os k R0 → Q .non H'
section
variable {P : Program} {w : World} {K : PySem.W.Frag} {mg : Str → Option Value} {base : Heap}
theorem scDI : FnScope ["self", "kind"] ["self", "kind"] (defScope sDI) := ⟨rfl, rfl, rfl, by decide +kernel, rfl, by decide +kernel, by decide +kernel⟩
theorem ok_DI {f CR CB fB : Addr} {fd dB : FuncData} (F : Fun K "__init__" "Reader.__init__" sDI f fd) (N : DNo K CR) (gB : mg "Block" = some (.ref CB)) (BM : Mk K CB fB) (BG : FnOk P w K mg base CX0 1 fB dB ["self", "word", "condition"] (spBI K CB)) (bB : Binds K dB ["self", "word", "condition"] []) : FnOk P w K mg base CX0 3 f fd ["self", "kind"] (spDI K CR CB) := by
  refine F.ok scDI (fun vs H Q E h => ?_) (fun cdv A outer s H vs Q E hr h => ?_)
  · obtain ⟨H0, r, dx, k, rfl, _⟩ := h
    rfl
  obtain ⟨H0, r, dx, k, rfl, e0, s0, fr, q⟩ := h
  refine ⟨_, (pss_cons (ps_fld (pv 0) (pv 1) rfl)
  (pss_cons (ps_fld (pv 0) pe_int rfl)
  (pss_one (ps_fld (pv 0) (pe_lst (pa_cons (pe_make BM BG hr rfl gB bB .nil pass0 (pa_cons pe_str (pa_cons (pe_tup pa_nil) pa_nil))) pa_nil)) rfl)))), ?_⟩
  refine ⟨_, rfl, _, rfl, r, CR, dx, _, rfl, e0, N.cl, N.nK, (by show 0 < 1000; decide), ?_⟩
  refine ⟨_, rfl, r, CR, dx, _, rfl, upd_same, N.cl, N.nM, (by show 1 < 1000; decide), ?_⟩
  have s1 : Same H0 (upd (upd H r (.ins CR dx (putF "kind" (.str k) []))) r (.ins CR dx (putF "many" (.int 0) (putF "kind" (.str k) [])))) := same_upd (same_upd s0 fr _) fr _
  have e1 : (upd (upd H r (.ins CR dx (putF "kind" (.str k) []))) r (.ins CR dx (putF "many" (.int 0) (putF "kind" (.str k) [])))) r = some (.ins CR dx [("kind", .str k), ("many", .int 0)]) := upd_same
  generalize upd (upd H r (.ins CR dx (putF "kind" (.str k) []))) r (.ins CR dx (putF "many" (.int 0) (putF "kind" (.str k) []))) = H1 at s1 e1 ⊢
  refine ⟨(by show 0 ≤ sizeLine; decide), fun t nt => ?_⟩
  have u2 := same_new nt (.tup [])
  have d2 : Dt K (upd H1 t (.tup [])) (.ref t) (.tuple []) := new_tup nt .nil
  generalize upd H1 t (.tup []) = H2 at u2 d2 ⊢
  intro x dxx nx ndx ndd
  have s3 : Same H2 (upd (upd H2 dxx (.own x)) x (.ins CB dxx [])) := made_same0 nx ndx
  refine ⟨x, dxx, "", .ref t, .tuple [], rfl, upd_same, dp_mono (KeepT.of s3).same _ _ d2, fun H5 bl l1 f5 nbl nl1 n12 hblk => ⟨rfl, (by show 1 ≤ sizeLine; decide), fun lb nlb => ?_⟩⟩
  have s5 : Same H2 H5 := made_same nx ndx f5
  have u6 := same_new nlb (.lst [.ref x])
  have e6 : (upd H5 lb (.lst [.ref x])) lb = some (.lst [.ref x]) := upd_same
  have hbl6 := hblk.same u6
  generalize upd H5 lb (.lst [.ref x]) = H6 at u6 e6 hbl6 ⊢
  have s16 : Same H1 H6 := u2.trans (s5.trans u6)
  have er6 := s16 _ _ e1
  refine ⟨_, rfl, r, CR, dx, _, rfl, er6, N.cl, N.nB, (by show 2 < 1000; decide), ?_⟩
  have f7 : Fx [r] H6 (upd H6 r (.ins CR dx (putF "blocks" (.ref lb) [("kind", .str k), ("many", .int 0)]))) := Fx.upd (by simp)
  have kT : KeepT H6 (upd H6 r (.ins CR dx (putF "blocks" (.ref lb) [("kind", .str k), ("many", .int 0)]))) :=
    ⟨fun p xs e => f7 _ _ (by simp; rintro rfl; rw [er6] at e; cases e) e, fun p o u e => f7 _ _ (by simp; rintro rfl; rw [er6] at e; cases e) e⟩
  have fbl : H2 bl = none := made_free nbl
  have fl1 : H2 l1 = none := made_free nl1
  have hls := hblk.lists
  have nlb1 : ∀ p ∈ [bl, l1], lb ≠ p := fun p m z => by
    obtain ⟨xs, ex⟩ := hls p m
    rw [← z, nlb] at ex
    cases ex
  have er2 : H2 r = some (.ins CR dx [("kind", .str k), ("many", .int 0)]) := u2 _ _ e1
  have nr : ∀ p, H2 p = none → p ≠ r := fun p hp z => by rw [z, er2] at hp; cases hp
  have nxr : x ≠ r := nr x nx
  refine q _ lb [x] ([bl, l1] ++ []) ⟨upd_same, ?_, .cons (hbl6.keep f7 kT (by simp; exact nxr) (fun p m => by
    have m' : p = bl ∨ p = l1 := by simpa using m
    rcases m' with rfl | rfl
    · simp; exact nr _ fbl
    · simp; exact nr _ fl1)) .nil, ?_, fr, fun p m => ?_, same_upd (s1.trans s16) fr _⟩
  · rw [upd_ne (nr lb (s5.free nlb))]
    exact e6
  · have a1 := nlb1 bl (by simp)
    have a2 := nlb1 l1 (by simp)
    simp
    exact ⟨⟨a1, a2⟩, n12⟩
  · have m' : p = lb ∨ p = bl ∨ p = l1 := by simpa using m
    have s2 := s1.trans u2
    rcases m' with rfl | rfl | rfl
    · exact (s2.trans s5).free nlb
    · exact s2.free fbl
    · exact s2.free fl1
end
/-! ### enumerate(list, start=1) -/
/-- the list at a as it stands at each turn, each item in a new pair, counted from 1 -/
def Ite1 (K : PySem.W.Frag) (a : Addr) : It :=
  ⟨fun i H => ∃ (xs : List V) (x : V), SqL K H a xs ∧ xs[i]? = some x, fun i H v H' => ∃ T x, v = .ref T ∧ H T = none ∧ H' = upd H T (.tup [.int ((i : Nat) + 1 : Int), x]) ∧ ∀ xs, SqL K H a xs → xs[i]? = some x, fun i H => ∃ xs : List V, SqL K H a xs ∧ xs.length = i⟩
theorem turn_enum1 {P : Program} {w : World} {K : PySem.W.Frag} {elts : List Expr} {kk : Nat} {tpos : Pos} (a e it : Addr) (hae : a ≠ it) (hae2 : a ≠ e) :
    Turn P w K (.Tuple elts kk tpos) (Ite1 K a) [e, it] e (fun i h => (∃ old, IsEnum h e it ((i : Nat) + 1 : Int) old) ∧ h.IsListIter it a i ∧ e ≠ it) where
  mem := by simp
  obj := fun i h st b hb => by
    obtain ⟨⟨old, he⟩, ⟨o, ho, hc, hd⟩, _⟩ := st
    have e' : b = e ∨ b = it := by simpa using hb
    rcases e' with z | z
    · rw [z]; exact ⟨_, he, fun v q => nomatch q⟩
    · rw [z]; exact ⟨o, ho, fun v q => by rw [hd] at q; cases q⟩
  keep := fun i h h' st k => let ⟨⟨old, he⟩, hi, hne⟩ := st; ⟨⟨old, k e (by simp) _ he⟩, hi.at fun o q => k it (by simp) o q, hne⟩
  item := by
    intro X hP hw hK hc i pins s σ H E I hf st hg
    subst hP hw hK
    obtain ⟨⟨old, he⟩, hit, hne⟩ := st
    obtain ⟨xs, x, hq, hx⟩ := hg
    obtain ⟨its, rv, p, hz⟩ := I.list hq
    obtain ⟨u, hu, ru⟩ := rv.get hx
    have hel : e < s.heap.objs.size := Heap.lt_size he
    have hil : it < s.heap.objs.size := by obtain ⟨_, q, _⟩ := hit; exact Heap.lt_size q
    have hin : i < its.toArray.size := by
      have h1 := rv.length
      have h2 := (List.getElem?_eq_some_iff.mp hx).1
      simp
      omega
    refine wpAny_pyNext_enum_itemC (Draws.list (prog := X.prog) (w := X.w) (A := X.A.in1) (I.ok.hd hc) it a hae its.toArray) he ⟨hit, p.isList⟩ hin hne (fun m => ?_) fun x' h' tk hPx ho hst' hT hsz hk => ?_
    · have m' : e = it ∨ e = a := by simpa using m
      rcases m' with z | z
      · exact hne z
      · exact hae2 z.symm
    have hxu : x' = u := by
      have h1 : its.toArray[i]? = some u := by simpa using hu
      have h2 : its.toArray[i]? = some x' := hPx
      rw [h1] at h2
      exact (Option.some.inj h2).symm
    subst hxu
    refine ⟨_, rfl, wpAny_letOwnedTupleGo_enum (s := { s with heap := h', toks := tk + 1 }) ho fun h'' he' sb => ?_⟩
    have hT2 : h''.get? s.heap.objs.size = some { cls := .type "tuple", data := .seq #[.int ((i : Nat) + 1 : Int) tk, x'] } := (sb.2 _ (Nat.ne_of_gt hel)).trans hT
    have new : ObjOk X.prog X.w (upd H s.heap.objs.size (.tup [.int ((i : Nat) + 1 : Int), x])) h'' s.heap.objs.size (.tup [.int ((i : Nat) + 1 : Int), x]) :=
      ⟨by show 2 ≤ sizeLine; decide, [.int ((i : Nat) + 1 : Int) tk, x'], .cons ⟨_, rfl⟩ (.cons ru .nil), ⟨_, hT2, rfl, _, rfl⟩⟩
    have I1 : Inv X pins σ (upd H s.heap.objs.size (.tup [.int ((i : Nat) + 1 : Int), x])) { s with heap := h'', toks := tk + 1 } :=
      I.turnedNew (ch := [e, it]) (fun b ob hb q => (sb.2 b (fun z => hb (by simp [z]))).trans (hk b ob (fun z => hb (by simp [z])) (fun z => hb (by simp [z])) q)) hf (Nat.le_refl _) new
    refine ⟨.ref s.heap.objs.size, _, I1, rfl, ⟨_, x, rfl, I.hok.fresh (Nat.le_refl _), rfl, fun ys hy => by rw [I.list_inj hy hq]; exact hx⟩, ⟨⟨x', ?_⟩, hst'.1.at fun o q => (sb.2 it (Ne.symm hne)).trans q, hne⟩, fun b hb => ?_⟩
    · have e1 : (((i + 1 : Nat) : Nat) + 1 : Int) = (i : Int) + 1 + 1 := by omega
      rw [e1]; exact he'
    · have hb' : b < s.heap.objs.size := by
        have e' : b = e ∨ b = it := by simpa using hb
        rcases e' with z | z
        · rw [z]; exact hel
        · rw [z]; exact hil
      rw [upd_ne (Nat.ne_of_lt hb')]
      exact (hf b hb).1
  done := by
    intro X hP hw hK hc i pins s σ H E I hf st hg
    subst hP hw hK
    obtain ⟨⟨old, he⟩, hit, hne⟩ := st
    obtain ⟨xs, hq, hx⟩ := hg
    obtain ⟨its, rv, p, hz⟩ := I.list hq
    obtain ⟨f0, f1, f2, f3, f4, f5⟩ := hf it (by simp)
    have hl := rv.length
    have hn : i = its.toArray.size := by simp; omega
    subst hn
    exact wpAny_pyNext_enum_endD (Draws.list (prog := X.prog) (w := X.w) (A := X.A.in1) (I.ok.hd hc) it a hae its.toArray) he ⟨hit, p.isList⟩ fun h' eb => ⟨rfl, I.turned (t' := s.toks) (fun b o hb q => eb b o hb q) f0 f1 f3 f4 f5⟩
  self := fun A i s Q E st h => let ⟨⟨_, he⟩, _⟩ := st; wpAny_pyIter_enum he h
theorem callWith_type_kw {M : Model} {A : Around} {E : Value → Shared → Prop} {s : Shared} {pos : Pos} {T : String} {args : List (Bool × Sem Value)} {keywords : List (Option Str × Sem Value)} {Q : Value → Shared → Prop}
    (hplain : args.any (·.1) = false) (hkw : keywords.any (·.1.isNone) = false)
    (h : wpAny M A (evalArgs (.type T) true args keywords) (fun a s₁ => wpAny M A (call (.type T) ([] ++ a.pos) a.kw) Q E s₁) E s) :
    wpAny M A (callWith pos (.type T) [] args keywords) Q E s := by
  unfold callWith
  refine wpAny_bind (wpAny_holding (wpAny_mono h (fun a s₁ h₁ => wpAny_bind (wpAny_standAt ?_)) fun _ _ x => x))
  simp only [hplain, hkw, Bool.or_false]
  refine wpAny_bind (wpAny_pure ?_)
  exact wpAny_bind (wpAny_mono h₁ (fun r s₂ hr => wpAny_bind (wpAny_holding (wpAny_point (wpAny_pure hr)))) fun _ _ x => x)
def iEnum1 (K : PySem.W.Frag) (ta : TA) : TI := fun σ H R => ta σ H fun vs H1 => ∃ a xs, vs = [.ref a] ∧ SqL K H1 a xs ∧ R (Ite1 K a) H1
theorem pi_enum1 {X : Cx} {e : Expr} {ta : TA} {p pos tpos kpos : Pos} {k1 : Expr} {elts : List Expr} {kk : Nat} (hg : Gl X "enumerate") (hm : X.mg "enumerate" = none) (ha : PA X [e] ta) (hk : PK X [⟨some "start", k1, kpos⟩] (tCons (tC (.int 1)) tNil))
    (he : backTo pos (starEach [e] X.env) = (false, eval e X.env) :: backTo pos (starEach [] X.env) := by rfl)
    (hplain : (backTo pos (starEach [e] X.env)).any (·.1) = false := by rfl)
    (hall : (backToKw pos (keywordEach [⟨some "start", k1, kpos⟩] X.env)).all (·.1.isSome) = true := by rfl)
    (hkw : (backToKw pos (keywordEach [⟨some "start", k1, kpos⟩] X.env)).any (·.1.isNone) = false := by rfl)
    (hks : (backToKw pos (keywordEach [⟨some "start", k1, kpos⟩] X.env)).filterMap (·.1) = [Str.ofString "start"] := by rfl) :
    PI X (.Tuple elts kk tpos) (.Call (.Name "enumerate" p) [e] [⟨some "start", k1, kpos⟩] pos) (iEnum1 X.K ta) := by
  refine ⟨fun pins s σ H R I h => ?_⟩
  refine wpAny_Call_Name_kw (ld_blt I hg hm (by decide +kernel : bootBuiltins (Str.ofString "enumerate") = some (.type "enumerate")) (callWith_type_kw hplain hkw ?_))
  rw [he]
  refine PyProof.Rows.evalArgs_kwB hall ?_
  rw [← he]
  refine thn (ha.run pos pins s σ H _ I h) fun us s1 ⟨vs, H1, I1, r1, q1⟩ => ?_
  refine thn (hk.run pos pins s1 σ H1 (fun zs H2 => zs = [.int 1] ∧ H2 = H1) I1 ⟨rfl, rfl⟩) fun ws s2 ⟨zs, H2, I2, rz, ez, eH⟩ => ?_
  subst ez eH
  rw [hks]
  obtain ⟨a, xs, ex, hq, q⟩ := q1
  subst ex
  cases r1 with
  | cons r rr =>
    cases rr
    cases r
    cases rz with
    | cons r' rr' =>
      cases rr'
      obtain ⟨t, rfl⟩ := r'
      obtain ⟨its, rv, p', hz⟩ := I2.list hq
      have hal : a < s2.heap.objs.size := by obtain ⟨_, q', _⟩ := p'.isList; exact Heap.lt_size q'
      refine enum_begins_start (begins_list a its.toArray) p'.isList (by decide) (by decide) fun h' he hit hsz hk' => wpAny_pyIter_enum he ?_
      have I3 : Inv X pins σ H2 { s2 with heap := h' } := I2.kept (t' := s2.toks) hk'
      refine ⟨s2.heap.objs.size + 1, [s2.heap.objs.size + 1, s2.heap.objs.size], _, _, H2, rfl, I3, turn_enum1 a (s2.heap.objs.size + 1) s2.heap.objs.size (Nat.ne_of_lt hal) (Nat.ne_of_lt (Nat.lt_succ_of_lt hal)), ⟨⟨.none, he⟩, ⟨_, hit, rfl, rfl⟩, Nat.succ_ne_self _⟩, fun b hb => ?_, q⟩
      have e' : b = s2.heap.objs.size + 1 ∨ b = s2.heap.objs.size := by simpa using hb
      have hle : s2.heap.objs.size ≤ b := by
        rcases e' with z | z
        · rw [z]; exact Nat.le_add_right _ _
        · rw [z]; exact Nat.le_refl _
      exact I2.fpOk hle (I2.hok.fresh hle)
end My

namespace My
open PySem L2 TL
/-! ### what stays true while lines are taken -/
def botOk (S : RS) : Prop := ∀ b, (S.top :: S.rest).getLast? = some b → b.w = Str.ofString ""
theorem addL_w (ss : List PyData) (b : Blk) : (addL ss b).w = b.w := by
  obtain ⟨w, c, b1, b2⟩ := b
  cases b2 <;> rfl
theorem addL_len {N : Nat} {b : Blk} (s : PyData) (h : b.b1.length ≤ N ∧ ∀ x, b.b2 = some x → x.length ≤ N) : (addL [s] b).b1.length ≤ N + 1 ∧ ∀ x, (addL [s] b).b2 = some x → x.length ≤ N + 1 := by
  obtain ⟨w, c, b1, b2⟩ := b
  cases b2 with
  | none =>
    refine ⟨?_, fun x e => by cases e⟩
    show (b1 ++ [s]).length ≤ N + 1
    rw [List.length_append]
    have := h.1
    exact Nat.succ_le_succ this
  | some y =>
    refine ⟨Nat.le_succ_of_le h.1, fun x e => ?_⟩
    cases e
    rw [List.length_append]
    exact Nat.succ_le_succ (h.2 y rfl)
theorem take_ok {k : Str} {S : RS} {d : PyData} {N : Nat} (ha : allowsF k S d = true) (hl : lenOk N S) (hb : botOk S) (hr : S.rest.length ≤ 4) :
    lenOk (N + 1) (takeF S d) ∧ botOk (takeF S d) ∧ (takeF S d).rest.length ≤ 4 ∧ (isW d "end" = true → S.rest ≠ []) ∧ (isW d "else" = true → S.top.b2 = none) := by
  obtain ⟨m, t, r⟩ := S
  have up : ∀ b : Blk, (b.b1.length ≤ N ∧ ∀ x, b.b2 = some x → x.length ≤ N) → (b.b1.length ≤ N + 1 ∧ ∀ x, b.b2 = some x → x.length ≤ N + 1) := fun b h => ⟨Nat.le_succ_of_le h.1, fun x e => Nat.le_succ_of_le (h.2 x e)⟩
  have swap : ∀ (t' : Blk), t'.w = t.w → ∀ (r : List Blk), (∀ b, (t :: r).getLast? = some b → b.w = Str.ofString "") → ∀ b, (t' :: r).getLast? = some b → b.w = Str.ofString "" := fun t' hw r h b e => by
    cases r with
    | nil =>
      have e' : b = t' := (Option.some.inj e).symm
      rw [e', hw]
      exact h t rfl
    | cons a r => exact h b (by rw [List.getLast?_cons_cons] at e ⊢; exact e)
  unfold allowsF at ha
  unfold takeF
  cases c1 : isW d "end" with
  | true =>
    rw [if_pos c1] at ha
    have hne : r ≠ [] := fun e => by
      subst e
      have h1 : t.w = Str.ofString "" := hb t rfl
      have h2 : mayEnd t = true := ha
      unfold mayEnd at h2
      rw [Bool.and_eq_true] at h2
      have h3 := of_decide_eq_true h2.1
      rw [h1] at h3
      rcases h3 with h3 | h3 <;> exact absurd h3 (by decide +kernel)
    cases r with
    | nil => exact absurd rfl hne
    | cons n r =>
      rw [if_pos rfl]
      refine ⟨fun b mb => ?_, fun b e => ?_, Nat.le_of_succ_le hr, fun _ => hne, fun h => ?_⟩
      · rcases List.mem_cons.mp mb with rfl | mb
        · exact addL_len _ (hl n (by simp))
        · exact up b (hl b (by simp [List.mem_cons] at mb ⊢; exact .inr (.inr mb)))
      · cases r with
        | nil =>
          have e' : b = addL [asStmt t] n := (Option.some.inj e).symm
          rw [e', addL_w]
          exact hb n rfl
        | cons a r => exact hb b (by rw [List.getLast?_cons_cons, List.getLast?_cons_cons]; exact (by rw [List.getLast?_cons_cons] at e; exact e))
      · unfold isW at c1 h
        split at c1
        · have h1 := of_decide_eq_true c1
          have h2 := of_decide_eq_true h
          rw [h1] at h2
          exact absurd h2 (by decide +kernel)
        · cases c1
  | false =>
    rw [if_neg (by rw [c1]; decide)] at ha
    rw [if_neg (by decide)]
    have hroom : hasRoom ⟨m, t, r⟩ = true := by
      cases h : hasRoom ⟨m, t, r⟩ with
      | true => rfl
      | false => rw [if_pos h] at ha; cases ha
    rw [if_neg (by rw [hroom]; decide)] at ha
    have hr4 : r.length + 1 ≤ 4 := by
      unfold hasRoom at hroom
      rw [Bool.and_eq_true] at hroom
      exact of_decide_eq_true hroom.2
    cases c2 : isW d "else" with
    | true =>
      rw [if_pos c2] at ha
      rw [if_pos rfl]
      have hbr : t.b2 = none := by
        have h2 : mayBranch t = true := ha
        unfold mayBranch at h2
        rw [Bool.and_eq_true] at h2
        exact Option.isNone_iff_eq_none.mp h2.2
      refine ⟨fun b mb => ?_, swap ⟨t.w, t.c, t.b1, some []⟩ rfl r hb, hr, (fun h => by cases h), fun _ => hbr⟩
      rcases List.mem_cons.mp mb with rfl | mb
      · exact ⟨Nat.le_succ_of_le (hl t (by simp)).1, fun x e => by cases e; exact Nat.zero_le _⟩
      · exact up b (hl b (List.mem_cons_of_mem _ mb))
    | false =>
      rw [if_neg (by decide)]
      cases c3 : isOpen d with
      | true =>
        rw [if_pos rfl]
        refine ⟨fun b mb => ?_, fun b e => ?_, hr4, (fun h => by cases h), (fun h => by cases h)⟩
        · rcases List.mem_cons.mp mb with rfl | mb
          · unfold opens
            split
            · exact ⟨Nat.zero_le _, fun x e => by cases e⟩
            · exact ⟨Nat.zero_le _, fun x e => by cases e⟩
          · exact up b (hl b mb)
        · exact hb b (by
            have e' : (opens d :: t :: r).getLast? = some b := e
            rw [List.getLast?_cons_cons] at e'
            exact e')
      | false =>
        rw [if_neg (by decide)]
        refine ⟨fun b mb => ?_, swap _ (addL_w _ _) r hb, hr, (fun h => by cases h), (fun h => by cases h)⟩
        rcases List.mem_cons.mp mb with rfl | mb
        · exact addL_len _ (hl t (by simp))
        · exact up b (hl b (List.mem_cons_of_mem _ mb))
theorem ok_R0 : lenOk 0 R0 ∧ botOk R0 ∧ R0.rest.length ≤ 4 := by
  refine ⟨fun b mb => ?_, fun b e => ?_, by decide⟩
  · have : b = R0.top := by simpa [R0] using mb
    rw [this]
    exact ⟨Nat.le_refl _, fun x e => by cases e⟩
  · have : b = R0.top := (Option.some.inj e).symm
    rw [this]
    rfl
end My

namespace My
open PySem L2 TL
/-! ### any line: what it says, and its text again -/
theorem ascii_digit {c : Nat} (h1 : c < 128) (h2 : Unicode.isDigit c = true) : 48 ≤ c ∧ c ≤ 57 := digit_ascii c h1 h2
theorem dec_iff (z : Str) : isDec z = true ↔ NumText.AllDigits (tl z) ∧ tl z ≠ [] ∧ (tl z).length ≤ 31 ∧ (tl z = [48] ∨ (tl z)[0]? ≠ some 48) := by
  unfold isDec
  rw [Bool.and_eq_true, Bool.and_eq_true, Bool.and_eq_true, Bool.or_eq_true]
  have e0 : decide (z = "0") = true ↔ tl z = [48] := by
    rw [decide_eq_true_iff]
    constructor
    · intro h; rw [h]; decide +kernel
    · intro h
      apply ext_tl
      rw [h]
      decide +kernel
  have e1 : (!Txt.startswith z "0") = true ↔ (tl z)[0]? ≠ some 48 := by
    rw [Bool.not_eq_true', ← Bool.not_eq_true]
    exact not_congr (sw_iff z 48)
  rw [e0, e1]
  constructor
  · rintro ⟨⟨⟨h1, h2⟩, h3⟩, h4⟩
    have h3' := of_decide_eq_true h3
    unfold Txt.isascii at h1
    unfold Txt.isdigit at h2
    rw [Bool.and_eq_true] at h2
    obtain ⟨h5, h6⟩ := h2
    have h5' := of_decide_eq_true h5
    rw [Array.all_eq_true_iff_forall_mem] at h1 h6
    refine ⟨fun c hc => ?_, fun e => ?_, by rw [← len_tl]; exact h3', h4⟩
    · have hc' : c ∈ z.cps := Array.mem_toList_iff.mp hc
      exact digit_ascii c (of_decide_eq_true (h1 c hc')) (h6 c hc')
    · rw [len_tl, e] at h5'
      exact absurd h5' (by decide)
  · rintro ⟨h1, h2, h3, h4⟩
    refine ⟨⟨⟨?_, ?_⟩, decide_eq_true (by rw [len_tl]; exact h3)⟩, h4⟩
    · unfold Txt.isascii
      rw [← Array.all_toList, List.all_eq_true]
      intro c hc
      have := h1 c hc
      exact decide_eq_true (by omega)
    · unfold Txt.isdigit
      rw [Bool.and_eq_true]
      refine ⟨decide_eq_true ?_, ?_⟩
      · rw [len_tl]; exact List.length_pos_iff.mpr h2
      · rw [← Array.all_toList, List.all_eq_true]
        intro c hc
        have := h1 c hc
        exact digits_ok c this.1 this.2
theorem rev_ind {p : List Nat → Prop} (h0 : p []) (h1 : ∀ cs c, p cs → p (cs ++ [c])) (cs : List Nat) : p cs := by
  have : ∀ l : List Nat, p l.reverse := fun l => by
    induction l with
    | nil => exact h0
    | cons c r ih => rw [List.reverse_cons]; exact h1 _ _ ih
  have := this cs.reverse
  rwa [List.reverse_reverse] at this
theorem digitsVal_snoc (cs : List Nat) (c : Nat) : NumText.digitsVal (cs ++ [c]) = NumText.digitsVal cs * 10 + (c - 48) := by
  unfold NumText.digitsVal
  rw [List.foldl_append]
  rfl
theorem digitsVal_pos : ∀ {cs : List Nat}, NumText.AllDigits cs → cs ≠ [] → cs[0]? ≠ some 48 → 1 ≤ NumText.digitsVal cs := by
  intro cs
  refine rev_ind (p := fun cs => NumText.AllDigits cs → cs ≠ [] → cs[0]? ≠ some 48 → 1 ≤ NumText.digitsVal cs) (fun _ h => absurd rfl h) (fun cs c ih => ?_) cs
  · intro h1 _ h3
    rw [digitsVal_snoc]
    by_cases e : cs = []
    · subst e
      have hc := h1 c (by simp)
      have : c ≠ 48 := fun z => h3 (by rw [z]; rfl)
      omega
    · have := ih (fun d m => h1 d (by simp [m])) e (by
        intro z
        apply h3
        cases cs with
        | nil => exact absurd rfl e
        | cons d r => simpa using z)
      omega
theorem numL_back : ∀ {cs : List Nat}, NumText.AllDigits cs → cs ≠ [] → cs = [48] ∨ cs[0]? ≠ some 48 → numL (NumText.digitsVal cs) = cs := by
  intro cs
  refine rev_ind (p := fun cs => NumText.AllDigits cs → cs ≠ [] → cs = [48] ∨ cs[0]? ≠ some 48 → numL (NumText.digitsVal cs) = cs) (fun _ h => absurd rfl h) (fun cs c ih => ?_) cs
  · intro h1 _ h3
    have hc := h1 c (by simp)
    rw [digitsVal_snoc]
    by_cases e : cs = []
    · subst e
      have e1 : NumText.digitsVal [] * 10 + (c - 48) = c - 48 := by simp [NumText.digitsVal]
      rw [e1, numL_lt (by omega)]
      rw [show 48 + (c - 48) = c by omega]
      rfl
    · have h3' : cs[0]? ≠ some 48 := by
        rcases h3 with h3 | h3
        · have := congrArg List.length h3
          simp at this
          exact absurd this e
        · intro z
          apply h3
          cases cs with
          | nil => exact absurd rfl e
          | cons d r => simpa using z
      have hd : NumText.AllDigits cs := fun d m => h1 d (by simp [m])
      have hp := digitsVal_pos hd e h3'
      rw [numL_step (by omega), show (NumText.digitsVal cs * 10 + (c - 48)) / 10 = NumText.digitsVal cs by omega, show (NumText.digitsVal cs * 10 + (c - 48)) % 10 = c - 48 by omega, ih hd e (.inr h3'), show 48 + (c - 48) = c by omega]
/-- the value of a decimal -/
theorem dec_val {z : Str} (h : isDec z = true) : ∃ n : Nat, (intText? z).getD 0 = (n : Int) ∧ Str.ofString (toString ((n : Nat) : Int)) = z ∧ n < 10 ^ 31 := by
  obtain ⟨h1, h2, h3, h4⟩ := (dec_iff z).mp h
  have hv := intText_digits (x := z) h1 h2 (by rw [len_tl]; omega)
  refine ⟨NumText.digitsVal (tl z), by rw [hv]; rfl, ext_tl ?_, ?_⟩
  · rw [tl_num]
    exact numL_back h1 h2 h4
  · have hb : ∀ cs : List Nat, NumText.AllDigits cs → NumText.digitsVal cs < 10 ^ cs.length := by
      intro cs
      refine rev_ind (p := fun cs => NumText.AllDigits cs → NumText.digitsVal cs < 10 ^ cs.length) (fun _ => by simp [NumText.digitsVal]) (fun cs c ih => ?_) cs
      · intro h
        have := ih (fun d m => h d (by simp [m]))
        have hc := h c (by simp)
        rw [digitsVal_snoc, List.length_append, List.length_singleton, Nat.pow_succ]
        omega
    exact Nat.lt_of_lt_of_le (hb _ h1) (Nat.pow_le_pow_right (by decide) h3)
theorem numW_str {z : Str} (h : isDec z = false) : numW z = .str z := by
  unfold numW
  rw [if_neg (by rw [h]; decide)]
theorem numW_int {z : Str} (h : isDec z = true) : ∃ n : Nat, numW z = .int n ∧ Str.ofString (toString ((n : Nat) : Int)) = z ∧ n < 10 ^ 31 := by
  obtain ⟨n, h1, h2, h3⟩ := dec_val h
  refine ⟨n, ?_, h2, h3⟩
  unfold numW
  rw [if_pos h, h1]
/-- what is read is shown as it was -/
theorem strD_num (z : Str) : strD (numW z) = z := by
  cases h : isDec z with
  | false => rw [numW_str h]; rfl
  | true =>
    obtain ⟨n, e, h2, _⟩ := numW_int h
    rw [e]
    exact h2
theorem map_strD : ∀ ws : List Str, (ws.map numW).map strD = ws
  | [] => rfl
  | w :: ws => by rw [List.map_cons, List.map_cons, strD_num, map_strD ws]
/-- a word among others that are no decimals -/
theorem inS_num {z : Str} {zs : List Str} (h : ∀ y ∈ zs, isDec y = false) : inS (numW z) zs = decide (z ∈ zs) := by
  cases hd : isDec z with
  | false =>
    rw [numW_str hd]
    show zs.any (· == z) = _
    rw [Bool.eq_iff_iff, List.any_eq_true, decide_eq_true_iff]
    constructor
    · rintro ⟨y, m, e⟩; rw [← eq_of_beq e]; exact m
    · intro m; exact ⟨z, m, beq_self_eq_true z⟩
  | true =>
    obtain ⟨n, e, _⟩ := numW_int hd
    rw [e]
    symm
    show decide (z ∈ zs) = false
    rw [decide_eq_false_iff_not]
    intro m
    have := h z m
    rw [hd] at this
    cases this
theorem inS_str {z : Str} {zs : List Str} : inS (.str z) zs = decide (z ∈ zs) := by
  show zs.any (· == z) = _
  rw [Bool.eq_iff_iff, List.any_eq_true, decide_eq_true_iff]
  constructor
  · rintro ⟨y, m, e⟩; rw [← eq_of_beq e]; exact m
  · intro m; exact ⟨z, m, beq_self_eq_true z⟩
theorem vars_dec : ∀ y ∈ vars, isDec y = false := by decide +kernel
theorem signs_dec : ∀ y ∈ signs, isDec y = false := by decide +kernel
theorem term_num (z : Str) : isTerm (numW z) = (decide (z ∈ vars) || intIn (numW z) 0 15) := by
  unfold isTerm
  rw [inS_num vars_dec]
theorem answer_num (z : Str) : intIn (numW z) 0 1 = decide (z ∈ (["0", "1"] : List Str)) := by
  rw [Bool.eq_iff_iff, decide_eq_true_iff]
  constructor
  · intro h
    cases hd : isDec z with
    | false => rw [numW_str hd] at h; cases h
    | true =>
      obtain ⟨n, e, h2, _⟩ := numW_int hd
      rw [e] at h
      have h' : (decide ((0 : Int) ≤ (n : Int)) && decide ((n : Int) ≤ 1)) = true := h
      rw [Bool.and_eq_true, decide_eq_true_iff, decide_eq_true_iff] at h'
      have : n = 0 ∨ n = 1 := by omega
      rcases this with rfl | rfl
      · rw [← h2]; decide +kernel
      · rw [← h2]; decide +kernel
  · intro m
    have : ∀ z ∈ (["0", "1"] : List Str), intIn (numW z) 0 1 = true := by decide +kernel
    exact this z m
/-- a line that a statement may have, of which the first word is w -/
def lineOk (k w : Str) (ws : List Str) : Bool := isOpen (lineP w ws) || isPlain (lineP w ws) k
theorem lineP_plain {w : Str} {ws : List Str} (h1 : w ≠ "ask") (h2 : w ≠ "if") (h3 : w ≠ "while") : lineP w ws = .tuple (.str w :: ws.map numW) := by
  unfold lineP
  rw [if_neg h1, if_neg (by rintro (h | h) <;> contradiction)]
theorem lineP_open {w : Str} {ws : List Str} (h : w = "if" ∨ w = "while") : lineP w ws = .tuple [.str w, .tuple (ws.map numW)] := by
  unfold lineP
  rw [if_neg (by rcases h with rfl | rfl <;> decide), if_pos h]
theorem rolesZ_open {w k : Str} (h : w = "if" ∨ w = "while") : rolesZ w k = none := by
  unfold rolesZ
  rw [if_neg (by rcases h with rfl | rfl <;> decide), if_neg (by rcases h with rfl | rfl <;> decide), if_neg (by rcases h with rfl | rfl <;> decide)]
  split
  · rw [if_neg (by rcases h with rfl | rfl <;> decide), if_neg (by rcases h with rfl | rfl <;> decide)]
  · rw [if_neg (by rcases h with rfl | rfl <;> decide), if_neg (by rcases h with rfl | rfl <;> decide)]
theorem lineOk_open {k w : Str} {ws : List Str} (h : w = "if" ∨ w = "while") : lineOk k w ws = isCond (.tuple (ws.map numW)) := by
  unfold lineOk
  rw [lineP_open h]
  have e1 : isOpen (.tuple [.str w, .tuple (ws.map numW)]) = isCond (.tuple (ws.map numW)) := by
    show (decide (w = "if" ∨ w = "while") && _) = _
    rw [decide_eq_true h, Bool.true_and]
  have e2 : isPlain (.tuple [.str w, .tuple (ws.map numW)]) k = false := by
    show (match rolesZ w k with | some rs => _ | none => false) = false
    rw [rolesZ_open h]
  rw [e1, e2, Bool.or_false]
theorem isOpen_plain {w : Str} {ds : List PyData} (h2 : w ≠ "if") (h3 : w ≠ "while") : isOpen (.tuple (.str w :: ds)) = false := by
  unfold isOpen
  split
  · rename_i w' c e
    injection e with e; injection e with e1 e2; injection e1 with e1
    subst e1
    rw [decide_eq_false (by rintro (h | h) <;> contradiction), Bool.false_and]
  · rfl
theorem lineOk_roles {k w : Str} {ws : List Str} (h1 : w ≠ "ask") (h2 : w ≠ "if") (h3 : w ≠ "while") : lineOk k w ws = (match rolesZ w k with | some rs => decide (ws.length = rs.length) && allParts (ws.map numW) rs | none => false) := by
  unfold lineOk
  rw [lineP_plain h1 h2 h3, isOpen_plain h2 h3, Bool.false_or]
  show (match rolesZ w k with | some rs => decide ((ws.map numW).length = rs.length) && allParts (ws.map numW) rs | none => false) = _
  rw [List.length_map]
theorem isW_line {w : Str} {ws : List Str} {z : Str} (hz : z ≠ "ask" ∧ z ≠ "if" ∧ z ≠ "while") : isW (lineP w ws) z = decide (w = z ∧ ws = []) := by
  by_cases h1 : w = "ask"
  · subst h1
    have e : isW (lineP "ask" ws) z = false := by
      unfold lineP
      rw [if_pos rfl]
      unfold askP
      split
      · split <;> rfl
      · rfl
    rw [e, decide_eq_false]
    rintro ⟨rfl, _⟩
    exact hz.1 rfl
  by_cases h2 : w = "if" ∨ w = "while"
  · rw [lineP_open h2, decide_eq_false]
    · rfl
    rintro ⟨rfl, _⟩
    rcases h2 with h2 | h2
    · exact hz.2.1 h2
    · exact hz.2.2 h2
  · rw [lineP_plain h1 (fun e => h2 (.inl e)) (fun e => h2 (.inr e))]
    cases ws with
    | nil =>
      show decide (w = z) = _
      simp
    | cons u r =>
      show false = _
      rw [decide_eq_false]
      rintro ⟨_, h⟩
      cases h
end My

namespace My
open PySem L2 TL
/-! ### what has been read is the text again -/
theorem st_whileC {k : Str} {n c : Nat} {co b : PyData} (hc : isCond co = true) (h : bodyN k n b = some c) : stN k n (.tuple [.str "while", co, b]) = some (1 + c) := by
  unfold stN
  rw [if_pos (by rw [out_while]; exact hc), bods_while]
  simp only [List.drop_succ_cons, List.drop_zero, List.map_cons, List.map_nil, sumO, addO_zero, h]
  rfl
theorem st_ifC {k : Str} {n c1 c2 : Nat} {co b1 b2 : PyData} (hc : isCond co = true) (h1 : bodyN k n b1 = some c1) (h2 : bodyN k n b2 = some c2) : stN k n (.tuple [.str "if", co, b1, b2]) = some (1 + (c1 + c2)) := by
  have e1 : isOut (.tuple [.str "if", co, b1, b2]) k = true := by unfold isOut; simp [cond2, cond3, hc]
  unfold stN
  rw [if_pos e1]
  show addO (some 1) (sumO ([b1, b2].map (bodyN k n))) = _
  simp [sumO, h1, h2, addO]
theorem body_snoc {k : Str} {n c a : Nat} {ss : List PyData} {s : PyData} (h : bodyN k (n + 1) (.tuple ss) = some c) (hs : stN k n s = some a) : bodyN k (n + 1) (.tuple (ss ++ [s])) = some (c + a) := by
  rw [bodyN_tup] at h ⊢
  rw [List.map_append, List.map_singleton, sumO_snoc, h, hs]
  rfl
theorem bodyT_snoc {n : Nat} {ss : List PyData} {s : PyData} : bodyT (n + 1) (.tuple (ss ++ [s])) = bodyT (n + 1) (.tuple ss) ++ stT (bodyT n) s := by
  show ((ss ++ [s]).map _).flatten = (ss.map _).flatten ++ _
  rw [List.map_append, List.flatten_append, List.map_singleton]
  simp
theorem bodyT_nil (n : Nat) : bodyT n (.tuple []) = [] := by
  cases n <;> rfl
theorem bodyN_nil (k : Str) (n : Nat) : bodyN k n (.tuple []) = some 0 := by
  cases n <;> rfl
theorem lay_snoc {ss : List PyData} {s : PyData} (h : Lay (.tuple ss)) (hs : Lay s) : Lay (.tuple (ss ++ [s])) := lay_tuple fun d m => by
  rcases List.mem_append.mp m with m | m
  · exact lay_mem (lay_tup h) d m
  · rw [List.mem_singleton.mp m]; exact hs
inductive StkT (k : Str) : List Blk → List Str → Nat → Prop
  | base {ss : List PyData} {c : Nat} : bodyN k 4 (.tuple ss) = some c → Lay (.tuple ss) → StkT k [⟨"", .tuple [], ss, none⟩] (bodyT 4 (.tuple ss)) c
  | one {w : Str} {co : PyData} {b1 : List PyData} {r : List Blk} {ys : List Str} {c n c1 : Nat} : StkT k r ys c → r.length + n = 4 → (w = "if" ∨ w = "while") → isCond co = true → Lay co → bodyN k n (.tuple b1) = some c1 → Lay (.tuple b1) →
      StkT k (⟨w, co, b1, none⟩ :: r) (ys ++ (condT w co :: bodyT n (.tuple b1))) (c + 1 + c1)
  | two {co : PyData} {b1 b2 : List PyData} {r : List Blk} {ys : List Str} {c n c1 c2 : Nat} : StkT k r ys c → r.length + n = 4 → isCond co = true → Lay co → bodyN k n (.tuple b1) = some c1 → Lay (.tuple b1) → bodyN k n (.tuple b2) = some c2 → Lay (.tuple b2) →
      StkT k (⟨"if", co, b1, some b2⟩ :: r) (ys ++ (condT "if" co :: (bodyT n (.tuple b1) ++ ("else" : Str) :: bodyT n (.tuple b2)))) (c + 1 + c1 + c2)
theorem StkT.ne {k : Str} {r : List Blk} {ys : List Str} {c : Nat} (h : StkT k r ys c) : r ≠ [] := by cases h <;> simp
/-- a statement is added to the innermost body -/
theorem StkT.add {k : Str} {b : Blk} {r : List Blk} {ys : List Str} {c a m : Nat} {s : PyData} (h : StkT k (b :: r) ys c) (hm : r.length + (m + 1) = 4) (hs : stN k m s = some a) (hl : Lay s) : StkT k (addL [s] b :: r) (ys ++ stT (bodyT m) s) (c + a) := by
  cases h with
  | base hb hL =>
    have : m = 3 := by simpa using hm
    subst this
    rw [← bodyT_snoc]
    exact .base (body_snoc hb hs) (lay_snoc hL hl)
  | @one w co b1 r ys c n c1 h hn hw hc hlc hb hL =>
    obtain rfl : n = m + 1 := by omega
    rw [List.append_assoc, List.cons_append, ← bodyT_snoc, Nat.add_assoc]
    exact .one h hn hw hc hlc (body_snoc hb hs) (lay_snoc hL hl)
  | @two co b1 b2 r ys c n c1 c2 h hn hc hlc hb hL hb2 hL2 =>
    obtain rfl : n = m + 1 := by omega
    rw [List.append_assoc, List.cons_append, List.append_assoc, List.cons_append, ← bodyT_snoc, Nat.add_assoc]
    exact .two h hn hc hlc hb hL (body_snoc hb2 hs) (lay_snoc hL2 hl)
theorem StkT.len {k : Str} {r : List Blk} {ys : List Str} {c : Nat} (h : StkT k r ys c) : r.length ≤ 5 := by
  cases h with
  | base => simp
  | one _ hn => simp; omega
  | two _ hn => simp; omega
/-- the innermost block ends -/
theorem StkT.fin {k : Str} {b b' : Blk} {r : List Blk} {ys : List Str} {c : Nat} (h : StkT k (b :: b' :: r) ys c) (he : mayEnd b = true) : StkT k (addL [asStmt b] b' :: r) (ys ++ [("end" : Str)]) c := by
  generalize eq : b :: b' :: r = L at h
  cases h with
  | base hb hL => injection eq with _ e; cases e
  | @one w co b1 r0 ys c n c1 h hn hw hc hlc hb hL =>
    injection eq with e1 e2
    subst e1 e2
    have hr : r.length + (n + 1) = 4 := by rw [List.length_cons] at hn; omega
    have lw : Lay (.str w) := lay_str (by rcases hw with rfl | rfl <;> decide +kernel)
    rcases hw with rfl | rfl
    · have hs : stN k n (asStmt ⟨"if", co, b1, none⟩) = some (1 + (c1 + 0)) := st_ifC hc hb (bodyN_nil k n)
      have := h.add hr hs (lay_tuple fun d m => by
        have m' : d = .str "if" ∨ d = co ∨ d = .tuple b1 ∨ d = .tuple [] := by simpa using m
        rcases m' with rfl | rfl | rfl | rfl
        · exact lw
        · exact hlc
        · exact hL
        · exact lay_nil)
      have e3 : stT (bodyT n) (asStmt ⟨"if", co, b1, none⟩) = condT "if" co :: (bodyT n (.tuple b1) ++ [("end" : Str)]) := by
        show condT "if" co :: (bodyT n (.tuple b1) ++ (if isNil (.tuple []) = true then [] else _) ++ [("end" : Str)]) = _
        rw [if_pos (show isNil (.tuple []) = true from rfl), List.append_nil]
      rw [e3] at this
      rw [List.append_assoc, List.cons_append, show c + 1 + c1 = c + (1 + (c1 + 0)) by omega]
      exact this
    · have hs : stN k n (asStmt ⟨"while", co, b1, none⟩) = some (1 + c1) := st_whileC hc hb
      have := h.add hr hs (lay_tuple fun d m => by
        have m2 : d ∈ [PyData.str "while", co, .tuple b1] := m
        have m' : d = .str "while" ∨ d = co ∨ d = .tuple b1 := by simpa using m2
        rcases m' with rfl | rfl | rfl
        · exact lw
        · exact hlc
        · exact hL)
      have e3 : stT (bodyT n) (asStmt ⟨"while", co, b1, none⟩) = condT "while" co :: (bodyT n (.tuple b1) ++ [("end" : Str)]) := rfl
      rw [e3] at this
      rw [List.append_assoc, List.cons_append, show c + 1 + c1 = c + (1 + c1) by omega]
      exact this
  | @two co b1 b2 r0 ys c n c1 c2 h hn hc hlc hb hL hb2 hL2 =>
    injection eq with e1 e2
    subst e1 e2
    have hr : r.length + (n + 1) = 4 := by rw [List.length_cons] at hn; omega
    have hne : b2 ≠ [] := by
      intro e
      subst e
      have : mayEnd ⟨"if", co, b1, some []⟩ = false := rfl
      rw [this] at he
      cases he
    have hs : stN k n (asStmt ⟨"if", co, b1, some b2⟩) = some (1 + (c1 + c2)) := st_ifC hc hb hb2
    have := h.add hr hs (lay_tuple fun d m => by
      have m' : d = .str "if" ∨ d = co ∨ d = .tuple b1 ∨ d = .tuple b2 := by simpa using m
      rcases m' with rfl | rfl | rfl | rfl
      · exact lay_str (by decide +kernel)
      · exact hlc
      · exact hL
      · exact hL2)
    have e3 : stT (bodyT n) (asStmt ⟨"if", co, b1, some b2⟩) = condT "if" co :: ((bodyT n (.tuple b1) ++ ("else" : Str) :: bodyT n (.tuple b2)) ++ [("end" : Str)]) := by
      cases b2 with
      | nil => exact absurd rfl hne
      | cons x y => rfl
    rw [e3] at this
    rw [List.append_assoc, List.cons_append, show c + 1 + c1 + c2 = c + (1 + (c1 + c2)) by omega]
    exact this
theorem StkT.els {k : Str} {w : Str} {co : PyData} {b1 : List PyData} {b2 : Option (List PyData)} {r : List Blk} {ys : List Str} {c : Nat} (h : StkT k (⟨w, co, b1, b2⟩ :: r) ys c) (hb : mayBranch ⟨w, co, b1, b2⟩ = true) : StkT k (⟨w, co, b1, some []⟩ :: r) (ys ++ [("else" : Str)]) c := by
  unfold mayBranch at hb
  rw [Bool.and_eq_true] at hb
  have hw : w = "if" := of_decide_eq_true hb.1
  subst hw
  cases h with
  | @one _ _ _ _ ys c n c1 h hn hw hc hlc hbb hL =>
    have := StkT.two h hn hc hlc hbb hL (bodyN_nil k n) lay_nil
    rw [bodyT_nil] at this
    rw [List.append_assoc, List.cons_append]
    exact this
  | two => exact absurd hb.2 (by simp)
theorem StkT.opn {k : Str} {r : List Blk} {w : Str} {co : PyData} {ys : List Str} {c : Nat} (h : StkT k r ys c) (hr : r.length ≤ 4) (hw : w = "if" ∨ w = "while") (hc : isCond co = true) (hl : Lay co) : StkT k (⟨w, co, [], none⟩ :: r) (ys ++ [condT w co]) (c + 1) := by
  have := StkT.one (n := 4 - r.length) h (by omega) hw hc hl (bodyN_nil k _) lay_nil
  rw [bodyT_nil] at this
  exact this
/-! ### the text of a line that is taken -/
def LineB (y : Str) (d : PyData) : Prop := ∃ w ws, Txt.split y " " = w :: ws ∧ lineP w ws = d ∧ Txt.join " " (w :: ws) = y
theorem line_cond {y : Str} {d : PyData} (h : LineB y d) (ho : isOpen d = true) : ∃ w co, d = .tuple [.str w, co] ∧ (w = "if" ∨ w = "while") ∧ isCond co = true ∧ condT w co = y := by
  obtain ⟨w, ws, h1, rfl, h3⟩ := h
  by_cases hw : w = "if" ∨ w = "while"
  · rw [lineP_open hw] at ho ⊢
    refine ⟨w, _, rfl, hw, ?_, ?_⟩
    · have ho' : (decide (w = "if" ∨ w = "while") && isCond (.tuple (ws.map numW))) = true := ho
      rw [Bool.and_eq_true] at ho'
      exact ho'.2
    · show Txt.join " " ((PyData.str w :: ws.map numW).map strD) = y
      rw [List.map_cons, map_strD]
      exact h3
  · exfalso
    by_cases ha : w = "ask"
    · subst ha
      unfold lineP at ho
      rw [if_pos rfl] at ho
      unfold askP at ho
      split at ho
      · split at ho <;> cases ho
      · cases ho
    · rw [lineP_plain ha (fun e => hw (.inl e)) (fun e => hw (.inr e)), isOpen_plain (fun e => hw (.inl e)) (fun e => hw (.inr e))] at ho
      cases ho
theorem sw2 {p : Str} {a b : Nat} (h : Txt.startswith p ⟨#[a, b]⟩ = true) : ∃ r, tl p = a :: b :: r := by
  unfold Txt.startswith at h
  rw [Bool.and_eq_true] at h
  have h2 := h.2
  rw [PySem.StrLaws.subAt_eq] at h2
  have e : ((tl p).drop 0).take 2 = [a, b] := eq_of_beq h2
  rw [List.drop_zero] at e
  refine ⟨(tl p).drop 2, ?_⟩
  rw [← List.take_append_drop 2 (tl p), e]
  rfl
theorem cutS2 {p : Str} {a b : Nat} {r : List Nat} (h : tl p = a :: b :: r) : tl (cutS p (some 2) none) = r := by
  unfold cutS
  rw [show HT.sIx p.length 0 (some 2) = min 2 p.length from HT.sIx_nat _ _ 2, HT.sIx_none, show p.cps.toList = a :: b :: r from h, len_tl, h]
  rw [Nat.min_eq_left (by simp)]
  show ((a :: b :: r).drop 2).take _ = _
  rw [List.take_of_length_le (by simp)]
  rfl
theorem line_plain {k y : Str} {d : PyData} (h : LineB y d) (hp : isPlain d k = true) : plainT d = y := by
  obtain ⟨w, ws, h1, rfl, h3⟩ := h
  by_cases ha : w = "ask"
  · subst ha
    unfold lineP at hp ⊢
    rw [if_pos rfl] at hp ⊢
    unfold askP at hp ⊢
    split at hp
    · rename_i w' p x e
      injection e with e1 e2
      subst e2
      split
      · rename_i hs
        have hs' : ∃ g r, (g = 43 ∨ g = 45) ∧ tl p = 120 :: g :: r := by
          rcases hs with hs | hs
          · obtain ⟨r, e⟩ := sw2 (a := 120) (b := 43) hs
            exact ⟨43, r, .inl rfl, e⟩
          · obtain ⟨r, e⟩ := sw2 (a := 120) (b := 45) hs
            exact ⟨45, r, .inr rfl, e⟩
        obtain ⟨g, r, hg, et⟩ := hs'
        rw [plainT_ask]
        rw [← h3]
        unfold joinD
        rw [List.map_cons, List.map_cons, List.map_cons, List.map_nil]
        have e3 : strD (askW ⟨#[((tl p)[1]?).getD 0]⟩ (numW (cutS p (some 2) none))) = p := by
          rw [et]
          show strD (askW ⟨#[g]⟩ _) = p
          unfold askW
          rw [if_neg (by rcases hg with rfl | rfl <;> decide +kernel)]
          show (("x" : Str) ++ ⟨#[g]⟩) ++ strD _ = p
          rw [strD_num]
          apply ext_tl
          rw [tl_append, tl_append, cutS2 et, et]
          rfl
        have e4 : (p.cps.toList[1]?).getD 0 = ((tl p)[1]?).getD 0 := rfl
        rw [e4, e3]
        rfl
      · rw [plainT_ask, ← h3]
        unfold joinD
        rw [List.map_cons, List.map_cons, List.map_cons, List.map_nil]
        have e3 : strD (askW "=" (numW p)) = p := by
          unfold askW
          rw [if_pos rfl, strD_num]
        rw [e3]
        rfl
    · cases hp
  · by_cases hw : w = "if" ∨ w = "while"
    · rw [lineP_open hw] at hp
      have : isPlain (.tuple [.str w, .tuple (ws.map numW)]) k = false := by
        show (match rolesZ w k with | some rs => _ | none => false) = false
        rw [rolesZ_open hw]
      rw [this] at hp
      cases hp
    · rw [lineP_plain ha (fun e => hw (.inl e)) (fun e => hw (.inr e)), plainT_no ha]
      unfold joinD
      rw [List.map_cons, map_strD]
      exact h3
end My

namespace My
open PySem L2 TL
/-! ### a line is taken: the text, and the law's own list of blocks -/
theorem line_word {y : Str} {d : PyData} {z : Str} (hz : z ≠ "ask" ∧ z ≠ "if" ∧ z ≠ "while") (h : LineB y d) (hw : isW d z = true) : y = z ∧ d = .tuple [.str z] := by
  obtain ⟨w, ws, h1, rfl, h3⟩ := h
  rw [isW_line hz, decide_eq_true_iff] at hw
  obtain ⟨rfl, rfl⟩ := hw
  refine ⟨?_, ?_⟩
  · rw [← h3]
    rw [join_eq]
    rfl
  · rw [lineP_plain hz.1 hz.2.1 hz.2.2]
    rfl
theorem end_ne : ("end" : Str) ≠ "ask" ∧ ("end" : Str) ≠ "if" ∧ ("end" : Str) ≠ "while" := by decide +kernel
theorem else_ne : ("else" : Str) ≠ "ask" ∧ ("else" : Str) ≠ "if" ∧ ("else" : Str) ≠ "while" := by decide +kernel
theorem plain_stT {g : PyData → List Str} {k : Str} {d : PyData} (h : isPlain d k = true) : stT g d = [plainT d] := by
  obtain ⟨z, ps, rs, rfl, hz, _⟩ := plain_inv h
  obtain ⟨_, h1, h2, _⟩ := word_clean hz
  exact stT_plain h1 h2
theorem take_text {k : Str} {S : RS} {ys : List Str} {y : Str} {d : PyData} (h : StkT k (S.top :: S.rest) ys S.many) (hm : S.many ≤ 24) (hl : LineB y d) (hd : Lay d) (ha : allowsF k S d = true) :
    StkT k ((takeF S d).top :: (takeF S d).rest) (ys ++ [y]) (takeF S d).many ∧ (takeF S d).many ≤ 24 := by
  obtain ⟨m, t, r⟩ := S
  unfold allowsF at ha
  unfold takeF
  dsimp only at h hm ha ⊢
  cases c1 : isW d "end" with
  | true =>
    rw [if_pos c1] at ha
    rw [if_pos rfl]
    obtain ⟨rfl, _⟩ := line_word end_ne hl c1
    cases r with
    | nil =>
      exfalso
      cases h with
      | base => exact absurd ha (by simp [mayEnd]; decide +kernel)
      | one h' => exact h'.ne rfl
      | two h' => exact h'.ne rfl
    | cons n r => exact ⟨h.fin ha, hm⟩
  | false =>
    rw [if_neg (by rw [c1]; decide)] at ha
    rw [if_neg (by decide)]
    cases c2 : hasRoom ⟨m, t, r⟩ with
    | false => rw [if_pos c2] at ha; cases ha
    | true =>
    rw [if_neg (by rw [c2]; decide)] at ha
    unfold hasRoom at c2
    rw [Bool.and_eq_true, decide_eq_true_iff, decide_eq_true_iff] at c2
    dsimp only at c2
    cases c3 : isW d "else" with
    | true =>
      rw [if_pos c3] at ha
      rw [if_pos rfl]
      obtain ⟨rfl, _⟩ := line_word else_ne hl c3
      obtain ⟨w, co, b1, b2⟩ := t
      exact ⟨h.els ha, hm⟩
    | false =>
      rw [if_neg (by rw [c3]; decide)] at ha
      rw [if_neg (by decide)]
      cases c4 : isOpen d with
      | true =>
        rw [if_pos rfl]
        obtain ⟨w, co, rfl, hw, hco, e⟩ := line_cond hl c4
        have := h.opn (by rw [List.length_cons]; omega) hw hco (lay_mem (lay_tup hd) co (by simp))
        rw [e] at this
        exact ⟨this, by show m + 1 ≤ 24; omega⟩
      | false =>
        rw [if_neg (by decide)]
        rw [c4, Bool.false_or] at ha
        have := h.add (m := 3 - r.length) (by omega) (stN_plain ha) hd
        rw [plain_stT ha, line_plain hl ha] at this
        exact ⟨this, by show m + 1 ≤ 24; omega⟩
/-! ### the law's list of blocks -/
def tagTop (b : Blk) : Str := match b.b2 with
  | none => b.w
  | some [] => "bare else"
  | some _ => "else"
def tagIn (b : Blk) : Str := match b.b2 with
  | none => b.w
  | some _ => "else"
def tagsR : List Blk → List Str
  | [] => []
  | [_] => []
  | b :: c :: r => tagsR (c :: r) ++ [tagIn b]
def tags (t : Blk) : List Blk → List Str
  | [] => []
  | c :: r => tagsR (c :: r) ++ [tagTop t]
theorem tT0 {w : Str} {c : PyData} {b1 : List PyData} : tagTop ⟨w, c, b1, none⟩ = w := rfl
theorem tT1 {w : Str} {c : PyData} {b1 : List PyData} : tagTop ⟨w, c, b1, some []⟩ = "bare else" := rfl
theorem tT2 {w : Str} {c : PyData} {b1 : List PyData} {x : PyData} {y : List PyData} : tagTop ⟨w, c, b1, some (x :: y)⟩ = "else" := rfl
theorem tagsR_len : ∀ r : List Blk, (tagsR r).length = r.length - 1
  | [] => rfl
  | [_] => rfl
  | b :: c :: r => by
    show (tagsR (c :: r) ++ [tagIn b]).length = _
    rw [List.length_append, tagsR_len (c :: r)]
    simp
theorem tags_len (t : Blk) : ∀ r : List Blk, (tags t r).length = r.length
  | [] => rfl
  | c :: r => by
    show (tagsR (c :: r) ++ [tagTop t]).length = _
    rw [List.length_append, tagsR_len]
    simp
/-- what a stack of blocks is: the outermost is the program's body -/
def okB (t : Blk) (r : List Blk) : Prop := (r = [] → t.w = "" ∧ t.b2 = none) ∧ (r ≠ [] → (t.w = "if" ∨ t.w = "while") ∧ (t.b2 ≠ none → t.w = "if"))
theorem StkT.okB {k : Str} {t : Blk} {r : List Blk} {ys : List Str} {c : Nat} (h : StkT k (t :: r) ys c) : okB t r := by
  cases h with
  | base => exact ⟨fun _ => ⟨rfl, rfl⟩, fun h => absurd rfl h⟩
  | one h' _ hw => exact ⟨fun e => absurd e h'.ne, fun _ => ⟨hw, fun h => absurd rfl h⟩⟩
  | two h' => exact ⟨fun e => absurd e h'.ne, fun _ => ⟨.inl rfl, fun _ => rfl⟩⟩
theorem StkT.tail {k : Str} {t n : Blk} {r : List Blk} {ys : List Str} {c : Nat} (h : StkT k (t :: n :: r) ys c) : ∃ ys' c', StkT k (n :: r) ys' c' := by
  generalize eq : t :: n :: r = L at h
  cases h with
  | base => injection eq with _ e; cases e
  | one h' => injection eq with _ e; rw [e]; exact ⟨_, _, h'⟩
  | two h' => injection eq with _ e; rw [e]; exact ⟨_, _, h'⟩
theorem mayEnd_tags {t : Blk} {r : List Blk} (h : okB t r) : mayEnd t = !(decide (tags t r = []) || decide ((tags t r).getLast? = some ("bare else" : Str))) := by
  cases r with
  | nil =>
    obtain ⟨h1, _⟩ := h.1 rfl
    show (decide (t.w = "if" ∨ t.w = "while") && _) = !(decide True || _)
    rw [decide_eq_false (by rw [h1]; decide +kernel)]
    rfl
  | cons c r =>
    obtain ⟨h1, h2⟩ := h.2 (by simp)
    obtain ⟨w, co, b1, b2⟩ := t
    have e1 : decide (tags ⟨w, co, b1, b2⟩ (c :: r) = []) = false := decide_eq_false (by simp [tags])
    have e2 : (tags ⟨w, co, b1, b2⟩ (c :: r)).getLast? = some (tagTop ⟨w, co, b1, b2⟩) := by simp [tags]
    rw [e1, e2, Bool.false_or]
    unfold mayEnd
    rw [decide_eq_true (show _ from h1), Bool.true_and]
    cases b2 with
    | none =>
      have hn : ¬ some w = some ("bare else" : Str) := by
        intro e
        injection e with e
        have h1' : w = "if" ∨ w = "while" := h1
        rw [e] at h1'
        revert h1'
        decide +kernel
      rw [tT0, decide_eq_false hn]
      rfl
    | some x =>
      cases x with
      | nil => rfl
      | cons a b =>
        rw [tT2, decide_eq_false (show ¬ some ("else" : Str) = some ("bare else" : Str) by decide +kernel)]
        simp
theorem mayBranch_tags {t : Blk} {r : List Blk} (h : okB t r) : mayBranch t = decide ((tags t r).getLast? = some ("if" : Str)) := by
  cases r with
  | nil =>
    obtain ⟨h1, _⟩ := h.1 rfl
    show (decide (t.w = "if") && _) = decide (none = some _)
    rw [decide_eq_false (by rw [h1]; decide +kernel)]
    rfl
  | cons c r =>
    obtain ⟨w, co, b1, b2⟩ := t
    have e2 : (tags ⟨w, co, b1, b2⟩ (c :: r)).getLast? = some (tagTop ⟨w, co, b1, b2⟩) := by simp [tags]
    rw [e2]
    unfold mayBranch
    cases b2 with
    | none =>
      rw [tT0]
      simp
    | some x =>
      rw [show (some x).isNone = false from rfl, Bool.and_false]
      symm
      apply decide_eq_false
      cases x with
      | nil => rw [tT1]; decide +kernel
      | cons a b => rw [tT2]; decide +kernel
theorem room_tags (S : RS) : hasRoom S = (decide (S.many < 24) && decide ((tags S.top S.rest).length < 4)) := by
  unfold hasRoom
  rw [tags_len]
  rfl
theorem tagTop_add {s : PyData} {b : Blk} : tagTop (addL [s] b) = tagIn b := by
  obtain ⟨w, co, b1, b2⟩ := b
  cases b2 with
  | none => rfl
  | some x =>
    show tagTop ⟨w, co, b1, some (x ++ [s])⟩ = "else"
    cases x <;> rfl
/-- end -/
theorem tags_end {s : PyData} {n t : Blk} {r : List Blk} : tags (addL [s] n) r = (tags t (n :: r)).dropLast := by
  show _ = (tagsR (n :: r) ++ [tagTop t]).dropLast
  rw [List.dropLast_concat]
  cases r with
  | nil => rfl
  | cons c r =>
    show tagsR (c :: r) ++ [tagTop (addL [s] n)] = tagsR (c :: r) ++ [tagIn n]
    rw [tagTop_add]
/-- else -/
theorem tags_else {t : Blk} {r : List Blk} (hne : r ≠ []) : tags ⟨t.w, t.c, t.b1, some []⟩ r = (tags t r).dropLast ++ [("bare else" : Str)] := by
  cases r with
  | nil => exact absurd rfl hne
  | cons c r =>
    show tagsR (c :: r) ++ [tagTop _] = (tagsR (c :: r) ++ [tagTop t]).dropLast ++ [("bare else" : Str)]
    rw [List.dropLast_concat]
    rfl
/-- the list behind a statement: bare no more -/
def unbare (bl : List Str) : List Str := if bl.getLast? = some ("bare else" : Str) then bl.dropLast ++ [("else" : Str)] else bl
theorem unbare_tags {t : Blk} {r : List Blk} (h : okB t r) : unbare (tags t r) = (match r with | [] => [] | c :: r => tagsR (c :: r) ++ [tagIn t]) := by
  cases r with
  | nil => rfl
  | cons c r =>
    have e2 : (tags t (c :: r)).getLast? = some (tagTop t) := by simp [tags]
    obtain ⟨h1, _⟩ := h.2 (by simp)
    obtain ⟨w, co, b1, b2⟩ := t
    unfold unbare
    rw [e2]
    dsimp only
    cases b2 with
    | none =>
      have hn : ¬ some w = some ("bare else" : Str) := by
        intro e
        injection e with e
        have h1' : w = "if" ∨ w = "while" := h1
        rw [e] at h1'
        revert h1'
        decide +kernel
      rw [tT0, if_neg hn]
      rfl
    | some x =>
      cases x with
      | nil =>
        rw [tT1, if_pos rfl]
        show (tagsR (c :: r) ++ [tagTop _]).dropLast ++ [("else" : Str)] = _
        rw [List.dropLast_concat]
        rfl
      | cons a b =>
        rw [tT2, if_neg (show ¬ some ("else" : Str) = some ("bare else" : Str) by decide +kernel)]
        rfl
theorem tags_plain {s : PyData} {t : Blk} {r : List Blk} (h : okB t r) : tags (addL [s] t) r = unbare (tags t r) := by
  rw [unbare_tags h]
  cases r with
  | nil => rfl
  | cons c r =>
    show tagsR (c :: r) ++ [tagTop (addL [s] t)] = _
    rw [tagTop_add]
theorem tags_open {w : Str} {co : PyData} {t : Blk} {r : List Blk} (h : okB t r) : tags ⟨w, co, [], none⟩ (t :: r) = unbare (tags t r) ++ [w] := by
  rw [unbare_tags h]
  cases r with
  | nil => rfl
  | cons c r => rfl
end My

namespace My
open PySem L2 TL PySem.Spec PyProof.Rows
/-! ### BadText: its __init__ and how it is raised -/
abbrev sBTI : Stmt := inClass (top 2) 0
section
variable {X : Cx} {o e : Expr} {es : List Expr} {t0 : TE} {ta : TA} {apos pos : Pos} {cH : Addr} {mc : Value}
def tHeI (K : PySem.W.Frag) (cH : Addr) (t0 : TE) (ta : TA) : TE := fun σ H Q => t0 σ H fun x H0 => x = .ref cH ∧ ta σ H0 fun vs H1 => ∃ (a C : Addr) (ws : List V), vs = .ref a :: ws ∧ ws.length ≤ 1000 ∧ OexC K C ∧ H1 a = some (exo a C none) ∧ Q .non H1
theorem pe_heinit {pl : Sem Bool} (he : PE X o t0) (r : ClX.CRead X.K cH mc) (c : PySem.W.findCls X.K (.ref cH) mc "__init__" = some (.val (.builtin "ValueError.__init__"))) (ha : PA X (e :: es) ta)
    (hc : eval (.Call (.Attribute o "__init__" apos) (e :: es) [] pos) X.env = (do
      let ov ← eval o X.env
      standAt apos.atName
      let (f, first) ← holding [ov] (getMethod ov "__init__" pl)
      callWith pos f first (backTo pos (starEach (e :: es) X.env)) (backToKw pos (keywordEach [] X.env))) := by rfl)
    (hst : starEach (e :: es) X.env = (false, eval e X.env) :: starEach es X.env := by rfl) (hpl : (backTo pos (starEach es X.env)).any (·.1) = false := by rfl) :
    PE X (.Call (.Attribute o "__init__" apos) (e :: es) [] pos) (tHeI X.K cH t0 ta) := by
  refine ⟨fun pins s σ H Q I h => ?_⟩
  refine PySem.W.methodCall_KW (pl := pl) (thn (he.run pins s σ H _ I h) fun u s1 ⟨x, H1, I1, rx, ex, q⟩ => ?_) hc
  subst ex
  obtain rfl : u = Value.ref cH := rx
  refine PySem.W.method_cls I1.kIn r.ga (PySem.W.cls_value I1.kIn r.rd c (by decide +kernel) ?_)
  show wpAny _ _ (callWith pos (Value.builtin "ValueError.__init__") [] (backTo pos (starEach (e :: es) X.env)) []) _ _ _
  refine PyProof.Rows.callWith_method1 (thn (ha.run pos pins _ σ H1 _ (I1.tok _) q) fun us s3 ⟨vs, H2, I3, r3, a, C, ws, ev, hl, T, ea, q3⟩ => ?_) hst hpl
  subst ev
  cases r3 with
  | @cons _ u0 _ ur ra rw' =>
    obtain rfl : u0 = Value.ref a := ra
    have hlen : ur.length ≤ sizeLine := by
      rw [← Paired.length rw', sizeLine_eq]
      omega
    exact oinit_ok T I3 ea hlen fun s' J => ⟨.non, H2, J, rfl, q3⟩
end
/-- what the top has written of BadText -/
structure Bt (K : PySem.W.Frag) (mg : Str → Option Value) where
  cT : Addr
  cH : Addr
  gT : mg "BadText" = some (.ref cT)
  gH : mg "HouseError" = some (.ref cH)
  ox : OexC K cT
  xf : XfC K cT
  nl : PySem.W.findIn K (.ref cT) "line" = some none
  rd : ClX.CRead K cH (.type "type")
  fc : PySem.W.findCls K (.ref cH) (.type "type") "__init__" = some (.val (.builtin "ValueError.__init__"))
def spBTI (K : PySem.W.Frag) (C : Addr) : Sp := fun vs H Q _ => ∃ (a : Addr) (i : Nat), vs = [.ref a, .int (i : Nat)] ∧ i ≤ 100000 ∧ H a = some (exo a C none) ∧ ∀ dx, H dx = none → dx ≠ a → Q .non (upd (upd H dx (exd dx [("line", .int (i : Nat))])) a (exo a C (some dx)))
theorem log2_le {i : Nat} (h : i ≤ 100000) : ((i : Nat) : Int).natAbs.log2 < 1920 := by
  rw [Int.natAbs_natCast]
  by_cases h0 : i = 0
  · subst h0; decide
  · have : i.log2 < 17 := (Nat.log2_lt h0).mpr (by omega)
    omega
theorem str_app_len (x y : Str) : (x ++ y).length = x.length + y.length := by
  rw [len_tl, tl_append, List.length_append, ← len_tl, ← len_tl]
theorem int_len {i : Nat} (h : i ≤ 100000) : (Str.ofString (toString ((i : Nat) : Int))).length ≤ 6 := by
  rw [len_tl, tl_num]
  exact numL_len (by decide) (by omega)
section
variable {P : Program} {w : World} {K : PySem.W.Frag} {mg : Str → Option Value} {base : Heap}
theorem scBTI : FnScope ["self", "line"] ["self", "line"] (defScope sBTI) := ⟨rfl, rfl, rfl, by decide +kernel, rfl, by decide +kernel, by decide +kernel⟩
theorem ok_BTI {f : Addr} {fd : FuncData} (F : FunD K "__init__" "BadText.__init__" (defArgs sBTI) (defBody sBTI) (defScope sBTI) [V.non] [] f fd) (B : Bt K mg) : FnOk P w K mg base CX0 1 f fd ["self", "line"] (spBTI K B.cT) := by
  refine F.ok scBTI (fun vs H Q E h => ?_) (fun cdv A outer s H vs Q E hr h => ?_)
  · obtain ⟨a, i, rfl, _⟩ := h
    rfl
  obtain ⟨a, i, rfl, hi, ea, q⟩ := h
  refine ⟨_, (pss_cons (ps_expr (pe_heinit (pe_gref rfl B.gH) B.rd B.fc (pa_cons (pv 0) (pa_cons (pe_joined (.cons pe_str (.cons (pe_fmt (pv 1)) (.cons pe_str .nil)))) pa_nil))))
    (pss_one (ps_ost (pv 0) (pv 1)))), ?_⟩
  have h6 := int_len hi
  refine ⟨rfl, _, rfl, _, rfl, ?_, _, rfl, .inr ⟨(i : Int), rfl, log2_le hi, _, rfl, ?_, _, rfl, ?_, ?_⟩⟩
  · rw [str_app_len]; exact Nat.le_trans (by decide +kernel : _ ≤ 100) (by decide)
  · rw [str_app_len, str_app_len]
    have : (Str.empty.length + (Str.ofString "this is not the text of a program (line ").length) ≤ 100 := by decide +kernel
    have h7 : (Str.ofString (toString ((i : Nat) : Int))).length ≤ 6 := h6
    exact Nat.le_trans (Nat.add_le_add this h7) (by decide)
  · rw [str_app_len, str_app_len, str_app_len]
    have : (Str.empty.length + (Str.ofString "this is not the text of a program (line ").length) ≤ 100 := by decide +kernel
    have h8 : (Str.ofString ")").length ≤ 1 := by decide +kernel
    have h7 : (Str.ofString (toString ((i : Nat) : Int))).length ≤ 6 := h6
    exact Nat.le_trans (Nat.add_le_add (Nat.add_le_add this h7) h8) (by decide)
  · refine ⟨a, B.cT, _, rfl, (by show 1 ≤ 1000; decide), B.ox, ea, ?_⟩
    exact ⟨_, rfl, _, rfl, a, B.cT, rfl, B.ox, B.nl, .inl ⟨ea, fun dx n1 n2 => q dx n1 n2⟩⟩
theorem bti_b {f : Addr} {fd : FuncData} (F : FunD K "__init__" "BadText.__init__" (defArgs sBTI) (defBody sBTI) (defScope sBTI) [V.non] [] f fd) : Binds K fd ["self", "line"] [] := by
  obtain ⟨ds, h1, h2⟩ := F.binds1 (ps := ["self", "line"]) 2 1 (by simp) rfl fun T kV doc pm an cdv ct us its h1 h2 => match us, its, h1, h2 with | [_, _], [_], _, _ => ⟨_, rfl, rfl⟩
  cases h1
  exact h2
end
end My

namespace My
open PySem L2 TL
/-! ### read, of any text -/
abbrev sRead : Stmt := top 25
abbrev nsRead : List Str := ["text", "lines", "reader", "at", "line", "parts"]
/-- the index of the first line that cannot stand; at the end, whether lines are missing -/
def badF (k : Str) : RS → List PyData → Nat → Option Nat
  | S, [], i => if S.rest = [] then none else some i
  | S, d :: ds, i => if allowsF k S d = true then badF k (takeF S d) ds (i + 1) else some i
def LineH (y : Str) (d : PyData) : Prop := (∃ w ws, Txt.split y " " = w :: ws ∧ lineP w ws = d ∧ (∀ u ∈ w :: ws, u.length ≤ 5000) ∧ ws.length ≤ 5000 ∧ Txt.join " " (w :: ws) = y) ∧ goodD d
theorem LineH.b {y : Str} {d : PyData} (h : LineH y d) : LineB y d := by
  obtain ⟨⟨w, ws, h1, h2, _, _, h3⟩, _⟩ := h
  exact ⟨w, ws, h1, h2, h3⟩
theorem LineH.lay {y : Str} {d : PyData} (h : LineH y d) : Lay d := by
  obtain ⟨_, ds, _, hl, _⟩ := h
  exact hl
def spReadX (K : PySem.W.Frag) (cT : Addr) : Sp := fun vs H Q E => ∃ (z k : Str) (ls : List Str) (ds : List PyData), vs = [.str z] ∧ z.length + 2 ≤ sizeLine ∧ Txt.split z "\n" = k :: ls ∧ Lay (.str k) ∧ Paired LineH ls ds ∧ ls.length ≤ 1000 ∧ (∀ y ∈ ls, y.length ≤ 5000) ∧
  (∀ i, (inS (.str k) kinds = false ∧ i = 0 ∨ inS (.str k) kinds = true ∧ badF k R0 ds 1 = some i) → ∀ H' d, Same H H' → H d = none → H' d = some (.xd [("line", .int (i : Nat))]) → E (.ref cT) (some d) H') ∧
  (∀ ss c, inS (.str k) kinds = true → badF k R0 ds 1 = none → bodyT 4 (.tuple ss) = ls → bodyN k 4 (.tuple ss) = some c → c ≤ 24 → Lay (.tuple ss) → ∀ H' p, Same H H' → H p = none → Dt K H' (.ref p) (.tuple [.str k, .tuple ss]) → Q (.ref p) H')
theorem paired_len {α β : Type} {R : α → β → Prop} : ∀ {as : List α} {bs : List β}, Paired R as bs → bs.length = as.length
  | _, _, .nil => rfl
  | _, _, .cons _ t => by rw [List.length_cons, List.length_cons, paired_len t]
theorem walk_enum1 {K : PySem.W.Frag} {a : Addr} {xs : List V} : Walk (Ite1 K a) xs.length (fun H => SqL K H a xs) (YPair (fun i => some (.int ((i : Nat) + 1 : Int))) (fun i => xs[i]?)) := by
  refine ⟨fun i _ hi q => ⟨xs, xs[i], q, by simp [hi]⟩, fun _ q => ⟨xs, q, rfl⟩, fun i H v H' _ q y => ?_⟩
  obtain ⟨T, x, h1, h2, h3, h4⟩ := y
  exact ⟨T, _, x, h1, h2, h3, rfl, h4 xs q⟩
theorem RdA.ext {K : PySem.W.Frag} {H0 H : Hp} {CR CB r dx lb b : Addr} {bs os : List Addr} {k : Str} {S : RS} {o : HO} (h : RdA K H0 H CR CB r dx lb bs os k S) (nb : H b = none) : RdA K (upd H0 b o) (upd H b o) CR CB r dx lb bs os k S := by
  have h' := h.same (same_new nb o)
  have nr : r ≠ b := fun z => by have := h.ob; rw [z, nb] at this; cases this
  have no : ∀ p ∈ lb :: os, p ≠ b := fun p m z => by
    have : ∃ xs, H p = some (.lst xs) := by
      rcases List.mem_cons.mp m with rfl | m
      · exact ⟨_, h.hb⟩
      · exact h.st.lists p m
    obtain ⟨xs, e⟩ := this
    rw [z, nb] at e
    cases e
  refine ⟨h'.ob, h'.hb, h'.st, h'.nd, by rw [upd_ne nr]; exact h.fr, fun p m => by rw [upd_ne (no p m)]; exact h.fo p m, fun p x e => ?_⟩
  by_cases c : p = b
  · rw [c, upd_same] at e ⊢; exact e
  · rw [upd_ne c] at e ⊢; exact h.sm p x e
/-- behind the making of an error: only its dict is new -/
theorem exc_same {H : Hp} {a dx C : Addr} {i : Nat} (na : H a = none) (nd : H dx = none) (hda : dx ≠ a) : Same H (upd (del (upd (upd (upd H a (exo a C none)) dx (exd dx [("line", .int (i : Nat))])) a (exo a C (some dx))) a) dx (.xd [("line", .int (i : Nat))])) := fun x o hx => by
  have hxa : x ≠ a := fun e => by rw [e, na] at hx; cases hx
  have hxd : x ≠ dx := fun e => by rw [e, nd] at hx; cases hx
  rw [upd_ne hxd, del_ne hxa, upd_ne hxa, upd_ne hxd, upd_ne hxa]
  exact hx
section
variable {P : Program} {w : World} {K : PySem.W.Frag} {mg : Str → Option Value} {base : Heap}
/-- raise BadText(..): what it asks -/
theorem bti_end {H H0 : Hp} {C : Addr} {i : Nat} {W : XK} (s : Same H0 H) (hi : i ≤ 100000) (h : ∀ H' d, Same H0 H' → H0 d = none → H' d = some (.xd [("line", .int (i : Nat))]) → W (.ref C) (some d) H') :
    [V.int (i : Nat)].length ≤ 1000 ∧ ∀ a, H a = none → spBTI K C (.ref a :: ([V.int (i : Nat)] ++ [])) (upd H a (exo a C none))
      (fun v H2 => v = .non ∧ ∃ (d : Addr) (fs : List (Str × V)), H2 a = some (exo a C (some d)) ∧ H2 d = some (exd d fs) ∧ H d = none ∧ W (.ref C) (some d) (upd (del H2 a) d (.xd fs))) (fun _ _ _ => False) := by
  refine ⟨by show 1 ≤ 1000; decide, fun a na => ⟨a, i, rfl, hi, upd_same, fun dx n1 n2 => ⟨rfl, dx, [("line", .int (i : Nat))], upd_same, ?_, ?_, ?_⟩⟩⟩
  · rw [upd_ne n2, upd_same]
  · rw [upd_ne n2] at n1; exact n1
  · rw [upd_ne n2] at n1
    exact h _ _ (s.trans (exc_same na n1 n2)) (s.free n1) upd_same
theorem scRead : FnScope nsRead ["text"] (defScope sRead) := ⟨rfl, rfl, rfl, by decide +kernel, rfl, by decide +kernel, by decide +kernel⟩
theorem ok_ReadX {f CR CB fI fE : Addr} {fd dI dE : FuncData} (F : Fun K "read" "read" sRead f fd) (T : Gs K mg) (me : mg "enumerate" = none) (N : DNo K CR) (B : Bt K mg)
    (iE : PySem.W.findIn K (.ref B.cT) "__init__" = some (some (.ref fE))) (tE : PySem.W.typeIn K (.ref fE) = some (.type "function")) (GE : FnOk P w K mg base CX0 1 fE dE ["self", "line"] (spBTI K B.cT)) (bE : Binds K dE ["self", "line"] [])
    (gD : mg "Reader" = some (.ref CR)) (DM : Mk K CR fI) (DG : FnOk P w K mg base CX0 3 fI dI ["self", "kind"] (spDI K CR CB)) (bD : Binds K dI ["self", "kind"] [])
    (CL : Cal P w K mg base 4 "line_parts" ["line"] (spLP K)) (MAl : MCl P w K mg base 6 CR "allows" ["self", "parts"] (spDA K CR CB)) (MTk : MCl P w K mg base 6 CR "take" ["self", "parts"] (spDT K CR CB)) (MC : MCl P w K mg base 1 CR "is_complete" ["self"] (spDC K CR CB)) (MP : MCl P w K mg base 1 CR "as_program" ["self"] (spDP K CR CB)) :
    FnOk P w K mg base (L2.CX P w) 7 f fd ["text"] (spReadX K B.cT) := by
  refine F.okX scRead (fun vs H Q E h => ?_) (fun cdv A outer s H vs Q E hr h => ?_)
  · obtain ⟨z, k, ls, ds, rfl, _⟩ := h
    rfl
  obtain ⟨z, k, ls, ds, rfl, hz, hsp, hkl, hp, hll, hly, qE, q⟩ := h
  have hr1 : Room 1 _ := hr.mono (by decide)
  have hr2 : Room 2 _ := hr.mono (by decide)
  have hr4 : Room 4 _ := hr.mono (by decide)
  refine ⟨_, (pss_cons (ps_if (pt_not (pt_val (pe_callB call_isi (by rfl) T.isi (by decide +kernel) (pa_cons (pv 0) (pa_cons (pe_bltn (v := .ty "str") (by rfl) T.str (by decide +kernel) rfl) pa_nil)))))
    (pss_one ps_never)
    pss_nil)
  (pss_cons (ps_set (i := 1) scRead.nd rfl (.inl rfl) (pe_m1 PySem.F.slot_str_split PySem.F.type_str_split mt_split (pv 0) pe_str))
  (pss_cons (ps_if (pt_cmpR (op_notInS (hu65 hr)) (pe_ix ix_list (pv 1) pe_int (fun _ _ => rfl)) (pe_gref rfl T.mK) (by rfl))
    (pss_one (ps_raise rfl (takes_of rfl rfl rfl rfl) (pmk_oex B.ox iE tE GE hr2 bE .nil pass0 rfl B.gT (pa_cons pe_int pa_nil))))
    pss_nil)
  (pss_cons (ps_set (i := 2) scRead.nd rfl (.inl rfl) (pe_make DM DG hr4 rfl gD bD .nil pass0 (pa_cons (pe_ix ix_list (pv 1) pe_int (fun _ _ => rfl)) pa_nil)))
  (pss_cons (ps_for (passes_of rfl) rfl (pi_enum1 (by rfl) me (pa_cons (pe_slice sl_list (pv 1) (po_some pe_int) po_none) pa_nil) (pk_cons pe_int pk_nil)) (pg_tup (by rfl) (pgs_cons (pg_name (i := 3) scRead.nd rfl (.inl rfl)) (pgs_cons (pg_name (i := 4) scRead.nd rfl (.inl rfl)) pgs_nil)))
    (pss_cons (ps_set (i := 5) scRead.nd rfl (.inl rfl) (pe_call CL.G hr4 rfl CL.m CL.kp CL.b .nil pass0 (pa_cons (pv 4) pa_nil)))
    (pss_cons (ps_if (pt_not (pt_val (pe_meth (pv 2) N.cl MAl.m MAl.G hr MAl.b .nil pass0 (pa_cons (pv 5) pa_nil))))
      (pss_one (ps_raise rfl (takes_of rfl rfl rfl rfl) (pmk_oex B.ox iE tE GE hr2 bE .nil pass0 rfl B.gT (pa_cons (pv 3) pa_nil))))
      pss_nil)
    (pss_one (ps_expr (pe_meth (pv 2) N.cl MTk.m MTk.G hr MTk.b .nil pass0 (pa_cons (pv 5) pa_nil)))))))
  (pss_cons (ps_if (pt_not (pt_val (pe_meth0 (pv 2) N.cl MC.m MC.G hr1 MC.b .nil pass0)))
    (pss_one (ps_raise rfl (takes_of rfl rfl rfl rfl) (pmk_oex B.ox iE tE GE hr2 bE .nil pass0 rfl B.gT (pa_cons (pe_callB call_len_seq (by rfl) T.len PySem.boot_len (pa_cons (pv 1) pa_nil)) pa_nil))))
    pss_nil)
  (pss_one (ps_ret (pe_meth0 (pv 2) N.cl MP.m MP.G hr1 MP.b .nil pass0))))))))), ?_⟩
  have hd0 : Dp K H (.str z) (.str z) := .str z
  refine ⟨_, rfl, .str z, .ty "str", _, _, _, rfl, .ty _, dp_ty hd0, kit_isT (.str z) (by simp) (dp_nd hd0), _, rfl, ?_⟩
  refine iteF ?_
  refine ⟨_, rfl, ⟨z, rfl⟩, z, _, rfl, rfl, (by decide +kernel), hz, fun a na => ?_⟩
  rw [hsp]
  have u1 := same_new na (.lst ((k :: ls).map V.str))
  have e1 : (upd H a (.lst ((k :: ls).map V.str))) a = some (.lst ((k :: ls).map V.str)) := upd_same
  generalize upd H a (.lst ((k :: ls).map V.str)) = H1 at u1 e1 ⊢
  dsimp only [List.set_cons_succ, List.set_cons_zero]
  refine ⟨_, rfl, a, _, _, _, rfl, rfl, SqL.of e1, atI_nat (j := 0) rfl, .str k, kinds, T.aK, rfl, .str k, hkl, T.kK _, by decide +kernel, _, rfl, ?_⟩
  rw [if_pos rfl]
  cases hk : inS (.str k) kinds with
  | false =>
    refine iteT ?_
    exact bti_end (i := 0) u1 (by decide) fun H' d s n e => qE 0 (.inl ⟨hk, rfl⟩) H' d s n e
  | true =>
  refine iteF ?_
  refine ⟨_, rfl, a, _, _, _, rfl, rfl, SqL.of e1, atI_nat (j := 0) rfl, fun r dx nr ndx ndd => ⟨H1, r, dx, k, rfl, upd_same, made_same0 nr ndx, nr, fun H3 lb bs os hA => ⟨rfl, ?_⟩⟩⟩
  dsimp only [List.set_cons_succ, List.set_cons_zero]
  refine ⟨_, rfl, _, rfl, a, _, rfl, SqL.of (hA.sm _ _ e1), fun b nb => ?_⟩
  rw [show cutV ((k :: ls).map V.str) (some 1) none = ls.map V.str from cut_hi _ 1]
  have hB := hA.ext (o := .lst (ls.map V.str)) nb
  have e4 : (upd H3 b (.lst (ls.map V.str))) b = some (.lst (ls.map V.str)) := upd_same
  have sH0 : Same H (upd H1 b (.lst (ls.map V.str))) := u1.trans (same_new (hA.sm.free nb) _)
  have eb0 : (upd H1 b (.lst (ls.map V.str))) b = some (.lst (ls.map V.str)) := upd_same
  have ea0 : (upd H1 b (.lst (ls.map V.str))) a = some (.lst ((k :: ls).map V.str)) := same_new (hA.sm.free nb) _ _ _ e1
  generalize upd H3 b (.lst (ls.map V.str)) = H4 at hB e4 ⊢
  generalize upd H1 b (.lst (ls.map V.str)) = H0 at hB sH0 eb0 ea0 ⊢
  obtain ⟨z1, z2, z3⟩ := ok_R0
  have hst0 : StkT k (R0.top :: R0.rest) [] R0.many := by
    have := StkT.base (k := k) (ss := []) (bodyN_nil k 4) lay_nil
    rw [bodyT_nil] at this
    exact this
  refine ⟨b, ls.map V.str, rfl, SqL.of e4, for_it (walk_enum1 (K := K) (a := b) (xs := ls.map V.str)) (fun i σ Hx => ∃ (S : RS) (bs os : List Addr) (s3 s4 s5 : Option V), σ = [some (.str z), some (.ref a), some (.ref r), s3, s4, s5] ∧ RdA K H0 Hx CR CB r dx lb bs os k S ∧ badF k S (ds.drop i) (1 + i) = badF k R0 ds 1 ∧ lenOk i S ∧ botOk S ∧ S.rest.length ≤ 4 ∧ StkT k (S.top :: S.rest) (ls.take i) S.many ∧ S.many ≤ 24)
    ⟨R0, bs, os, none, none, none, rfl, hB, rfl, z1, z2, z3, hst0, Nat.zero_le _⟩ (fun i σ Hx _ ⟨S, bs, os, s3, s4, s5, _, hx, _⟩ => SqL.of (hx.sm _ _ eb0)) ?_ ?_⟩
  · rintro i y σ Hx Hy hi ⟨S, bs, os, s3, s4, s5, rfl, hx, hr', hl', hb', hr4', hst, hm24⟩ ⟨tp, x1, y1, rfl, ntp, rfl, ex1, ey1⟩
    cases ex1
    have ey1 : (ls.map V.str)[i]? = some y1 := ey1
    rw [List.getElem?_map] at ey1
    cases hu : ls[i]? with
    | none => rw [hu] at ey1; cases ey1
    | some ln =>
    rw [hu] at ey1
    cases ey1
    obtain ⟨d, hd, hLH⟩ := paired_at hp hu
    have hLB := hLH.b
    have hLL := hLH.lay
    obtain ⟨⟨wd, ws, l1, l2, l3, l4, l5⟩, ds', rfl, hly', hsh, hfs⟩ := hLH
    have u5 := same_new ntp (.tup [.int ((i : Nat) + 1 : Int), .str ln])
    have e5 : (upd Hx tp (.tup [.int ((i : Nat) + 1 : Int), .str ln])) tp = some (.tup [.int ((i : Nat) + 1 : Int), .str ln]) := upd_same
    generalize upd Hx tp (.tup [.int ((i : Nat) + 1 : Int), .str ln]) = H5 at u5 e5 ⊢
    refine ⟨tp, _, rfl, SqT.of e5, rfl, _, _, rfl, _, _, rfl, rfl, ?_⟩
    dsimp only [List.set_cons_succ, List.set_cons_zero]
    have hln : ln.length ≤ 5000 := hly ln (List.mem_of_getElem? hu)
    refine ⟨_, rfl, ln, wd, ws, rfl, Nat.le_trans (by omega : _ ≤ 6000) (by decide), l1, fun u mu => Nat.le_trans (l3 u mu) (by decide), by omega, fun H6 tq u6 ntq dtq => ?_⟩
    rw [l2] at dtq
    dsimp only [List.set_cons_succ, List.set_cons_zero]
    have hdrop : ds.drop i = .tuple ds' :: ds.drop (i + 1) := by
      obtain ⟨hlt, he⟩ := List.getElem?_eq_some_iff.mp hd
      rw [List.drop_eq_getElem_cons hlt, he]
    rw [hdrop] at hr'
    have hi' : i < ls.length := (List.getElem?_eq_some_iff.mp hu).1
    have hx6 := hx.same (u5.trans u6)
    refine ⟨_, rfl, r, dx, _, rfl, hx6.ob, rfl, _, rfl, H0, r, dx, lb, bs, os, k, S, .ref tq, ds', rfl, hx6, dtq, hly', hsh, hfs, fun H7 u7 => ⟨_, rfl, ?_⟩⟩
    have hx7 := hx6.same u7
    cases hall : allowsF k S (.tuple ds') with
    | false =>
      refine iteT ?_
      have hr'' : (if allowsF k S (.tuple ds') = true then badF k (takeF S (.tuple ds')) (ds.drop (i + 1)) (1 + i + 1) else some (1 + i)) = badF k R0 ds 1 := hr'
      rw [hall, if_neg (by decide)] at hr''
      have e : ((i : Nat) + 1 : Int) = ((1 + i : Nat) : Int) := by push_cast; omega
      refine ⟨_, rfl, ?_⟩
      dsimp only [tNil]
      rw [e]
      exact bti_end (i := 1 + i) (sH0.trans hx7.sm) (by omega) fun H' d' s n e' => qE (1 + i) (.inr ⟨hk, hr''.symm⟩) H' d' s n e'
    | true =>
    refine iteF ?_
    have hr'' : (if allowsF k S (.tuple ds') = true then badF k (takeF S (.tuple ds')) (ds.drop (i + 1)) (1 + i + 1) else some (1 + i)) = badF k R0 ds 1 := hr'
    rw [hall, if_pos rfl] at hr''
    obtain ⟨t1, t2, t3, t4, t5⟩ := take_ok hall hl' hb' hr4'
    obtain ⟨st', m24'⟩ := take_text hst hm24 hLB hLL hall
    refine ⟨_, rfl, r, dx, _, rfl, hx7.ob, rfl, _, rfl, H0, r, dx, lb, bs, os, k, S, .ref tq, ds', i, rfl, hx7, hl', by omega, by omega, dp_mono (KeepT.of u7).same _ _ dtq, hly', hsh, hfs, t4, t5, fun H8 bs8 os8 h8 _ => ?_⟩
    have et : ls.take (i + 1) = ls.take i ++ [ln] := by
      rw [List.take_add_one, hu]
      rfl
    refine ⟨_, bs8, os8, _, _, _, rfl, h8, by rw [← hr'', Nat.add_assoc], t1, t2, t3, ?_, m24'⟩
    rw [et]
    exact st'
  · rintro σ Hx ⟨S, bs, os, s3, s4, s5, rfl, hx, hr', hl', hb', hr4', hst, hm24⟩
    have hdl : ds.length = ls.length := paired_len hp
    rw [List.length_map, ← hdl, List.drop_length] at hr'
    rw [List.length_map, List.take_length] at hst
    have hr'' : (if S.rest = [] then none else some (1 + ds.length)) = badF k R0 ds 1 := hr'
    refine ⟨_, rfl, r, dx, _, rfl, hx.ob, rfl, H0, r, dx, lb, bs, os, k, _, rfl, hx, _, rfl, ?_⟩
    by_cases hrest : S.rest = []
    · rw [if_pos hrest] at hr''
      obtain ⟨m, t, rr⟩ := S
      dsimp only at hrest
      subst hrest
      have hfin : ∃ ss, t = ⟨"", .tuple [], ss, none⟩ ∧ bodyT 4 (.tuple ss) = ls ∧ bodyN k 4 (.tuple ss) = some m ∧ Lay (.tuple ss) := by
        generalize eqL : ls = L at hst
        generalize eqM : (⟨m, t, []⟩ : RS).many = M at hst
        dsimp only at eqM hst
        cases hst with
        | base h1 h2 => exact ⟨_, rfl, eqL.symm ▸ rfl, eqM ▸ h1, h2⟩
        | one h1 => exact absurd rfl h1.ne
        | two h1 => exact absurd rfl h1.ne
      obtain ⟨ss, rfl, f1, f2, f3⟩ := hfin
      refine iteF ?_
      refine ⟨_, rfl, r, dx, _, rfl, hx.ob, rfl, H0, r, dx, lb, bs, os, k, _, rfl, hx, rfl, fun H9 p u9 np dp => ?_⟩
      have sA := sH0.trans hx.sm
      exact q ss m hk hr''.symm f1 f2 hm24 f3 _ p (sA.trans u9) (sA.free np) dp
    · rw [if_neg hrest] at hr''
      rw [decide_eq_false hrest]
      refine iteT ?_
      refine ⟨_, rfl, a, _, rfl, .inl (SqL.of (hx.sm _ _ ea0)), ?_⟩
      rw [show ((k :: ls).map V.str).length = 1 + ds.length by rw [List.length_map, List.length_cons, hdl, Nat.add_comm]]
      exact bti_end (i := 1 + ds.length) (sH0.trans hx.sm) (by omega) fun H' d' s n e' => qE (1 + ds.length) (.inr ⟨hk, hr''.symm⟩) H' d' s n e'
end
end My

namespace My
open PySem L2 TL
/-! ### the law's own tests: a number, a term, a line -/
abbrev sNum : Stmt := top 40
abbrev sWT : Stmt := top 41
abbrev nsNum : List Str := ["_law_text_here", "_law_least", "_law_most", "_law_sign"]
def spNum (K : PySem.W.Frag) : Sp := fun vs H Q _ => ∃ (z : Str) (lo hi : Int), vs = [.str z, .int lo, .int hi] ∧ z.length ≤ 5000 ∧ ∀ H', Same H H' → Q (.bl (intIn (numW z) lo hi)) H'
def spWT (K : PySem.W.Frag) : Sp := fun vs H Q _ => ∃ (z : Str), vs = [.str z] ∧ z.length ≤ 5000 ∧ ∀ H', Same H H' → Q (.bl (isTerm (numW z))) H'
theorem intIn_no {z : Str} {lo hi : Int} (h : isDec z = false) : intIn (numW z) lo hi = false := by
  rw [numW_str h]
  rfl
def isDg (c : Nat) : Bool := decide (c ∈ tl ("0123456789" : Str))
theorem isDg_iff (c : Nat) : isDg c = true ↔ 48 ≤ c ∧ c ≤ 57 := by
  unfold isDg
  rw [decide_eq_true_iff]
  have e : tl ("0123456789" : Str) = [48, 49, 50, 51, 52, 53, 54, 55, 56, 57] := by decide +kernel
  rw [e]
  simp only [List.mem_cons, List.not_mem_nil, or_false]
  omega
section
variable {P : Program} {w : World} {K : PySem.W.Frag} {mg : Str → Option Value} {base : Heap}
theorem scNum : FnScope nsNum ["_law_text_here", "_law_least", "_law_most"] (defScope sNum) := ⟨rfl, rfl, rfl, by decide +kernel, rfl, by decide +kernel, by decide +kernel⟩
theorem ok_Num {f : Addr} {fd : FuncData} (F : Fun K "_law_is_number" "_law_is_number" sNum f fd) (T : Gs K mg) : FnOk P w K mg base CX0 1 f fd ["_law_text_here", "_law_least", "_law_most"] (spNum K) := by
  refine F.ok scNum (fun vs H Q E h => ?_) (fun cdv A outer s H vs Q E hr h => ?_)
  · obtain ⟨z, lo, hi, rfl, _⟩ := h
    rfl
  obtain ⟨z, lo, hi, rfl, hz, q⟩ := h
  have hzl : z.length ≤ sizeLine := Nat.le_trans hz (by decide)
  refine ⟨_, (pss_cons (ps_if (PW.pt (pw_or (pt_not (pt_chain op_le op_le pe_int (pe_callB call_len_str (by rfl) T.len PySem.boot_len (pa_cons (pv 0) pa_nil)) pe_int)) (pw_or1 (pt_not (pt_val (pe_callB (cr_all rfl) (by rfl) T.all (by decide +kernel) (pa_cons (pe_lc (own := [("_law_sign", 3)]) (g := gName 3) (tt := tYes) rfl scNum.nd (pi_str (pv 0)) (blkOk_by (N := nsNum) (sc := defScope sNum) (by decide +kernel)) (fun _ _ _ _ _ => pg_name (i := 3) scNum.nd rfl (.inl rfl)) (fun _ _ _ _ _ => pts_nil) (fun _ _ _ _ _ => pe_cmpR op_in_str (pv 3) pe_str (by rfl))) pa_nil)))))))
    (pss_one (ps_ret pe_bl))
    pss_nil)
  (pss_cons (ps_if (PW.pt (pw_and (pt_cmpR op_gt (pe_callB call_len_str (by rfl) T.len PySem.boot_len (pa_cons (pv 0) pa_nil)) pe_int (nomark _)) (pw_and1 (pt_cmpR op_eq (pe_ix ix_str (pv 0) pe_int (fun _ _ => rfl)) pe_str (nomark _)))))
    (pss_one (ps_ret pe_bl))
    pss_nil)
  (pss_one (ps_ret (pe_chain op_le op_le (pv 1) (pe_callTy call_int_str (by rfl) T.int (by decide +kernel) (pa_cons (pv 0) pa_nil)) (pv 2)))))), ?_⟩
  have hlen : (tl z).length = z.length := (len_tl z).symm
  refine ⟨_, rfl, z, rfl, hzl, _, _, rfl, rfl, _, rfl, ?_⟩
  by_cases h1 : 1 ≤ z.length
  rotate_left
  · rw [decide_eq_false (by omega)]
    refine iteF ⟨_, rfl, iteT (iteT ?_)⟩
    have : isDec z = false := by
      cases hd : isDec z with
      | false => rfl
      | true =>
        obtain ⟨_, h2, _⟩ := (dec_iff z).mp hd
        have := List.length_pos_iff.mpr h2
        omega
    rw [intIn_no this] at q
    exact q _ (Same.refl _)
  rw [decide_eq_true (by omega)]
  refine iteT ⟨_, _, rfl, rfl, _, rfl, ?_⟩
  by_cases h2 : z.length ≤ 31
  rotate_left
  · rw [decide_eq_false (by omega)]
    refine iteT (iteT ?_)
    have : isDec z = false := by
      cases hd : isDec z with
      | false => rfl
      | true =>
        obtain ⟨_, _, h3, _⟩ := (dec_iff z).mp hd
        omega
    rw [intIn_no this] at q
    exact q _ (Same.refl _)
  rw [decide_eq_true (by omega)]
  refine iteF ?_
  refine ⟨_, rfl, z, rfl, fun D nD => lc_it (walk_str (z := z)) (fun i H' => Same H H' ∧ H' D = some (.lst ((((tl z).take i).map isDg).map V.bl))) ⟨same_new nD _, upd_same⟩ (fun i H' _ _ => trivial) ?_ ?_⟩
  · rintro i y Hx Hy hi ⟨sx, eD⟩ ⟨rfl, c, hc, rfl⟩
    refine ⟨rfl, ?_⟩
    dsimp only [tYes]
    rw [if_pos rfl]
    refine ⟨_, rfl, _, _, rfl, rfl, ?_⟩
    rw [PySem.StrLaws.found_one]
    refine ⟨_, eD, ?_, same_upd sx nD _, ?_⟩
    · rw [List.length_map, List.length_map, List.length_take]
      exact Nat.lt_of_le_of_lt (by omega : _ ≤ 31) (by decide)
    · rw [upd_same]
      have hc' : (tl z)[i]? = some c := by
        show z.cps.toList[i]? = some c
        rw [Array.getElem?_toList]
        exact hc
      rw [List.take_add_one, hc', List.map_append, List.map_append]
      rfl
  · rintro Hx ⟨sx, eD⟩
    have et : (tl z).take z.cps.size = tl z := List.take_of_length_le (by rw [hlen]; exact Nat.le_refl _)
    rw [et] at eD
    refine ⟨D, (tl z).map isDg, rfl, SqL.of eD, _, rfl, ?_⟩
    cases hall : ((tl z).map isDg).all id with
    | false =>
      refine iteT ?_
      have : isDec z = false := by
        cases hd : isDec z with
        | false => rfl
        | true =>
          obtain ⟨h4, _⟩ := (dec_iff z).mp hd
          have h5 : ((tl z).map isDg).all id = true := List.all_eq_true.mpr fun b mb => by
            obtain ⟨c, mc, rfl⟩ := List.mem_map.mp mb
            exact (isDg_iff c).mpr (h4 c mc)
          rw [hall] at h5
          cases h5
      rw [intIn_no this] at q
      exact q _ sx
    | true =>
      have hdg : NumText.AllDigits (tl z) := fun c mc => (isDg_iff c).mp ((List.all_eq_true.mp hall) _ (List.mem_map.mpr ⟨c, mc, rfl⟩))
      refine iteF ⟨_, rfl, z, rfl, hzl, _, _, rfl, rfl, _, rfl, ?_⟩
      have hne : tl z ≠ [] := List.length_pos_iff.mp (by omega)
      obtain ⟨c0, r0, ec⟩ : ∃ c r, tl z = c :: r := by
        cases e : tl z with
        | nil => exact absurd e hne
        | cons c r => exact ⟨c, r, rfl⟩
      have hval : isDec z = true → intText? z = some ((intText? z).getD 0) := fun hd => by
        obtain ⟨n, e, _⟩ := dec_int hd
        rw [e]
        rfl
      have fin : isDec z = true → ∃ n, intText? z = some n ∧ z.length ≤ 640 ∧ intIn (numW z) lo hi = (decide (lo ≤ n) && decide (n ≤ hi)) := fun hd => by
        refine ⟨_, hval hd, by omega, ?_⟩
        unfold numW
        rw [if_pos hd]
        rfl
      by_cases h3 : z.length > 1
      · rw [decide_eq_true (by omega)]
        refine iteT ⟨_, rfl, z, 0, c0, rfl, rfl, hzl, atI_nat (j := 0) (by show (tl z)[0]? = _; rw [ec]; rfl), rfl, _, rfl, ?_⟩
        by_cases h48 : c0 = 48
        · rw [decide_eq_true (by rw [h48]; rfl)]
          refine iteT ?_
          have : isDec z = false := by
            cases hd : isDec z with
            | false => rfl
            | true =>
              obtain ⟨_, _, _, h4⟩ := (dec_iff z).mp hd
              rcases h4 with h4 | h4
              · rw [← hlen, h4] at h3
                exact absurd h3 (by decide)
              · rw [ec, h48] at h4
                exact absurd rfl h4
          rw [intIn_no this] at q
          exact q _ sx
        · rw [decide_eq_false (by
            intro e
            injection e with e
            have : tl (⟨#[c0]⟩ : Str) = tl ("0" : Str) := by rw [e]
            have e2 : tl ("0" : Str) = [48] := by decide +kernel
            rw [e2] at this
            injection this with h
            exact h48 h)]
          refine iteF ?_
          have hd : isDec z = true := (dec_iff z).mpr ⟨hdg, hne, by omega, .inr (by rw [ec]; intro e; injection e with e; exact h48 e)⟩
          obtain ⟨n, e1, e2, e3⟩ := fin hd
          rw [e3] at q
          refine ⟨_, rfl, _, rfl, z, n, rfl, e1, e2, _, _, rfl, rfl, _, rfl, ?_⟩
          cases hlo : decide (lo ≤ n) with
          | false => rw [hlo] at q; exact iteF (q _ sx)
          | true =>
            rw [hlo] at q
            exact iteT ⟨_, rfl, _, _, rfl, rfl, q _ sx⟩
      · rw [decide_eq_false (by omega)]
        refine iteF (iteF ?_)
        have hr0 : r0 = [] := by
          have := congrArg List.length ec
          rw [hlen, List.length_cons] at this
          exact List.length_eq_zero_iff.mp (by omega)
        subst hr0
        have hd : isDec z = true := (dec_iff z).mpr ⟨hdg, hne, by omega, by
          by_cases h48 : c0 = 48
          · exact .inl (by rw [ec, h48])
          · exact .inr (by rw [ec]; intro e; injection e with e; exact h48 e)⟩
        obtain ⟨n, e1, e2, e3⟩ := fin hd
        rw [e3] at q
        refine ⟨_, rfl, _, rfl, z, n, rfl, e1, e2, _, _, rfl, rfl, _, rfl, ?_⟩
        cases hlo : decide (lo ≤ n) with
        | false => rw [hlo] at q; exact iteF (q _ sx)
        | true =>
          rw [hlo] at q
          exact iteT ⟨_, rfl, _, _, rfl, rfl, q _ sx⟩
theorem scWT : FnScope ["_law_text_here"] ["_law_text_here"] (defScope sWT) := ⟨rfl, rfl, rfl, by decide +kernel, rfl, by decide +kernel, by decide +kernel⟩
end
end My

namespace My
open PySem L2 TL
/-! ### a line that may stand, word by word -/
theorem inV_strs (z : Str) : ∀ zs : List Str, inV (V.str z) (zs.map V.str) = decide (z ∈ zs)
  | [] => rfl
  | y :: r => by
    show (eqV (V.str y) (V.str z) || inV (V.str z) (r.map V.str)) = _
    rw [inV_strs z r]
    have e : eqV (V.str y) (V.str z) = decide (z = y) := by
      show decide (y = z) = decide (z = y)
      rw [Bool.eq_iff_iff, decide_eq_true_iff, decide_eq_true_iff]
      exact ⟨fun h => h.symm, fun h => h.symm⟩
    rw [e, Bool.eq_iff_iff, Bool.or_eq_true, decide_eq_true_iff, decide_eq_true_iff, decide_eq_true_iff, List.mem_cons]
theorem flat_strs (zs : List Str) : (zs.map V.str).all flatV = true := by
  rw [List.all_eq_true]
  intro x m
  obtain ⟨z, _, rfl⟩ := List.mem_map.mp m
  rfl
theorem prt_var (d : PyData) : isPart d "variable" = inS d vars := if_pos rfl
theorem prt_term (d : PyData) : isPart d "term" = isTerm d := by
  unfold isPart
  rw [if_neg (by decide), if_pos rfl]
theorem prt_sign (d : PyData) : isPart d "sign" = inS d asks := by
  unfold isPart
  rw [if_neg (by decide), if_neg (by decide), if_pos rfl]
theorem prt_steps (d : PyData) : isPart d "steps" = intIn d 1 longest := by
  unfold isPart
  rw [if_neg (by decide), if_neg (by decide), if_neg (by decide), if_pos rfl]
theorem prt_answer (d : PyData) : isPart d "answer" = intIn d 0 1 := by
  unfold isPart
  rw [if_neg (by decide), if_neg (by decide), if_neg (by decide), if_neg (by decide), if_pos rfl]
theorem prt_value (d : PyData) : isPart d "value" = intIn d 0 15 := by
  unfold isPart
  rw [if_neg (by decide), if_neg (by decide), if_neg (by decide), if_neg (by decide), if_neg (by decide)]
theorem all1 {d : PyData} {r : Str} : allParts [d] [r] = isPart d r := by
  show (isPart d r && true) = _
  rw [Bool.and_true]
theorem all2 {d e : PyData} {r s : Str} : allParts [d, e] [r, s] = (isPart d r && isPart e s) := by
  show (isPart d r && (isPart e s && true)) = _
  rw [Bool.and_true]
theorem all3 {d e g : PyData} {r s t : Str} : allParts [d, e, g] [r, s, t] = (isPart d r && (isPart e s && isPart g t)) := by
  show (isPart d r && (isPart e s && (isPart g t && true))) = _
  rw [Bool.and_true]
theorem rz_set {k : Str} : rolesZ "set" k = some (["variable", "value"] : List Str) := if_pos rfl
theorem rz_add {k : Str} : rolesZ "add" k = some (["variable", "term"] : List Str) := by
  unfold rolesZ
  rw [if_neg (by decide), if_pos rfl]
theorem rz_wait {k : Str} : rolesZ "wait" k = some (["steps"] : List Str) := by
  unfold rolesZ
  rw [if_neg (by decide), if_neg (by decide), if_pos rfl]
theorem rz_rest {k w : Str} (h1 : ¬ w = "set") (h2 : ¬ w = "add") (h3 : ¬ w = "wait") : rolesZ w k = if k = "teller" then (if w = "ask" then some (["sign", "term", "variable"] : List Str) else if w = "answer" then some (["answer"] : List Str) else none) else (if w = "grow" then some (["term"] : List Str) else if w = "list" then some (["term"] : List Str) else none) := by
  unfold rolesZ
  rw [if_neg h1, if_neg h2, if_neg h3]
theorem ln_set {k x y : Str} : lineOk k "set" [x, y] = (decide (x ∈ vars) && intIn (numW y) 0 15) := by
  rw [lineOk_roles (by decide) (by decide) (by decide), rz_set]
  show (true && allParts [numW x, numW y] _) = _
  rw [Bool.true_and, all2, prt_var, prt_value, inS_num vars_dec]
theorem ln_add {k x y : Str} : lineOk k "add" [x, y] = (decide (x ∈ vars) && isTerm (numW y)) := by
  rw [lineOk_roles (by decide) (by decide) (by decide), rz_add]
  show (true && allParts [numW x, numW y] _) = _
  rw [Bool.true_and, all2, prt_var, prt_term, inS_num vars_dec]
theorem ln_wait {k x : Str} : lineOk k "wait" [x] = intIn (numW x) 1 longest := by
  rw [lineOk_roles (by decide) (by decide) (by decide), rz_wait]
  show (true && allParts [numW x] _) = _
  rw [Bool.true_and, all1, prt_steps]
theorem ln_grow {k x w : Str} (hw : w = "grow" ∨ w = "list") (hk : k = "teller" ∨ k = "collector") : lineOk k w [x] = (decide (k = "collector") && isTerm (numW x)) := by
  rw [lineOk_roles (by rcases hw with rfl | rfl <;> decide) (by rcases hw with rfl | rfl <;> decide) (by rcases hw with rfl | rfl <;> decide), rz_rest (by rcases hw with rfl | rfl <;> decide) (by rcases hw with rfl | rfl <;> decide) (by rcases hw with rfl | rfl <;> decide)]
  rcases hk with rfl | rfl
  · rw [if_pos rfl, if_neg (by rcases hw with rfl | rfl <;> decide), if_neg (by rcases hw with rfl | rfl <;> decide), decide_eq_false (by decide)]
    rfl
  · rw [if_neg (by decide), decide_eq_true rfl, Bool.true_and]
    have e : (if w = "grow" then some [("term" : Str)] else if w = "list" then some [("term" : Str)] else none) = some [("term" : Str)] := by
      rcases hw with rfl | rfl
      · rw [if_pos rfl]
      · rw [if_neg (by decide), if_pos rfl]
    rw [e]
    show (true && allParts [numW x] _) = _
    rw [Bool.true_and, all1, prt_term]
theorem ln_answer {k x : Str} (hk : k = "teller" ∨ k = "collector") : lineOk k "answer" [x] = (decide (k = "teller") && decide (x ∈ (["0", "1"] : List Str))) := by
  rw [lineOk_roles (by decide) (by decide) (by decide), rz_rest (by decide) (by decide) (by decide)]
  rcases hk with rfl | rfl
  · rw [if_pos rfl, if_neg (by decide), if_pos rfl, decide_eq_true rfl, Bool.true_and]
    show (true && allParts [numW x] _) = _
    rw [Bool.true_and, all1, prt_answer, answer_num]
  · rw [if_neg (by decide), if_neg (by decide), if_neg (by decide), decide_eq_false (by decide)]
    rfl
def placeS (p : Str) : Str := if cutS p none (some 2) ∈ (["x+", "x-"] : List Str) then cutS p (some 2) none else p
theorem cut_pre (p : Str) : tl (cutS p none (some 2)) = (tl p).take 2 := by
  unfold cutS
  rw [HT.sIx_none, show HT.sIx p.length p.length (some 2) = min 2 p.length from HT.sIx_nat _ _ 2]
  show (((tl p).drop 0).take (min 2 p.length - 0)) = _
  rw [List.drop_zero, Nat.sub_zero, len_tl]
  by_cases h : 2 ≤ (tl p).length
  · rw [Nat.min_eq_left h]
  · rw [Nat.min_eq_right (by omega), List.take_of_length_le (Nat.le_refl _), List.take_of_length_le (by omega)]
theorem sw2_iff (p : Str) (a b : Nat) : Txt.startswith p ⟨#[a, b]⟩ = true ↔ (tl p).take 2 = [a, b] := by
  constructor
  · intro h
    obtain ⟨r, e⟩ := sw2 h
    rw [e]
    rfl
  · intro h
    unfold Txt.startswith
    rw [Bool.and_eq_true]
    refine ⟨decide_eq_true ?_, ?_⟩
    · rw [len_tl p]
      have := congrArg List.length h
      rw [List.length_take] at this
      show 0 + 2 ≤ _
      have e : [a, b].length = 2 := rfl
      rw [e] at this
      omega
    · rw [PySem.StrLaws.subAt_eq]
      show (((tl p).drop 0).take 2 == [a, b]) = true
      rw [List.drop_zero, h]
      exact beq_self_eq_true _
theorem pre_iff (p : Str) : cutS p none (some 2) ∈ (["x+", "x-"] : List Str) ↔ (Txt.startswith p "x+" = true ∨ Txt.startswith p "x-" = true) := by
  have e1 : Txt.startswith p "x+" = true ↔ (tl p).take 2 = [120, 43] := sw2_iff p 120 43
  have e2 : Txt.startswith p "x-" = true ↔ (tl p).take 2 = [120, 45] := sw2_iff p 120 45
  rw [e1, e2, ← cut_pre]
  simp only [List.mem_cons, List.not_mem_nil, or_false]
  constructor
  · rintro (h | h)
    · rw [h]; exact .inl (by decide +kernel)
    · rw [h]; exact .inr (by decide +kernel)
  · rintro (h | h)
    · exact .inl (ext_tl (h.trans (by decide +kernel)))
    · exact .inr (ext_tl (h.trans (by decide +kernel)))
theorem ln_ask {k p x : Str} (hk : k = "teller" ∨ k = "collector") : lineOk k "ask" [p, x] = (decide (k = "teller") && (decide (x ∈ vars) && isTerm (numW (placeS p)))) := by
  unfold lineOk
  have eL : lineP "ask" [p, x] = askP ["ask", p, x] := if_pos rfl
  rw [eL]
  have key : ∀ (g : Str) (t : PyData), inS (.str g) asks = true → (isOpen (.tuple [.str "ask", .str g, t, .str x]) || isPlain (.tuple [.str "ask", .str g, t, .str x]) k) = (decide (k = "teller") && (decide (x ∈ vars) && isTerm t)) := by
    intro g t hg
    rw [isOpen_plain (by decide) (by decide), Bool.false_or]
    show (match rolesZ "ask" k with | some rs => decide (3 = rs.length) && allParts [.str g, t, .str x] rs | none => false) = _
    rw [rz_rest (by decide) (by decide) (by decide)]
    rcases hk with rfl | rfl
    · rw [if_pos rfl, if_pos rfl, decide_eq_true rfl, Bool.true_and]
      show (true && allParts _ _) = _
      rw [Bool.true_and, all3, prt_sign, prt_term, prt_var, hg, Bool.true_and, inS_str, Bool.and_comm]
    · rw [if_neg (by decide), if_neg (by decide), if_neg (by decide), decide_eq_false (by decide)]
      rfl
  unfold askP placeS
  dsimp only
  by_cases h : Txt.startswith p "x+" = true ∨ Txt.startswith p "x-" = true
  · rw [if_pos h, if_pos ((pre_iff p).mpr h)]
    refine key _ _ ?_
    have : (tl p).take 2 = [120, 43] ∨ (tl p).take 2 = [120, 45] := by
      rcases h with h | h
      · exact .inl ((sw2_iff p 120 43).mp h)
      · exact .inr ((sw2_iff p 120 45).mp h)
    have e : ∀ c, (tl p).take 2 = [120, c] → (p.cps.toList[1]?).getD 0 = c := fun c hc => by
      have e2 : ((tl p).take 2)[1]? = some c := by rw [hc]; rfl
      rw [List.getElem?_take] at e2
      have e3 : (tl p)[1]? = some c := by simpa using e2
      show ((tl p)[1]?).getD 0 = c
      rw [e3]
      rfl
    rcases this with h | h
    · rw [e 43 h]; decide +kernel
    · rw [e 45 h]; decide +kernel
  · rw [if_neg h, if_neg (fun z => h ((pre_iff p).mp z))]
    exact key _ _ (by decide +kernel)
def lensOf (w : Str) : Int := if w = "set" then 2 else if w = "add" then 2 else if w = "wait" then 1 else if w = "ask" then 2 else if w = "answer" then 1 else if w = "grow" then 1 else if w = "list" then 1 else -1
theorem ln_len {k w : Str} {ws : List Str} (h2 : w ≠ "if") (h3 : w ≠ "while") (hl : (ws.length : Int) ≠ lensOf w) : lineOk k w ws = false := by
  by_cases ha : w = "ask"
  · subst ha
    have e : lensOf "ask" = 2 := by decide +kernel
    rw [e] at hl
    have hw : askP ("ask" :: ws) = .tuple [] := by
      unfold askP
      split
      · rename_i a b c e
        injection e with _ e
        subst e
        exact absurd rfl hl
      · rfl
    unfold lineOk
    rw [show lineP "ask" ws = askP ("ask" :: ws) from if_pos rfl, hw]
    rfl
  · rw [lineOk_roles ha h2 h3]
    cases hr : rolesZ w k with
    | none => rfl
    | some rs =>
      have hlen : (rs.length : Int) = lensOf w := by
        unfold rolesZ at hr
        unfold lensOf
        by_cases c1 : w = "set"
        · rw [if_pos c1] at hr ⊢; cases hr; rfl
        rw [if_neg c1] at hr ⊢
        by_cases c2 : w = "add"
        · rw [if_pos c2] at hr ⊢; cases hr; rfl
        rw [if_neg c2] at hr ⊢
        by_cases c3 : w = "wait"
        · rw [if_pos c3] at hr ⊢; cases hr; rfl
        rw [if_neg c3] at hr ⊢
        rw [if_neg ha]
        rw [if_neg ha] at hr
        split at hr
        · by_cases c4 : w = "answer"
          · rw [if_pos c4] at hr ⊢; cases hr; rfl
          · rw [if_neg c4] at hr; cases hr
        · by_cases c5 : w = "grow"
          · rw [if_pos c5] at hr
            cases hr
            rw [if_neg (by rw [c5]; decide), if_pos c5]
            rfl
          rw [if_neg c5] at hr
          by_cases c6 : w = "list"
          · rw [if_pos c6] at hr
            cases hr
            rw [if_neg (by rw [c6]; decide), if_neg c5, if_pos c6]
            rfl
          rw [if_neg c6] at hr
          cases hr
      show (decide (ws.length = rs.length) && _) = false
      rw [decide_eq_false (fun e => hl (by rw [e]; exact hlen)), Bool.false_and]
theorem ln_if {k w : Str} {x y z : Str} (h : w = "if" ∨ w = "while") : lineOk k w [x, y, z] = (decide (x ∈ vars) && (decide (y ∈ signs) && isTerm (numW z))) := by
  rw [lineOk_open h]
  show (inS (numW x) vars && inS (numW y) signs && isTerm (numW z)) = _
  rw [inS_num vars_dec, inS_num signs_dec, Bool.and_assoc]
theorem ln_if_len {k w : Str} {ws : List Str} (h : w = "if" ∨ w = "while") (hl : ws.length ≠ 3) : lineOk k w ws = false := by
  rw [lineOk_open h]
  unfold isCond
  split
  · rename_i x y z e
    have e' : ws.map numW = [x, y, z] := by injection e
    have := congrArg List.length e'
    rw [List.length_map] at this
    exact absurd this hl
  · rfl
end My

namespace My
open PySem L2 TL
/-! ### the law's own test of a line -/
abbrev sLn : Stmt := top 42
abbrev nsLn : List Str := ["_law_kind_here", "_law_words", "_law_word", "_law_parts", "_law_place"]
def spLn (K : PySem.W.Frag) : Sp := fun vs H Q _ => ∃ (k w : Str) (ws : List Str) (a : Addr), vs = [.str k, .ref a] ∧ H a = some (.lst ((w :: ws).map V.str)) ∧ (k = "teller" ∨ k = "collector") ∧ (∀ u ∈ w :: ws, u.length ≤ 5000) ∧ ws.length ≤ 5000 ∧ ∀ H', Same H H' → Q (.bl (lineOk k w ws)) H'
def lensD : List (Key × V) := [(Sum.inr "set", .int 2), (Sum.inr "add", .int 2), (Sum.inr "wait", .int 1), (Sum.inr "ask", .int 2), (Sum.inr "answer", .int 1), (Sum.inr "grow", .int 1), (Sum.inr "list", .int 1)]
theorem lens_get (w : Str) : ((valV (mergeK [] lensD) (Sum.inr w : Key)).getD (V.int (-1))) = V.int (lensOf w) := by
  have e : mergeK [] lensD = lensD := by decide +kernel
  rw [e]
  unfold lensD lensOf
  have ng : ∀ {y : Str}, ¬ w = y → ¬ ((Sum.inr y : Key) = Sum.inr w) := fun h z => h (by injection z with z; exact z.symm)
  by_cases c1 : w = "set"
  · rw [if_pos c1, valV_pos (by rw [c1])]; rfl
  rw [if_neg c1, valV_neg (ng c1)]
  by_cases c2 : w = "add"
  · rw [if_pos c2, valV_pos (by rw [c2])]; rfl
  rw [if_neg c2, valV_neg (ng c2)]
  by_cases c3 : w = "wait"
  · rw [if_pos c3, valV_pos (by rw [c3])]; rfl
  rw [if_neg c3, valV_neg (ng c3)]
  by_cases c4 : w = "ask"
  · rw [if_pos c4, valV_pos (by rw [c4])]; rfl
  rw [if_neg c4, valV_neg (ng c4)]
  by_cases c5 : w = "answer"
  · rw [if_pos c5, valV_pos (by rw [c5])]; rfl
  rw [if_neg c5, valV_neg (ng c5)]
  by_cases c6 : w = "grow"
  · rw [if_pos c6, valV_pos (by rw [c6])]; rfl
  rw [if_neg c6, valV_neg (ng c6)]
  by_cases c7 : w = "list"
  · rw [if_pos c7, valV_pos (by rw [c7])]; rfl
  rw [if_neg c7, valV_neg (ng c7)]
  rfl
theorem two_of {α : Type} {xs : List α} (h : xs.length = 2) : ∃ x y, xs = [x, y] := by
  match xs, h with
  | [x, y], _ => exact ⟨x, y, rfl⟩
theorem one_of {α : Type} {xs : List α} (h : xs.length = 1) : ∃ x, xs = [x] := by
  match xs, h with
  | [x], _ => exact ⟨x, rfl⟩
theorem three_of {α : Type} {xs : List α} (h : xs.length = 3) : ∃ x y z, xs = [x, y, z] := by
  match xs, h with
  | [x, y, z], _ => exact ⟨x, y, z, rfl⟩
section
variable {P : Program} {w : World} {K : PySem.W.Frag} {mg : Str → Option Value} {base : Heap}
theorem in_lst {H : Hp} {z : Str} {zs : List Str} {Q : VK} (h : ∀ p, H p = none → Q (.bl (decide (z ∈ zs))) (upd H p (.lst (zs.map V.str)))) : ∀ p, H p = none → rIn K false (.str z) (.ref p) (upd H p (.lst (zs.map V.str))) Q := fun p n => by
  refine ⟨p, zs.map V.str, rfl, .inl (SqL.of upd_same), rfl, flat_strs zs, ?_⟩
  rw [if_neg (by decide), inV_strs]
  exact h p n
theorem nin_lst {H : Hp} {z : Str} {zs : List Str} {Q : VK} (h : ∀ p, H p = none → Q (.bl (!decide (z ∈ zs))) (upd H p (.lst (zs.map V.str)))) : ∀ p, H p = none → rIn K true (.str z) (.ref p) (upd H p (.lst (zs.map V.str))) Q := fun p n => by
  refine ⟨p, zs.map V.str, rfl, .inl (SqL.of upd_same), rfl, flat_strs zs, ?_⟩
  rw [if_pos rfl, inV_strs]
  exact h p n
theorem ok_WT {f : Addr} {fd : FuncData} (F : Fun K "_law_is_written_term" "_law_is_written_term" sWT f fd) (CN : Cal P w K mg base 1 "_law_is_number" ["_law_text_here", "_law_least", "_law_most"] (spNum K)) : FnOk P w K mg base CX0 2 f fd ["_law_text_here"] (spWT K) := by
  refine F.ok scWT (fun vs H Q E h => ?_) (fun cdv A outer s H vs Q E hr h => ?_)
  · obtain ⟨z, rfl, _⟩ := h
    rfl
  obtain ⟨z, rfl, hz, q⟩ := h
  rw [term_num] at q
  refine ⟨_, (pss_one (ps_ret (pe_or (pe_cmpR op_in_seq (pv 0) (pe_lst (pa_cons pe_str (pa_cons pe_str pa_nil))) (by rfl)) (pe_one (pe_call CN.G hr rfl CN.m CN.kp CN.b .nil pass0 (pa_cons (pv 0) (pa_cons pe_int (pa_cons pe_int pa_nil)))))))), ?_⟩
  refine ⟨_, rfl, (by show 2 ≤ sizeLine; decide), in_lst (zs := vars) fun p n => ⟨_, rfl, ?_⟩⟩
  cases h : decide (z ∈ vars) with
  | true =>
    rw [h] at q
    exact iteT (q _ (same_new n _))
  | false =>
    rw [h] at q
    exact iteF ⟨_, rfl, z, 0, 15, rfl, hz, fun H' s' => q _ ((same_new n _).trans s')⟩
theorem scLn : FnScope nsLn ["_law_kind_here", "_law_words"] (defScope sLn) := ⟨rfl, rfl, rfl, by decide +kernel, rfl, by decide +kernel, by decide +kernel⟩
theorem ok_Ln {f : Addr} {fd : FuncData} (F : Fun K "_law_is_line" "_law_is_line" sLn f fd) (T : Gs K mg) (CN : Cal P w K mg base 1 "_law_is_number" ["_law_text_here", "_law_least", "_law_most"] (spNum K)) (CW : Cal P w K mg base 2 "_law_is_written_term" ["_law_text_here"] (spWT K)) : FnOk P w K mg base CX0 3 f fd ["_law_kind_here", "_law_words"] (spLn K) := by
  refine F.ok scLn (fun vs H Q E h => ?_) (fun cdv A outer s H vs Q E hr h => ?_)
  · obtain ⟨k, wd, ws, a, rfl, _⟩ := h
    rfl
  obtain ⟨k, wd, ws, a, rfl, ha, hk, hu, hl, q⟩ := h
  have hr1 : Room 1 _ := hr.mono (by decide)
  refine ⟨_, (pss_cons (ps_set (i := 2) scLn.nd rfl (.inl rfl) (pe_ix ix_list (pv 1) pe_int (fun _ _ => rfl)))
  (pss_cons (ps_set (i := 3) scLn.nd rfl (.inl rfl) (pe_slice sl_list (pv 1) (po_some pe_int) po_none))
  (pss_cons (ps_if (pt_cmpR op_in_seq (pv 2) (pe_lst (pa_cons pe_str (pa_cons pe_str pa_nil))) (by rfl))
    (pss_cons (ps_if (PW.pt (pw_or (pt_cmpR op_ne (pe_callB call_len_seq (by rfl) T.len PySem.boot_len (pa_cons (pv 3) pa_nil)) pe_int (nomark _)) (pw_or1 (pt_cmpR op_notIn_seq (pe_ix ix_list (pv 3) pe_int (fun _ _ => rfl)) (pe_lst (pa_cons pe_str (pa_cons pe_str pa_nil))) (by rfl)))))
      (pss_one (ps_ret pe_bl))
      pss_nil)
    (pss_one (ps_ret (pe_and (pe_cmpR op_in_seq (pe_ix ix_list (pv 3) pe_int (fun _ _ => rfl)) (pe_lst (pa_cons pe_str (pa_cons pe_str (pa_cons pe_str pa_nil)))) (by rfl)) (pe_one (pe_call CW.G hr rfl CW.m CW.kp CW.b .nil pass0 (pa_cons (pe_ix ix_list (pv 3) pe_int (fun _ _ => rfl)) pa_nil)))))))
    pss_nil)
  (pss_cons (ps_if (pt_cmpR op_ne (pe_callB call_len_seq (by rfl) T.len PySem.boot_len (pa_cons (pv 3) pa_nil)) (pe_dget2 (hu_of hr) (pe_disp (pps_cons pe_str pe_int (pps_cons pe_str pe_int (pps_cons pe_str pe_int (pps_cons pe_str pe_int (pps_cons pe_str pe_int (pps_cons pe_str pe_int (pps_cons pe_str pe_int pps_nil))))))) (by rfl) (by rfl) (fun z => by cases z) (by decide)) (pv 2) (pe_un un_neg pe_int) ⟨rfl, rfl, rfl, rfl⟩) (nomark _))
    (pss_one (ps_ret pe_bl))
    pss_nil)
  (pss_cons (ps_if (pt_cmpR op_in_seq (pv 2) (pe_lst (pa_cons pe_str (pa_cons pe_str pa_nil))) (by rfl))
    (pss_cons (ps_if (pt_cmpR op_eq (pv 2) pe_str (nomark _))
      (pss_one (ps_ret (pe_and (pe_cmpR op_in_seq (pe_ix ix_list (pv 3) pe_int (fun _ _ => rfl)) (pe_lst (pa_cons pe_str (pa_cons pe_str pa_nil))) (by rfl)) (pe_one (pe_call CN.G hr1 rfl CN.m CN.kp CN.b .nil pass0 (pa_cons (pe_ix ix_list (pv 3) pe_int (fun _ _ => rfl)) (pa_cons pe_int (pa_cons pe_int pa_nil))))))))
      pss_nil)
    (pss_one (ps_ret (pe_and (pe_cmpR op_in_seq (pe_ix ix_list (pv 3) pe_int (fun _ _ => rfl)) (pe_lst (pa_cons pe_str (pa_cons pe_str pa_nil))) (by rfl)) (pe_one (pe_call CW.G hr rfl CW.m CW.kp CW.b .nil pass0 (pa_cons (pe_ix ix_list (pv 3) pe_int (fun _ _ => rfl)) pa_nil)))))))
    pss_nil)
  (pss_cons (ps_if (pt_cmpR op_eq (pv 2) pe_str (nomark _))
    (pss_one (ps_ret (pe_call CN.G hr1 rfl CN.m CN.kp CN.b .nil pass0 (pa_cons (pe_ix ix_list (pv 3) pe_int (fun _ _ => rfl)) (pa_cons pe_int (pa_cons (pe_op op_pow pe_int pe_int) pa_nil))))))
    pss_nil)
  (pss_cons (ps_if (pt_cmpR op_in_seq (pv 2) (pe_lst (pa_cons pe_str (pa_cons pe_str pa_nil))) (by rfl))
    (pss_one (ps_ret (pe_and (pe_cmpR op_eq (pv 0) pe_str (nomark _)) (pe_one (pe_call CW.G hr rfl CW.m CW.kp CW.b .nil pass0 (pa_cons (pe_ix ix_list (pv 3) pe_int (fun _ _ => rfl)) pa_nil))))))
    pss_nil)
  (pss_cons (ps_if (pt_cmpR op_eq (pv 2) pe_str (nomark _))
    (pss_one (ps_ret (pe_and (pe_cmpR op_eq (pv 0) pe_str (nomark _)) (pe_one (pe_cmpR op_in_seq (pe_ix ix_list (pv 3) pe_int (fun _ _ => rfl)) (pe_lst (pa_cons pe_str (pa_cons pe_str pa_nil))) (by rfl))))))
    pss_nil)
  (pss_cons (ps_set (i := 4) scLn.nd rfl (.inl rfl) (pe_ix ix_list (pv 3) pe_int (fun _ _ => rfl)))
  (pss_cons (ps_if (pt_cmpR op_in_seq (pe_slice sl_str (pv 4) po_none (po_some pe_int)) (pe_lst (pa_cons pe_str (pa_cons pe_str pa_nil))) (by rfl))
    (pss_one (ps_set (i := 4) scLn.nd rfl (.inl rfl) (pe_slice sl_str (pv 4) (po_some pe_int) po_none)))
    pss_nil)
  (pss_one (ps_ret (pe_and (pe_cmpR op_eq (pv 0) pe_str (nomark _)) (pe_and (pe_cmpR op_in_seq (pe_ix ix_list (pv 3) pe_int (fun _ _ => rfl)) (pe_lst (pa_cons pe_str (pa_cons pe_str pa_nil))) (by rfl)) (pe_one (pe_call CW.G hr rfl CW.m CW.kp CW.b .nil pass0 (pa_cons (pv 4) pa_nil))))))))))))))))), ?_⟩
  refine ⟨_, rfl, a, _, _, _, rfl, rfl, SqL.of ha, atI_nat (j := 0) rfl, ?_⟩
  refine ⟨_, rfl, _, rfl, a, _, rfl, SqL.of ha, fun b nb => ?_⟩
  rw [show cutV ((wd :: ws).map V.str) (some 1) none = ws.map V.str from cut_hi _ 1]
  have u1 := same_new nb (.lst (ws.map V.str))
  have eb : (upd H b (.lst (ws.map V.str))) b = some (.lst (ws.map V.str)) := upd_same
  generalize upd H b (.lst (ws.map V.str)) = H1 at u1 eb ⊢
  dsimp only [List.set_cons_succ, List.set_cons_zero]
  refine ⟨_, rfl, (by show 2 ≤ sizeLine; decide), in_lst (zs := ["if", "while"]) fun p np => ⟨_, rfl, ?_⟩⟩
  have u2 := u1.trans (same_new np (.lst ([("if" : Str), "while"].map V.str)))
  have eb2 := same_new np (.lst ([("if" : Str), "while"].map V.str)) _ _ eb
  generalize upd H1 p (.lst ([("if" : Str), "while"].map V.str)) = H2 at u2 eb2 ⊢
  clear u1 eb np
  have at0 : ∀ {Hx : Hp} {x : Str} {r : List Str}, ws = x :: r → Hx b = some (.lst (ws.map V.str)) → SqL K Hx b (ws.map V.str) := fun _ e => SqL.of e
  by_cases hif : wd = "if" ∨ wd = "while"
  · rw [decide_eq_true (by rcases hif with rfl | rfl <;> simp)]
    refine iteT ⟨_, rfl, b, _, rfl, .inl (SqL.of eb2), rfl, _, rfl, ?_⟩
    rw [show (ws.map V.str).length = ws.length from List.length_map _]
    by_cases h3 : ws.length = 3
    rotate_left
    · rw [decide_eq_false (by intro e; injection e with e; omega)]
      refine iteT (iteT ?_)
      rw [ln_if_len hif h3] at q
      exact q _ u2
    · rw [decide_eq_true (by rw [h3]; rfl)]
      obtain ⟨x, y, z, rfl⟩ := three_of h3
      rw [ln_if hif] at q
      refine iteF ⟨_, rfl, b, _, _, _, rfl, rfl, SqL.of eb2, atI_nat (j := 0) rfl, (by show 2 ≤ sizeLine; decide), nin_lst (zs := vars) fun p np => ⟨_, rfl, ?_⟩⟩
      have u3 := same_new np (.lst (vars.map V.str))
      have eb3 := u3 _ _ eb2
      generalize upd H2 p (.lst (vars.map V.str)) = H3 at u3 eb3 ⊢
      cases hx : decide (x ∈ vars) with
      | false =>
        rw [hx] at q
        exact iteT (q _ (u2.trans u3))
      | true =>
        rw [hx] at q
        refine iteF ⟨_, rfl, b, _, _, _, rfl, rfl, SqL.of eb3, atI_nat (j := 1) rfl, (by show 3 ≤ sizeLine; decide), in_lst (zs := signs) fun p np => ⟨_, rfl, ?_⟩⟩
        have u4 := same_new np (.lst (signs.map V.str))
        have eb4 := u4 _ _ eb3
        generalize upd H3 p (.lst (signs.map V.str)) = H4 at u4 eb4 ⊢
        cases hy : decide (y ∈ signs) with
        | false =>
          rw [hy] at q
          exact iteF (q _ (u2.trans (u3.trans u4)))
        | true =>
          rw [hy] at q
          exact iteT ⟨_, rfl, b, _, _, _, rfl, rfl, SqL.of eb4, atI_nat (j := 2) rfl, z, rfl, hu z (by simp), fun H' s' => q _ (u2.trans (u3.trans (u4.trans s')))⟩
  · rw [decide_eq_false (by intro m; apply hif; simpa using m)]
    have hn1 : wd ≠ "if" := fun e => hif (.inl e)
    have hn2 : wd ≠ "while" := fun e => hif (.inr e)
    refine iteF ⟨_, rfl, b, _, rfl, .inl (SqL.of eb2), fun dd ndd => ⟨upd_same, lensD, rfl, (by show 7 ≤ 15; decide), ?_⟩⟩
    have u3 : Same H2 (upd (upd H2 dd (.dK [])) dd (.dK (mergeK [] lensD))) := same_upd (same_new ndd _) ndd _
    have ed : (upd (upd H2 dd (.dK [])) dd (.dK (mergeK [] lensD))) dd = some (.dK (mergeK [] lensD)) := upd_same
    have eb3 := u3 _ _ eb2
    generalize upd (upd H2 dd (.dK [])) dd (.dK (mergeK [] lensD)) = H3 at u3 ed eb3 ⊢
    obtain ⟨o, ho, eo⟩ : ∃ o, DGet H3 dd (V.str wd) o ∧ o.getD (V.int (-1)) = V.int (lensOf wd) := ⟨_, DGet.k (k := Sum.inr wd) ed, lens_get wd⟩
    refine ⟨dd, rfl, .inl ⟨_, .inl ed⟩, _, rfl, _, rfl, o, ho, ?_⟩
    show rNe _ (o.getD (V.int (-1))) _ _
    rw [eo]
    refine ⟨rfl, _, rfl, ?_⟩
    rw [show (ws.map V.str).length = ws.length from List.length_map _]
    have uA := u2.trans u3
    by_cases hlen : (ws.length : Int) = lensOf wd
    rotate_left
    · rw [decide_eq_false (by intro e; injection e with e; exact hlen e)]
      rw [ln_len hn1 hn2 hlen] at q
      exact iteT (q _ uA)
    rw [decide_eq_true (by rw [hlen])]
    refine iteF ⟨_, rfl, (by show 2 ≤ sizeLine; decide), in_lst (zs := ["set", "add"]) fun p4 n4 => ⟨_, rfl, ?_⟩⟩
    have u4 := same_new n4 (.lst ([("set" : Str), "add"].map V.str))
    have eb4 := u4 _ _ eb3
    have uB := uA.trans u4
    generalize upd H3 p4 (.lst ([("set" : Str), "add"].map V.str)) = H4 at u4 eb4 uB ⊢
    by_cases hsa : wd = "set" ∨ wd = "add"
    · rw [decide_eq_true (by rcases hsa with rfl | rfl <;> simp)]
      have hl2 : ws.length = 2 := by
        rcases hsa with rfl | rfl
        · have e : lensOf "set" = 2 := by decide +kernel
          omega
        · have e : lensOf "add" = 2 := by decide +kernel
          omega
      obtain ⟨x, y, rfl⟩ := two_of hl2
      refine iteT ⟨_, rfl, rfl, _, rfl, ?_⟩
      rcases hsa with rfl | rfl
      · rw [ln_set] at q
        rw [decide_eq_true rfl]
        refine iteT ⟨_, rfl, b, _, _, _, rfl, rfl, SqL.of eb4, atI_nat (j := 0) rfl, (by show 2 ≤ sizeLine; decide), in_lst (zs := vars) fun p np => ⟨_, rfl, ?_⟩⟩
        have u5 := same_new np (.lst (vars.map V.str))
        have eb5 := u5 _ _ eb4
        generalize upd H4 p (.lst (vars.map V.str)) = H5 at u5 eb5 ⊢
        cases hx : decide (x ∈ vars) with
        | false =>
          rw [hx] at q
          exact iteF (q _ (uB.trans u5))
        | true =>
          rw [hx] at q
          exact iteT ⟨_, rfl, b, _, _, _, rfl, rfl, SqL.of eb5, atI_nat (j := 1) rfl, y, 0, 15, rfl, hu y (by simp), fun H' s' => q _ (uB.trans (u5.trans s'))⟩
      · rw [ln_add] at q
        rw [decide_eq_false (by decide)]
        refine iteF ⟨_, rfl, b, _, _, _, rfl, rfl, SqL.of eb4, atI_nat (j := 0) rfl, (by show 2 ≤ sizeLine; decide), in_lst (zs := vars) fun p np => ⟨_, rfl, ?_⟩⟩
        have u5 := same_new np (.lst (vars.map V.str))
        have eb5 := u5 _ _ eb4
        generalize upd H4 p (.lst (vars.map V.str)) = H5 at u5 eb5 ⊢
        cases hx : decide (x ∈ vars) with
        | false =>
          rw [hx] at q
          exact iteF (q _ (uB.trans u5))
        | true =>
          rw [hx] at q
          exact iteT ⟨_, rfl, b, _, _, _, rfl, rfl, SqL.of eb5, atI_nat (j := 1) rfl, y, rfl, hu y (by simp), fun H' s' => q _ (uB.trans (u5.trans s'))⟩
    rw [decide_eq_false (by intro m; apply hsa; simpa using m)]
    have hn3 : ¬ wd = "set" := fun e => hsa (.inl e)
    have hn4 : ¬ wd = "add" := fun e => hsa (.inr e)
    refine iteF ⟨_, rfl, rfl, _, rfl, ?_⟩
    by_cases hwt : wd = "wait"
    · subst hwt
      rw [decide_eq_true rfl]
      obtain ⟨x, rfl⟩ := one_of (xs := ws) (by have e : lensOf "wait" = 1 := by decide +kernel
                                               omega)
      rw [ln_wait] at q
      refine iteT ⟨_, rfl, b, _, _, _, rfl, rfl, SqL.of eb4, atI_nat (j := 0) rfl, _, _, rfl, rfl, ⟨by decide, by decide, by decide⟩, x, 1, _, rfl, hu x (by simp), fun H' s' => ?_⟩
      have e30 : (10 : Int) ^ (30 : Int).toNat = longest := by decide +kernel
      rw [e30]
      exact q _ (uB.trans s')
    rw [decide_eq_false (by intro e; injection e with e; exact hwt e)]
    refine iteF ⟨_, rfl, (by show 2 ≤ sizeLine; decide), in_lst (zs := ["grow", "list"]) fun p5 n5 => ⟨_, rfl, ?_⟩⟩
    have u5 := same_new n5 (.lst ([("grow" : Str), "list"].map V.str))
    have eb5 := u5 _ _ eb4
    have uC := uB.trans u5
    generalize upd H4 p5 (.lst ([("grow" : Str), "list"].map V.str)) = H5 at u5 eb5 uC ⊢
    by_cases hgl : wd = "grow" ∨ wd = "list"
    · rw [decide_eq_true (by rcases hgl with rfl | rfl <;> simp)]
      obtain ⟨x, rfl⟩ := one_of (xs := ws) (by
        rcases hgl with rfl | rfl
        · have e : lensOf "grow" = 1 := by decide +kernel
          omega
        · have e : lensOf "list" = 1 := by decide +kernel
          omega)
      rw [ln_grow hgl hk] at q
      refine iteT ⟨_, rfl, rfl, _, rfl, ?_⟩
      have ek : decide (V.str k = V.str "collector") = decide (k = "collector") := by
        rw [Bool.eq_iff_iff, decide_eq_true_iff, decide_eq_true_iff]
        exact ⟨fun h => by injection h, fun h => by rw [h]⟩
      rw [ek]
      cases hc : decide (k = "collector") with
      | false =>
        rw [hc] at q
        exact iteF (q _ uC)
      | true =>
        rw [hc] at q
        exact iteT ⟨_, rfl, b, _, _, _, rfl, rfl, SqL.of eb5, atI_nat (j := 0) rfl, x, rfl, hu x (by simp), fun H' s' => q _ (uC.trans s')⟩
    rw [decide_eq_false (by intro m; apply hgl; simpa using m)]
    refine iteF ⟨_, rfl, rfl, _, rfl, ?_⟩
    have ek : decide (V.str k = V.str "teller") = decide (k = "teller") := by
      rw [Bool.eq_iff_iff, decide_eq_true_iff, decide_eq_true_iff]
      exact ⟨fun h => by injection h, fun h => by rw [h]⟩
    by_cases han : wd = "answer"
    · subst han
      rw [decide_eq_true rfl]
      obtain ⟨x, rfl⟩ := one_of (xs := ws) (by have e : lensOf "answer" = 1 := by decide +kernel
                                               omega)
      rw [ln_answer hk] at q
      refine iteT ⟨_, rfl, rfl, _, rfl, ?_⟩
      rw [ek]
      cases hc : decide (k = "teller") with
      | false =>
        rw [hc] at q
        exact iteF (q _ uC)
      | true =>
        rw [hc] at q
        exact iteT ⟨_, rfl, b, _, _, _, rfl, rfl, SqL.of eb5, atI_nat (j := 0) rfl, (by show 2 ≤ sizeLine; decide), in_lst (zs := ["0", "1"]) fun p np => q _ (uC.trans (same_new np _))⟩
    rw [decide_eq_false (by intro e; injection e with e; exact han e)]
    have hask : wd = "ask" := by
      unfold lensOf at hlen
      rw [if_neg hn3, if_neg hn4, if_neg hwt] at hlen
      by_cases ha' : wd = "ask"
      · exact ha'
      rw [if_neg ha', if_neg han, if_neg (fun e => hgl (.inl e)), if_neg (fun e => hgl (.inr e))] at hlen
      omega
    subst hask
    obtain ⟨p, x, rfl⟩ := two_of (xs := ws) (by have e : lensOf "ask" = 2 := by decide +kernel
                                                omega)
    rw [ln_ask hk] at q
    have hpl : p.length ≤ sizeLine := Nat.le_trans (hu p (by simp)) (by decide)
    refine iteF ⟨_, rfl, b, _, _, _, rfl, rfl, SqL.of eb5, atI_nat (j := 0) rfl, ?_⟩
    dsimp only [List.set_cons_succ, List.set_cons_zero]
    refine ⟨_, rfl, _, rfl, p, rfl, hpl, (by show 2 ≤ sizeLine; decide), in_lst (zs := ["x+", "x-"]) fun p6 n6 => ⟨_, rfl, ?_⟩⟩
    have u6 := same_new n6 (.lst ([("x+" : Str), "x-"].map V.str))
    have eb6 := u6 _ _ eb5
    have uD := uC.trans u6
    generalize upd H5 p6 (.lst ([("x+" : Str), "x-"].map V.str)) = H6 at u6 eb6 uD ⊢
    have rest : ∀ pl : Str, placeS p = pl → pl.length ≤ 5000 → ∀ Qz : VK, (∀ H', Same H6 H' → Qz (.bl (decide (k = "teller") && (decide (x ∈ vars) && isTerm (numW pl)))) H') → (tAndV (tOp rEq (tVar 0) (tC (V.str "teller"))) (tAndV (tOp (rIn K false) (tOp (rIxL K) (tVar 3) (tC (V.int 1))) (tLst (tCons (tC (V.str "a")) (tCons (tC (V.str "b")) tNil)))) (tCall (spWT K) [] E0 (tCons (tVar 4) tNil)))) [some (V.str k), some (V.ref a), some (V.str "ask"), some (V.ref b), some (V.str pl)] H6 Qz := by
      intro pl epl hpl' Qz qz
      refine ⟨_, rfl, rfl, _, rfl, ?_⟩
      rw [ek]
      cases hc : decide (k = "teller") with
      | false =>
        rw [hc] at qz
        exact iteF (qz _ (Same.refl _))
      | true =>
        rw [hc] at qz
        refine iteT ⟨_, rfl, b, _, _, _, rfl, rfl, SqL.of eb6, atI_nat (j := 1) rfl, (by show 2 ≤ sizeLine; decide), in_lst (zs := vars) fun p np => ⟨_, rfl, ?_⟩⟩
        cases hx : decide (x ∈ vars) with
        | false =>
          rw [hx] at qz
          exact iteF (qz _ (same_new np _))
        | true =>
          rw [hx] at qz
          exact iteT ⟨_, rfl, pl, rfl, hpl', fun H' s' => qz _ ((same_new np _).trans s')⟩
    have q' : ∀ H', Same H6 H' → Q (.bl (decide (k = "teller") && (decide (x ∈ vars) && isTerm (numW (placeS p))))) H' := fun H' s' => q _ (uD.trans s')
    by_cases hpre : cutS p none (some 2) ∈ (["x+", "x-"] : List Str)
    · rw [decide_eq_true hpre]
      have ep : placeS p = cutS p (some 2) none := if_pos hpre
      rw [ep] at q'
      exact iteT ⟨_, rfl, _, rfl, p, rfl, hpl, rest _ ep (Nat.le_trans (cutS_length _ _ _) (hu p (by simp))) _ q'⟩
    · rw [decide_eq_false hpre]
      have ep : placeS p = p := if_neg hpre
      rw [ep] at q'
      exact iteF (rest _ ep (hu p (by simp)) _ q')
end
end My

namespace My
open PySem L2 TL
/-! ### the law's own first bad line -/
abbrev sBad : Stmt := top 43
abbrev nsBad : List Str := ["_law_lines_here", "_law_blocks", "_law_many", "_law_at", "_law_line", "_law_words", "_law_has_room"]
def dueO (k : Str) (ds : List PyData) : Option Nat := if inS (.str k) kinds = true then badF k R0 ds 1 else some 0
def dueV : Option Nat → V
  | none => .non
  | some i => .int (i : Nat)
def spBad (K : PySem.W.Frag) : Sp := fun vs H Q _ => ∃ (a : Addr) (k : Str) (ls : List Str) (ds : List PyData), vs = [.ref a] ∧ H a = some (.lst ((k :: ls).map V.str)) ∧ Paired LineH ls ds ∧ ls.length ≤ 1000 ∧ (∀ y ∈ ls, y.length ≤ 5000) ∧ ∀ H', Same H H' → Q (dueV (dueO k ds)) H'
theorem atI_last {xs : List V} {x : V} (h : xs.getLast? = some x) : atI xs (-1) = some x := by
  have hne : xs ≠ [] := fun e => by rw [e] at h; cases h
  have hp := List.length_pos_iff.mpr hne
  unfold atI ixN
  rw [if_neg (by decide), if_pos (by omega)]
  show xs[(-1 + (xs.length : Int)).toNat]? = some x
  rw [show (-1 + (xs.length : Int)).toNat = xs.length - 1 by omega, ← List.getLast?_eq_getElem?]
  exact h
theorem ixN_last {n : Nat} (h : 0 < n) : ixN n (-1) = some (n - 1) := by
  unfold ixN
  rw [if_neg (by decide), if_pos (by omega), show (-1 + (n : Int)).toNat = n - 1 by omega]
theorem set_last {xs : List V} {v : V} (h : xs ≠ []) : xs.set (xs.length - 1) v = xs.dropLast ++ [v] := by
  obtain ⟨ys, y, rfl⟩ : ∃ ys y, xs = ys ++ [y] := ⟨xs.dropLast, xs.getLast h, (List.dropLast_concat_getLast h).symm⟩
  rw [List.dropLast_concat, List.length_append, List.length_singleton, Nat.add_sub_cancel, List.set_append_right _ _ (Nat.le_refl _), Nat.sub_self]
  rfl
theorem cut_drop {xs : List V} (h : xs ≠ []) : cutV xs none (some (-1)) = xs.dropLast := by
  have hp := List.length_pos_iff.mpr h
  unfold cutV
  rw [HT.sIx_none]
  have e : HT.sIx xs.length xs.length (some (-1)) = xs.length - 1 := by
    show (if (-1 : Int) < 0 then (-1 + (xs.length : Int)).toNat else min (-1 : Int).toNat xs.length) = _
    rw [if_pos (by decide)]
    omega
  rw [e, List.drop_zero, Nat.sub_zero, List.dropLast_eq_take]
theorem lay_lst {ds : List PyData} (h : ∀ d ∈ ds, Lay d) : Lay (.list ds) := by
  have := lay_tuple h
  unfold Lay at this ⊢
  simpa only [PyData.canLay0] using this
def tagW (bl : List Str) : Prop := ∀ y ∈ bl, y ∈ (["if", "while", "else", "bare else"] : List Str)
theorem tagW_lay {bl : List Str} (h : tagW bl) : SeqAt.shaped (.list (bl.map PyData.str)) = true := by
  have hl : Lay (.list (bl.map PyData.str)) := (lay_lst fun d m => by
    obtain ⟨y, my, rfl⟩ := List.mem_map.mp m
    have : ∀ y ∈ (["if", "while", "else", "bare else"] : List Str), PyData.strOk y = true := by decide +kernel
    exact lay_str (this y (h y my)))
  refine shaped_of hl ?_
  have : PyData.depthAll (bl.map PyData.str) = 0 := depth_strs bl
  simp only [PyData.depth]
  omega
theorem eqv_nilL (bl : List Str) : PyData.eqv (.list (bl.map PyData.str)) (.list []) = decide (bl = []) := by
  cases bl with
  | nil => simp [PyData.eqv, PyData.eqvAll]
  | cons y r => simp [PyData.eqv, PyData.eqvAll]
/-- blocks == [] -/
theorem eq_empty {K : PySem.W.Frag} {H : Hp} {p : Addr} {bl : List Str} {Q : VK} (h : tagW bl) (e : H p = some (.lst (bl.map V.str))) (q : ∀ p', H p' = none → Q (.bl (decide (bl = []))) (upd H p' (.lst []))) : 0 ≤ sizeLine ∧ ∀ p', H p' = none → rEqD K (.ref p) (.ref p') (upd H p' (.lst [])) Q := by
  refine ⟨Nat.zero_le _, fun p' n => ⟨.list (bl.map PyData.str), .list [], .lst (SqL.of (same_new n _ _ _ e)) (dp_strs bl), .lst (SqL.of upd_same) .nil, tagW_lay h, by decide +kernel, ?_⟩⟩
  rw [eqv_nilL]
  exact q p' n
theorem ne_empty {K : PySem.W.Frag} {H : Hp} {p : Addr} {bl : List Str} {Q : VK} (h : tagW bl) (e : H p = some (.lst (bl.map V.str))) (q : ∀ p', H p' = none → Q (.bl (!decide (bl = []))) (upd H p' (.lst []))) : 0 ≤ sizeLine ∧ ∀ p', H p' = none → rNeD K (.ref p) (.ref p') (upd H p' (.lst [])) Q := by
  refine ⟨Nat.zero_le _, fun p' n => ⟨.list (bl.map PyData.str), .list [], .lst (SqL.of (same_new n _ _ _ e)) (dp_strs bl), .lst (SqL.of upd_same) .nil, tagW_lay h, by decide +kernel, ?_⟩⟩
  rw [eqv_nilL]
  exact q p' n
theorem isW_iff {y : Str} {d : PyData} {z : Str} (hz : z ≠ "ask" ∧ z ≠ "if" ∧ z ≠ "while") (hs : Txt.split z " " = [z]) (h : LineB y d) : isW d z = decide (y = z) := by
  rw [Bool.eq_iff_iff, decide_eq_true_iff]
  constructor
  · intro hw
    exact (line_word hz h hw).1
  · rintro rfl
    obtain ⟨w, ws, h1, rfl, h3⟩ := h
    rw [hs] at h1
    injection h1 with e1 e2
    subst e1 e2
    rw [isW_line hz]
    simp
theorem end_iff {y : Str} {d : PyData} (h : LineB y d) : isW d "end" = decide (y = "end") := isW_iff end_ne (by decide +kernel) h
theorem else_iff {y : Str} {d : PyData} (h : LineB y d) : isW d "else" = decide (y = "else") := isW_iff else_ne (by decide +kernel) h
theorem tagW_tagsR {k : Str} : ∀ {r : List Blk} {ys : List Str} {c : Nat}, StkT k r ys c → tagW (tagsR r)
  | [], _, _, h => absurd rfl h.ne
  | [b], _, _, h => fun y m => nomatch m
  | b :: n :: r, ys, c, h => fun y m => by
    have m' : y ∈ tagsR (n :: r) ++ [tagIn b] := m
    rcases List.mem_append.mp m' with m' | m'
    · obtain ⟨ys', c', h'⟩ := h.tail
      exact tagW_tagsR h' y m'
    · rw [List.mem_singleton.mp m']
      obtain ⟨h1, _⟩ := h.okB.2 (by simp)
      obtain ⟨w, co, b1, b2⟩ := b
      cases b2 with
      | none => rcases h1 with h1 | h1 <;> (show w ∈ _; have h1' : w = _ := h1; rw [h1']; decide +kernel)
      | some x => show ("else" : Str) ∈ _; decide +kernel
theorem tagW_tags {k : Str} {t : Blk} {r : List Blk} {ys : List Str} {c : Nat} (h : StkT k (t :: r) ys c) : tagW (tags t r) := by
  cases r with
  | nil => exact fun y m => nomatch m
  | cons n r =>
    intro y m
    have m' : y ∈ tagsR (n :: r) ++ [tagTop t] := m
    rcases List.mem_append.mp m' with m' | m'
    · obtain ⟨ys', c', h'⟩ := h.tail
      exact tagW_tagsR h' y m'
    · rw [List.mem_singleton.mp m']
      obtain ⟨h1, _⟩ := h.okB.2 (by simp)
      obtain ⟨w, co, b1, b2⟩ := t
      cases b2 with
      | none => rcases h1 with h1 | h1 <;> (show w ∈ _; have h1' : w = _ := h1; rw [h1']; decide +kernel)
      | some x =>
        cases x with
        | nil => show ("bare else" : Str) ∈ _; decide +kernel
        | cons _ _ => show ("else" : Str) ∈ _; decide +kernel
end My

namespace My
open PySem L2 TL
/-! ### the law's own first bad line: its walk -/
theorem badF_cons {k : Str} {S : RS} {d : PyData} {ds : List PyData} {i : Nat} : badF k S (d :: ds) i = if allowsF k S d = true then badF k (takeF S d) ds (i + 1) else some i := rfl
theorem map_last {bl : List Str} {x : Str} (h : bl.getLast? = some x) : (bl.map V.str).getLast? = some (V.str x) := by
  rw [List.getLast?_map, h]
  rfl
theorem ne_map {bl : List Str} (h : bl ≠ []) : bl.map V.str ≠ [] := fun e => h (List.map_eq_nil_iff.mp e)
theorem last_of {bl : List Str} (h : bl ≠ []) : ∃ x, bl.getLast? = some x := ⟨bl.getLast h, List.getLast?_eq_getLast h⟩
theorem imp_ofH {P G : Hp → Prop} {Q : Prop} (f : (∀ H, G H → P H) → Q) (p : ∀ H, G H → P H) : Q := f p
theorem unbare_len (bl : List Str) : (unbare bl).length ≤ bl.length + 1 := by
  unfold unbare
  split
  · rw [List.length_append, List.length_dropLast, List.length_singleton]
    omega
  · omega
theorem decV {x y : Str} : decide (V.str x = V.str y) = decide (x = y) := by
  rw [Bool.eq_iff_iff, decide_eq_true_iff, decide_eq_true_iff]
  exact ⟨fun h => by injection h, fun h => by rw [h]⟩
section
variable {P : Program} {w : World} {K : PySem.W.Frag} {mg : Str → Option Value} {base : Heap}
theorem scBad : FnScope nsBad ["_law_lines_here"] (defScope sBad) := ⟨rfl, rfl, rfl, by decide +kernel, rfl, by decide +kernel, by decide +kernel⟩
theorem ok_Bad {f : Addr} {fd : FuncData} (F : Fun K "_law_bad_line" "_law_bad_line" sBad f fd) (T : Gs K mg) (me : mg "enumerate" = none) (CL : Cal P w K mg base 3 "_law_is_line" ["_law_kind_here", "_law_words"] (spLn K)) : FnOk P w K mg base CX0 4 f fd ["_law_lines_here"] (spBad K) := by
  refine F.ok scBad (fun vs H Q E h => ?_) (fun cdv A outer s H vs Q E hr h => ?_)
  · obtain ⟨a, k, ls, ds, rfl, _⟩ := h
    rfl
  obtain ⟨a, k, ls, ds, rfl, ha, hp, hll, hly, q⟩ := h
  refine ⟨_, (pss_cons (ps_if (pt_cmpR op_notIn_seq (pe_ix ix_list (pv 0) pe_int (fun _ _ => rfl)) (pe_lst (pa_cons pe_str (pa_cons pe_str pa_nil))) (by rfl))
    (pss_one (ps_ret pe_int))
    pss_nil)
  (pss_cons (ps_set (i := 1) scBad.nd rfl (.inl rfl) (pe_lst pa_nil))
  (pss_cons (ps_set (i := 2) scBad.nd rfl (.inl rfl) pe_int)
  (pss_cons (ps_for PassesOwn.never rfl (pi_enum (by rfl) me (pa_cons (pe_slice sl_list (pv 0) (po_some pe_int) po_none) pa_nil)) (pg_tup (by rfl) (pgs_cons (pg_name (i := 3) scBad.nd rfl (.inl rfl)) (pgs_cons (pg_name (i := 4) scBad.nd rfl (.inl rfl)) pgs_nil)))
    (pss_cons (ps_set (i := 5) scBad.nd rfl (.inl rfl) (pe_m1 PySem.F.slot_str_split PySem.F.type_str_split mt_split (pv 4) pe_str))
    (pss_cons (ps_set (i := 6) scBad.nd rfl (.inl rfl) (pe_and (pe_cmpR op_lt (pv 2) pe_int (nomark _)) (pe_one (pe_cmpR op_lt (pe_callB call_len_seq (by rfl) T.len PySem.boot_len (pa_cons (pv 1) pa_nil)) pe_int (nomark _)))))
    (pss_one (ps_if (pt_cmpR op_eq (pv 4) pe_str (nomark _))
      (pss_cons (ps_if (PW.pt (pw_or (pt_cmpR (op_eqD hr.units) (pv 1) (pe_lst pa_nil) (nomark _)) (pw_or1 (pt_cmpR op_eq (pe_ix ix_list (pv 1) (pe_un un_neg pe_int) (fun _ _ => rfl)) pe_str (nomark _)))))
        (pss_one (ps_ret (pe_op op_add (pv 3) pe_int)))
        pss_nil)
      (pss_one (ps_set (i := 1) scBad.nd rfl (.inl rfl) (pe_slice sl_list (pv 1) po_none (po_some (pe_un un_neg pe_int))))))
      (pss_one (ps_if (pt_cmpR op_eq (pv 4) pe_str (nomark _))
        (pss_cons (ps_if (PW.pt (pw_or (pt_cmpR (op_eqD hr.units) (pv 1) (pe_lst pa_nil) (nomark _)) (pw_or (pt_cmpR op_ne (pe_ix ix_list (pv 1) (pe_un un_neg pe_int) (fun _ _ => rfl)) pe_str (nomark _)) (pw_or1 (pt_not (pt_truth (pv 6) (by intro _; rfl)))))))
          (pss_one (ps_ret (pe_op op_add (pv 3) pe_int)))
          pss_nil)
        (pss_one (ps_asg pe_str (pg_sub (pv 1) (pe_un un_neg pe_int) set_list))))
        (pss_cons (ps_if (PW.pt (pw_or (pt_not (pt_truth (pv 6) (by intro _; rfl))) (pw_or1 (pt_not (pt_val (pe_call CL.G hr rfl CL.m CL.kp CL.b .nil pass0 (pa_cons (pe_ix ix_list (pv 0) pe_int (fun _ _ => rfl)) (pa_cons (pv 5) pa_nil))))))))
          (pss_one (ps_ret (pe_op op_add (pv 3) pe_int)))
          pss_nil)
        (pss_cons (ps_set (i := 2) scBad.nd rfl (.inl rfl) (pe_op op_add (pv 2) pe_int))
        (pss_cons (ps_if (PW.pt (pw_and (pt_cmpR (op_neD hr.units) (pv 1) (pe_lst pa_nil) (nomark _)) (pw_and1 (pt_cmpR op_eq (pe_ix ix_list (pv 1) (pe_un un_neg pe_int) (fun _ _ => rfl)) pe_str (nomark _)))))
          (pss_one (ps_asg pe_str (pg_sub (pv 1) (pe_un un_neg pe_int) set_list)))
          pss_nil)
        (pss_one (ps_if (pt_cmpR op_in_seq (pe_ix ix_list (pv 5) pe_int (fun _ _ => rfl)) (pe_lst (pa_cons pe_str (pa_cons pe_str pa_nil))) (by rfl))
          (pss_one (ps_expr (pe_bm PySem.F.plainAttrs_list PySem.F.slot_list_append PySem.F.type_list_append mt_append (pv 1) (pa_cons (pe_ix ix_list (pv 5) pe_int (fun _ _ => rfl)) pa_nil))))
          pss_nil))))))))))))
  (pss_cons (ps_if (pt_cmpR (op_eqD hr.units) (pv 1) (pe_lst pa_nil) (nomark _))
    (pss_one (ps_ret pe_non))
    pss_nil)
  (pss_one (ps_ret (pe_callB call_len_seq (by rfl) T.len PySem.boot_len (pa_cons (pv 0) pa_nil))))))))), ?_⟩
  refine ⟨_, rfl, a, _, _, _, rfl, rfl, SqL.of ha, atI_nat (j := 0) rfl, (by show 2 ≤ sizeLine; decide), nin_lst (zs := kinds) fun p0 n0 => ⟨_, rfl, ?_⟩⟩
  have ekk : decide (k ∈ kinds) = inS (.str k) kinds := (inS_str (z := k) (zs := kinds)).symm
  rw [ekk]
  cases hk : inS (.str k) kinds with
  | false =>
    refine iteT ?_
    have : dueO k ds = some 0 := by
      unfold dueO
      rw [if_neg (by rw [hk]; decide)]
    rw [this] at q
    exact q _ (same_new n0 _)
  | true =>
  have hdue : dueO k ds = badF k R0 ds 1 := by
    unfold dueO
    rw [if_pos hk]
  rw [hdue] at q
  have hkk : k = "teller" ∨ k = "collector" := by
    rw [hk, decide_eq_true_iff] at ekk
    simpa [kinds] using ekk
  have u0 := same_new n0 (.lst (kinds.map V.str))
  have ha0 := u0 _ _ ha
  refine iteF ⟨by show 0 ≤ sizeLine; decide, fun bl nbl => ?_⟩
  dsimp only [tNil]
  have u1 := u0.trans (same_new nbl (.lst []))
  have ha1 := same_new nbl (.lst []) _ _ ha0
  have eb1 : (upd (upd H p0 (.lst (kinds.map V.str))) bl (.lst [])) bl = some (.lst []) := upd_same
  have nblH : H bl = none := u0.free nbl
  generalize upd (upd H p0 (.lst (kinds.map V.str))) bl (.lst []) = H1 at u1 ha1 eb1 ⊢
  refine ⟨_, rfl, _, rfl, a, _, rfl, SqL.of ha1, fun c nc => ?_⟩
  rw [show cutV ((k :: ls).map V.str) (some 1) none = ls.map V.str from cut_hi _ 1]
  have u2 := u1.trans (same_new nc (.lst (ls.map V.str)))
  have ec2 : (upd H1 c (.lst (ls.map V.str))) c = some (.lst (ls.map V.str)) := upd_same
  have eb2 := same_new nc (.lst (ls.map V.str)) _ _ eb1
  have nbc : bl ≠ c := fun e => by rw [e, nc] at eb1; cases eb1
  have ncH : H c = none := u1.free nc
  generalize upd H1 c (.lst (ls.map V.str)) = H2 at u2 ec2 eb2 ⊢
  have hst0 : StkT k (R0.top :: R0.rest) [] R0.many := by
    have := StkT.base (k := k) (ss := []) (bodyN_nil k 4) lay_nil
    rw [bodyT_nil] at this
    exact this
  refine ⟨c, ls.map V.str, rfl, SqL.of ec2, for_it (walk_enum (K := K) (a := c) (xs := ls.map V.str)) (fun i σ Hx => ∃ (S : RS) (bl : Addr) (s3 s4 s5 s6 : Option V), σ = [some (.ref a), some (.ref bl), some (.int (S.many : Nat)), s3, s4, s5, s6] ∧ Same H Hx ∧ Hx c = some (.lst (ls.map V.str)) ∧ Hx bl = some (.lst ((tags S.top S.rest).map V.str)) ∧ H bl = none ∧ bl ≠ c ∧ badF k S (ds.drop i) (1 + i) = badF k R0 ds 1 ∧ StkT k (S.top :: S.rest) (ls.take i) S.many ∧ S.many ≤ 24)
    ⟨R0, bl, none, none, none, none, rfl, u2, ec2, eb2, nblH, nbc, rfl, hst0, Nat.zero_le _⟩ (fun i σ Hx _ ⟨S, bl, s3, s4, s5, s6, _, _, hx, _⟩ => SqL.of hx) ?_ ?_⟩
  · clear nbc nblH eb1 eb2 nbl u2 ec2 hst0
    rintro i y σ Hx Hy hi ⟨S, bl, s3, s4, s5, s6, rfl, uX, ecx, ebx, nblH, nbc, hr', hst, hm24⟩ ⟨tp, x1, y1, rfl, ntp, rfl, ex1, ey1⟩
    cases ex1
    have ey1 : (ls.map V.str)[i]? = some y1 := ey1
    rw [List.getElem?_map] at ey1
    cases hu : ls[i]? with
    | none => rw [hu] at ey1; cases ey1
    | some ln =>
    rw [hu] at ey1
    cases ey1
    obtain ⟨d, hd, hLH⟩ := paired_at hp hu
    have hLB := hLH.b
    have hLL := hLH.lay
    obtain ⟨⟨wd, ws, l1, l2, l3, l4, l5⟩, _⟩ := hLH
    have hdrop : ds.drop i = d :: ds.drop (i + 1) := by
      obtain ⟨hlt, he⟩ := List.getElem?_eq_some_iff.mp hd
      rw [List.drop_eq_getElem_cons hlt, he]
    rw [hdrop, badF_cons] at hr'
    have et : ls.take (i + 1) = ls.take i ++ [ln] := by
      rw [List.take_add_one, hu]
      rfl
    have hi' : i < ls.length := (List.getElem?_eq_some_iff.mp hu).1
    have u5 := same_new ntp (.tup [.int (i : Nat), .str ln])
    have e5 : (upd Hx tp (.tup [.int (i : Nat), .str ln])) tp = some (.tup [.int (i : Nat), .str ln]) := upd_same
    have uY := uX.trans u5
    have ecy := u5 _ _ ecx
    have eby := u5 _ _ ebx
    generalize upd Hx tp (.tup [.int (i : Nat), .str ln]) = H5 at u5 e5 uY ecy eby ⊢
    refine ⟨tp, _, rfl, SqT.of e5, rfl, _, _, rfl, _, _, rfl, rfl, ?_⟩
    dsimp only [List.set_cons_succ, List.set_cons_zero]
    have hln : ln.length ≤ 5000 := hly ln (List.mem_of_getElem? hu)
    refine ⟨_, rfl, ⟨ln, rfl⟩, ln, _, rfl, rfl, (by decide +kernel), Nat.le_trans (by omega : _ ≤ 6000) (by decide), fun wl nwl => ?_⟩
    rw [l1]
    have u6 := same_new nwl (.lst ((wd :: ws).map V.str))
    have ew : (upd H5 wl (.lst ((wd :: ws).map V.str))) wl = some (.lst ((wd :: ws).map V.str)) := upd_same
    have uZ := uY.trans u6
    have ecz := u6 _ _ ecy
    have ebz := u6 _ _ eby
    generalize upd H5 wl (.lst ((wd :: ws).map V.str)) = H6 at u6 ew uZ ecz ebz ⊢
    have hwb : wl ≠ bl := fun e => by rw [e, eby] at nwl; cases nwl
    clear u5 e5 uY ecy eby u6 nwl ntp
    dsimp only [List.set_cons_succ, List.set_cons_zero]
    have hB := hst.okB
    have htW := tagW_tags hst
    refine ⟨_, rfl, _, _, rfl, rfl, _, rfl, and_one (e := decide ((tags S.top S.rest).length < 4)) (fun Q' q' => ⟨_, rfl, bl, _, rfl, .inl (SqL.of ebz), _, _, rfl, rfl, ?_⟩) ?_⟩
    · rw [show ((tags S.top S.rest).map V.str).length = (tags S.top S.rest).length from List.length_map _]
      have e : decide (((tags S.top S.rest).length : Int) < 4) = decide ((tags S.top S.rest).length < 4) := by
        rw [Bool.eq_iff_iff, decide_eq_true_iff, decide_eq_true_iff]
        omega
      show Q' (V.bl (decide (((tags S.top S.rest).length : Int) < 4))) H6
      rw [e]
      exact q'
    have eroom : (decide (((S.many : Nat) : Int) < 24) && decide ((tags S.top S.rest).length < 4)) = hasRoom S := by
      rw [room_tags]
      congr 1
      rw [Bool.eq_iff_iff, decide_eq_true_iff, decide_eq_true_iff]
      omega
    rw [eroom]
    dsimp only [List.set_cons_succ, List.set_cons_zero]
    refine ⟨_, rfl, rfl, _, rfl, ?_⟩
    rw [decV, ← end_iff hLB]
    have eret : ((i : Nat) : Int) + 1 = ((1 + i : Nat) : Int) := by push_cast; omega
    cases c1 : isW d "end" with
    | true =>
      have hal : allowsF k S d = mayEnd S.top := by
        unfold allowsF
        rw [if_pos c1]
      rw [hal, mayEnd_tags hB] at hr'
      refine iteT ⟨_, rfl, eq_empty htW ebz fun q1 nq1 => ⟨_, rfl, ?_⟩⟩
      have u7 := same_new nq1 (.lst [])
      have eb7 := u7 _ _ ebz
      have ec7 := u7 _ _ ecz
      generalize upd H6 q1 (.lst []) = H7 at u7 eb7 ec7 ⊢
      cases he : decide (tags S.top S.rest = []) with
      | true =>
        rw [he] at hr'
        have hr2 : some (1 + i) = badF k R0 ds 1 := by rw [← hr']; rfl
        rw [← hr2] at q
        refine iteT (iteT ⟨_, rfl, _, _, rfl, rfl, ?_⟩)
        show Q (V.int (((i : Nat) : Int) + 1)) _
        rw [eret]
        exact q _ (uZ.trans u7)
      | false =>
        have hne : tags S.top S.rest ≠ [] := of_decide_eq_false he
        obtain ⟨x, hx⟩ := last_of hne
        refine iteF ⟨_, rfl, _, rfl, bl, _, _, _, rfl, rfl, SqL.of eb7, atI_last (map_last hx), rfl, _, rfl, ?_⟩
        rw [decV]
        rw [he, hx] at hr'
        have e2 : decide (some x = some ("bare else" : Str)) = decide (x = "bare else") := by
          rw [Bool.eq_iff_iff, decide_eq_true_iff, decide_eq_true_iff]
          exact ⟨fun h => by injection h, fun h => by rw [h]⟩
        rw [e2] at hr'
        cases hbe : decide (x = "bare else") with
        | true =>
          rw [hbe] at hr'
          have hr2 : some (1 + i) = badF k R0 ds 1 := by rw [← hr']; rfl
          rw [← hr2] at q
          refine iteT ⟨_, rfl, _, _, rfl, rfl, ?_⟩
          show Q (V.int (((i : Nat) : Int) + 1)) _
          rw [eret]
          exact q _ (uZ.trans u7)
        | false =>
          rw [hbe] at hr'
          have hr2 : badF k (takeF S d) (ds.drop (i + 1)) (1 + i + 1) = badF k R0 ds 1 := by rw [← hr']; rfl
          have hallow : allowsF k S d = true := by rw [hal, mayEnd_tags hB, he, hx, e2, hbe]; rfl
          obtain ⟨st', m24'⟩ := take_text hst hm24 hLB hLL hallow
          refine iteF ⟨_, rfl, _, rfl, _, rfl, bl, _, rfl, SqL.of eb7, fun nb nnb => ?_⟩
          dsimp only [List.set_cons_succ, List.set_cons_zero]
          have u8 := same_new nnb (.lst (cutV ((tags S.top S.rest).map V.str) none (some (-1))))
          have hrne : S.rest ≠ [] := fun e => hne (by rw [e]; rfl)
          obtain ⟨n0, r0, er⟩ : ∃ n r, S.rest = n :: r := by
            cases e : S.rest with
            | nil => exact absurd e hrne
            | cons n r => exact ⟨n, r, rfl⟩
          have etk : takeF S d = ⟨S.many, addL [asStmt S.top] n0, r0⟩ := by
            unfold takeF
            rw [if_pos c1, er]
          rw [etk] at hr2 st' m24'
          refine ⟨⟨S.many, addL [asStmt S.top] n0, r0⟩, nb, _, _, _, _, rfl, uZ.trans (u7.trans u8), u8 _ _ ec7, ?_, uZ.trans u7 |>.free nnb, fun e => ?_, by rw [← Nat.add_assoc]; exact hr2, by rw [et]; exact st', m24'⟩
          · show upd H7 nb (.lst (cutV ((tags S.top S.rest).map V.str) none (some (-1)))) nb = _
            rw [upd_same, cut_drop (ne_map hne), ← List.map_dropLast, er]
            rw [tags_end (s := asStmt S.top) (n := n0) (t := S.top) (r := r0)]
          · rw [e, ec7] at nnb
            cases nnb
    | false =>
      refine iteF ⟨_, rfl, rfl, _, rfl, ?_⟩
      rw [decV, ← else_iff hLB]
      cases c2 : isW d "else" with
      | true =>
        have hal : allowsF k S d = (hasRoom S && mayBranch S.top) := by
          unfold allowsF
          rw [if_neg (by rw [c1]; decide), if_pos c2]
          cases hasRoom S <;> rfl
        rw [hal, mayBranch_tags hB] at hr'
        refine iteT ⟨_, rfl, eq_empty htW ebz fun q1 nq1 => ⟨_, rfl, ?_⟩⟩
        have u7 := same_new nq1 (.lst [])
        have eb7 := u7 _ _ ebz
        have ec7 := u7 _ _ ecz
        generalize upd H6 q1 (.lst []) = H7 at u7 eb7 ec7 ⊢
        cases he : decide (tags S.top S.rest = []) with
        | true =>
          have he' : tags S.top S.rest = [] := of_decide_eq_true he
          rw [he'] at hr'
          have hr2 : some (1 + i) = badF k R0 ds 1 := by
            rw [← hr']
            rw [if_neg (by simp)]
          rw [← hr2] at q
          refine iteT (iteT ⟨_, rfl, _, _, rfl, rfl, ?_⟩)
          show Q (V.int (((i : Nat) : Int) + 1)) _
          rw [eret]
          exact q _ (uZ.trans u7)
        | false =>
          have hne : tags S.top S.rest ≠ [] := of_decide_eq_false he
          obtain ⟨x, hx⟩ := last_of hne
          refine iteF ⟨_, rfl, _, rfl, bl, _, _, _, rfl, rfl, SqL.of eb7, atI_last (map_last hx), rfl, _, rfl, ?_⟩
          rw [decV]
          have e2 : decide (some x = some ("if" : Str)) = decide (x = "if") := by
            rw [Bool.eq_iff_iff, decide_eq_true_iff, decide_eq_true_iff]
            exact ⟨fun h => by injection h, fun h => by rw [h]⟩
          rw [hx, e2] at hr'
          cases hbe : decide (x = "if") with
          | false =>
            rw [hbe, Bool.and_false] at hr'
            have hr2 : some (1 + i) = badF k R0 ds 1 := by rw [← hr']; rfl
            rw [← hr2] at q
            refine iteT (iteT ⟨_, rfl, _, _, rfl, rfl, ?_⟩)
            show Q (V.int (((i : Nat) : Int) + 1)) _
            rw [eret]
            exact q _ (uZ.trans u7)
          | true =>
            rw [hbe, Bool.and_true] at hr'
            refine iteF ⟨_, rfl, ?_⟩
            cases hroom : hasRoom S with
            | false =>
              rw [hroom] at hr'
              have hr2 : some (1 + i) = badF k R0 ds 1 := by rw [← hr']; rfl
              rw [← hr2] at q
              refine ⟨_, rfl, iteT ⟨_, rfl, _, _, rfl, rfl, ?_⟩⟩
              show Q (V.int (((i : Nat) : Int) + 1)) _
              rw [eret]
              exact q _ (uZ.trans u7)
            | true =>
              rw [hroom] at hr'
              have hr2 : badF k (takeF S d) (ds.drop (i + 1)) (1 + i + 1) = badF k R0 ds 1 := by rw [← hr']; rfl
              have hallow : allowsF k S d = true := by rw [hal, mayBranch_tags hB, hx, e2, hbe, hroom]; rfl
              obtain ⟨st', m24'⟩ := take_text hst hm24 hLB hLL hallow
              have hrne : S.rest ≠ [] := fun e => hne (by rw [e]; rfl)
              have etk : takeF S d = ⟨S.many, ⟨S.top.w, S.top.c, S.top.b1, some []⟩, S.rest⟩ := by
                unfold takeF
                rw [if_neg (by rw [c1]; decide), if_pos c2]
              rw [etk] at hr2 st' m24'
              refine ⟨_, rfl, iteF ⟨_, rfl, _, rfl, bl, _, _, _, rfl, rfl, eb7, ixN_last (List.length_pos_iff.mpr (ne_map hne)), ?_⟩⟩
              rw [set_last (ne_map hne)]
              refine ⟨⟨S.many, ⟨S.top.w, S.top.c, S.top.b1, some []⟩, S.rest⟩, bl, _, _, _, _, rfl, ?_, ?_, ?_, nblH, nbc, by rw [← Nat.add_assoc]; exact hr2, by rw [et]; exact st', m24'⟩
              · exact same_upd (uZ.trans u7) nblH _
              · rw [upd_ne (Ne.symm nbc)]; exact ec7
              · rw [upd_same, tags_else hrne, List.map_append, List.map_dropLast]
                rfl
      | false =>
        have hal : allowsF k S d = (hasRoom S && lineOk k wd ws) := by
          unfold allowsF lineOk
          rw [if_neg (by rw [c1]; decide), l2]
          cases hasRoom S with
          | false => rfl
          | true => rw [if_neg (by decide), if_neg (by rw [c2]; decide)]; rfl
        rw [hal] at hr'
        refine iteF ⟨_, rfl, ?_⟩
        cases hroom : hasRoom S with
        | false =>
          rw [hroom] at hr'
          have hr2 : some (1 + i) = badF k R0 ds 1 := by rw [← hr']; rfl
          rw [← hr2] at q
          refine ⟨_, rfl, iteT (iteT ⟨_, rfl, _, _, rfl, rfl, ?_⟩)⟩
          show Q (V.int (((i : Nat) : Int) + 1)) _
          rw [eret]
          exact q _ uZ
        | true =>
        rw [hroom, Bool.true_and] at hr'
        refine ⟨_, rfl, iteF ⟨_, rfl, a, _, _, _, rfl, rfl, SqL.of (uZ _ _ ha), atI_nat (j := 0) rfl, _, rfl, k, wd, ws, wl, rfl, ew, hkk, l3, l4, fun H7 u7 => ⟨_, rfl, ?_⟩⟩⟩
        have eb7 := u7 _ _ ebz
        have ec7 := u7 _ _ ecz
        have ew7 := u7 _ _ ew
        have u67 := uZ.trans u7
        cases hlo : lineOk k wd ws with
        | false =>
          rw [hlo] at hr'
          have hr2 : some (1 + i) = badF k R0 ds 1 := by rw [← hr']; rfl
          rw [← hr2] at q
          refine iteT ⟨_, rfl, _, _, rfl, rfl, ?_⟩
          show Q (V.int (((i : Nat) : Int) + 1)) _
          rw [eret]
          exact q _ u67
        | true =>
        rw [hlo] at hr'
        have hr2 : badF k (takeF S d) (ds.drop (i + 1)) (1 + i + 1) = badF k R0 ds 1 := by rw [← hr']; rfl
        have hallow : allowsF k S d = true := by rw [hal, hroom, hlo]; rfl
        obtain ⟨st', m24'⟩ := take_text hst hm24 hLB hLL hallow
        refine iteF ⟨_, rfl, _, _, rfl, rfl, ?_⟩
        dsimp only [List.set_cons_succ, List.set_cons_zero]
        clear uZ ecz ebz ew
        have emany : ((S.many : Nat) : Int) + 1 = ((S.many + 1 : Nat) : Int) := by push_cast; rfl
        -- the list is bare no more
        refine imp_ofH (P := ?P) (G := fun H8 => Same H H8 ∧ H8 c = some (.lst (ls.map V.str)) ∧ H8 wl = some (.lst ((wd :: ws).map V.str)) ∧ H8 bl = some (.lst ((unbare (tags S.top S.rest)).map V.str))) (fun r => ?a) (fun H8 g => ?b)
        case a =>
          refine ⟨_, rfl, ne_empty htW eb7 fun q1 nq1 => ⟨_, rfl, ?_⟩⟩
          have u8 := same_new nq1 (.lst [])
          have eb8 := u8 _ _ eb7
          have ec8 := u8 _ _ ec7
          have ew8 := u8 _ _ ew7
          have u9 := u67.trans u8
          generalize upd H7 q1 (.lst []) = H8 at u8 eb8 ec8 ew8 u9 ⊢
          cases he : decide (tags S.top S.rest = []) with
          | true =>
            have he' : tags S.top S.rest = [] := of_decide_eq_true he
            have eU : unbare (tags S.top S.rest) = tags S.top S.rest := by rw [he']; rfl
            refine iteF (iteF ?_)
            exact r H8 ⟨u9, ec8, ew8, by rw [eU]; exact eb8⟩
          | false =>
            have hne : tags S.top S.rest ≠ [] := of_decide_eq_false he
            obtain ⟨x, hx⟩ := last_of hne
            refine iteT ⟨_, rfl, _, rfl, bl, _, _, _, rfl, rfl, SqL.of eb8, atI_last (map_last hx), rfl, _, rfl, ?_⟩
            rw [decV]
            by_cases hbe : x = "bare else"
            · rw [decide_eq_true hbe]
              have eU : unbare (tags S.top S.rest) = (tags S.top S.rest).dropLast ++ [("else" : Str)] := by
                unfold unbare
                rw [if_pos (by rw [hx, hbe])]
              refine iteT ⟨_, rfl, _, rfl, bl, _, _, _, rfl, rfl, eb8, ixN_last (List.length_pos_iff.mpr (ne_map hne)), ?_⟩
              rw [set_last (ne_map hne)]
              have n1 : Same H (upd H8 bl (.lst (((tags S.top S.rest).map V.str).dropLast ++ [V.str "else"]))) := same_upd u9 nblH _
              have n2 : (upd H8 bl (.lst (((tags S.top S.rest).map V.str).dropLast ++ [V.str "else"]))) c = some (.lst (ls.map V.str)) := by rw [upd_ne (Ne.symm nbc)]; exact ec8
              have n3 : (upd H8 bl (.lst (((tags S.top S.rest).map V.str).dropLast ++ [V.str "else"]))) wl = some (.lst ((wd :: ws).map V.str)) := by rw [upd_ne hwb]; exact ew8
              have n4 : (upd H8 bl (.lst (((tags S.top S.rest).map V.str).dropLast ++ [V.str "else"]))) bl = some (.lst ((unbare (tags S.top S.rest)).map V.str)) := by
                rw [upd_same, eU, List.map_append, List.map_dropLast]
                rfl
              generalize upd H8 bl (.lst (((tags S.top S.rest).map V.str).dropLast ++ [V.str "else"])) = H9 at n1 n2 n3 n4 ⊢
              exact r H9 ⟨n1, n2, n3, n4⟩
            · rw [decide_eq_false hbe]
              have eU : unbare (tags S.top S.rest) = tags S.top S.rest := by
                unfold unbare
                rw [if_neg (by rw [hx]; intro e; injection e with e; exact hbe e)]
              refine iteF ?_
              exact r H8 ⟨u9, ec8, ew8, by rw [eU]; exact eb8⟩
        case b =>
          obtain ⟨u8, ec8, ew8, eb8⟩ := g
          refine ⟨_, rfl, wl, _, _, _, rfl, rfl, SqL.of ew8, atI_nat (j := 0) rfl, (by show 2 ≤ sizeLine; decide), in_lst (zs := ["if", "while"]) fun q2 nq2 => ⟨_, rfl, ?_⟩⟩
          have u9 := same_new nq2 (.lst ([("if" : Str), "while"].map V.str))
          have ec9 := u9 _ _ ec8
          have ew9 := u9 _ _ ew8
          have eb9 := u9 _ _ eb8
          have u89 := u8.trans u9
          generalize upd H8 q2 (.lst ([("if" : Str), "while"].map V.str)) = H9 at u9 ec9 ew9 eb9 u89 ⊢
          by_cases hio : wd = "if" ∨ wd = "while"
          · rw [decide_eq_true (by rcases hio with rfl | rfl <;> simp)]
            have hopen : isOpen d = true := by
              have h1 : lineOk k wd ws = isCond (.tuple (ws.map numW)) := lineOk_open hio
              rw [hlo] at h1
              rw [← l2, lineP_open hio]
              show (decide (wd = "if" ∨ wd = "while") && isCond (.tuple (ws.map numW))) = true
              rw [decide_eq_true hio, ← h1]
              rfl
            have etk : takeF S d = ⟨S.many + 1, opens d, S.top :: S.rest⟩ := by
              unfold takeF
              rw [if_neg (by rw [c1]; decide), if_neg (by rw [c2]; decide), if_pos hopen]
            have eop : opens d = ⟨wd, .tuple (ws.map numW), [], none⟩ := by
              rw [← l2, lineP_open hio]
              rfl
            rw [etk, eop] at hr2 st' m24'
            refine iteT ⟨_, rfl, .inl ⟨rfl, _, SqL.of eb9⟩, _, rfl, wl, _, _, _, rfl, rfl, SqL.of ew9, atI_nat (j := 0) rfl, bl, _, _, rfl, rfl, eb9, ?_, ?_⟩
            · rw [List.length_map]
              have h1 := unbare_len (tags S.top S.rest)
              have h2 := tags_len S.top S.rest
              have h3 := hst.len
              rw [List.length_cons] at h3
              exact Nat.lt_of_le_of_lt (by omega : _ ≤ 10) (by decide)
            · rw [emany]
              refine ⟨⟨S.many + 1, ⟨wd, .tuple (ws.map numW), [], none⟩, S.top :: S.rest⟩, bl, _, _, _, _, rfl, same_upd u89 nblH _, ?_, ?_, nblH, nbc, by rw [← Nat.add_assoc]; exact hr2, by rw [et]; exact st', m24'⟩
              · rw [upd_ne (Ne.symm nbc)]; exact ec9
              · rw [upd_same]
                show _ = some (HO.lst ((tags ⟨wd, .tuple (ws.map numW), [], none⟩ (S.top :: S.rest)).map V.str))
                rw [tags_open hB, List.map_append]
                rfl
          · rw [decide_eq_false (by intro m; apply hio; simpa using m)]
            have hnop : isOpen d = false := by
              cases ho : isOpen d with
              | false => rfl
              | true =>
                obtain ⟨w', co, e1, e2, _⟩ := line_cond hLB ho
                exfalso
                rw [← l2] at e1
                by_cases hask : wd = "ask"
                · subst hask
                  rw [← l2] at ho
                  unfold lineP at ho
                  rw [if_pos rfl] at ho
                  unfold askP at ho
                  split at ho
                  · split at ho <;> cases ho
                  · cases ho
                · rw [lineP_plain hask (fun e => hio (.inl e)) (fun e => hio (.inr e))] at e1
                  injection e1 with e1
                  injection e1 with e1
                  injection e1 with e1
                  rw [← e1] at e2
                  exact hio e2
            have etk : takeF S d = ⟨S.many + 1, addL [d] S.top, S.rest⟩ := by
              unfold takeF
              rw [if_neg (by rw [c1]; decide), if_neg (by rw [c2]; decide), if_neg (by rw [hnop]; decide)]
            rw [etk] at hr2 st' m24'
            refine iteF ?_
            rw [emany]
            refine ⟨⟨S.many + 1, addL [d] S.top, S.rest⟩, bl, _, _, _, _, rfl, u89, ec9, ?_, nblH, nbc, by rw [← Nat.add_assoc]; exact hr2, by rw [et]; exact st', m24'⟩
            show _ = some (HO.lst ((tags (addL [d] S.top) S.rest).map V.str))
            rw [tags_plain hB]
            exact eb9
  · rintro σ Hx ⟨S, bl, s3, s4, s5, s6, rfl, uX, ecx, ebx, nblH, nbc, hr', hst, hm24⟩
    have hdl : ds.length = ls.length := paired_len hp
    rw [List.length_map, ← hdl, List.drop_length] at hr'
    have hr'' : (if S.rest = [] then none else some (1 + ds.length)) = badF k R0 ds 1 := hr'
    refine ⟨_, rfl, eq_empty (tagW_tags hst) ebx fun q1 nq1 => ⟨_, rfl, ?_⟩⟩
    have etl : decide (tags S.top S.rest = []) = decide (S.rest = []) := by
      rw [Bool.eq_iff_iff, decide_eq_true_iff, decide_eq_true_iff]
      have := tags_len S.top S.rest
      constructor
      · intro e
        rw [e] at this
        exact List.length_eq_zero_iff.mp this.symm
      · intro e
        exact List.length_eq_zero_iff.mp (this.trans (by rw [e]; rfl))
    rw [etl]
    by_cases hrest : S.rest = []
    · rw [if_pos hrest] at hr''
      rw [← hr''] at q
      rw [decide_eq_true hrest]
      exact iteT (q _ (uX.trans (same_new nq1 _)))
    · rw [if_neg hrest] at hr''
      rw [decide_eq_false hrest]
      rw [← hr''] at q
      refine iteF ⟨_, rfl, a, _, rfl, .inl (SqL.of (same_new nq1 _ _ _ (uX _ _ ha))), ?_⟩
      rw [show ((k :: ls).map V.str).length = 1 + ds.length by rw [List.length_map, List.length_cons, hdl, Nat.add_comm]]
      exact q _ (uX.trans (same_new nq1 _))
end
end My

namespace My
open PySem L2 TL PySem.Spec PyProof.Rows
/-! ### isinstance of a caught error that has fields -/
section
variable {X : Cx} {a : Addr} {cls : Value} {d : Option Addr} {oe : Obj} {pn : List (Addr × Obj)}
theorem inst_xd {pins : List (Addr × Obj)} {σ : L2.St} {H : Hp} {s : Shared} {D dd : Addr} {fs : List (Str × V)} (hz : Zc (.ref D) (some dd) oe) (hf : ∃ vs, oe.data = .fields vs) (I : Inv (X.suite a ((a, oe) :: pn)) pins σ H s) (ed : H dd = some (.xd fs)) : ∃ od, PySem.W.InstAt s.heap a oe D (some od) := by
  obtain ⟨hget, _⟩ := I.pin (a, oe) (List.mem_append.mpr (.inl List.mem_cons_self))
  obtain ⟨vs, hv⟩ := hf
  have hx : ObjOk X.prog X.w H s.heap dd (.xd fs) := I.hok dd _ ed
  obtain ⟨mA, hns, hr⟩ := hx
  obtain ⟨od, ho, hl⟩ := lookIn_ns hns
  exact ⟨od, hget, hz.1, by unfold PySem.W.notCls; rw [hv] <;> rfl, by rw [hz.2]; exact ho⟩
theorem call_isX (hz : Zc cls d oe) (hf : ∃ vs, oe.data = .fields vs) :
    CallR (X.suite a ((a, oe) :: pn)) (.builtin "isinstance") (fun xs H Q => ∃ (D dd : Addr) (fs : List (Str × V)), cls = .ref D ∧ d = some dd ∧ H dd = some (.xd fs) ∧ ExcC X.K D ∧ rIsE X.K D a xs H Q) := by
  intro pins s σ H xs us Q I r h
  obtain ⟨D, dd, fs, rfl, rfl, ed, C, c, cv, b, rfl, hcv, e, q⟩ := h
  obtain ⟨od, J⟩ := inst_xd hz hf I ed
  cases r with
  | cons rx rr =>
    cases rr with
    | cons rt rr =>
      cases rr
      cases rx
      have ec := hcv _ rt
      subst ec
      have hcl : (PySem.W.clsIn X.K D).isSome = true := by obtain ⟨cd, hc, _⟩ := PySem.W.any_some C.hd; rw [hc]; rfl
      exact PySem.W.kia_one (PySem.W.kitx_exc hcl C.hg C.hk C.hs C.ha C.hn C.ht C.hm) I.kIn J e (fun z => nomatch z) fun tk => ⟨.bl b, H, I.kept (t' := tk) fun _ _ z => z, rfl, q⟩
theorem call_isXT (hz : Zc cls d oe) (hf : ∃ vs, oe.data = .fields vs) :
    CallR (X.suite a ((a, oe) :: pn)) (.builtin "isinstance") (fun xs H Q => ∃ (D dd : Addr) (fs : List (Str × V)), cls = .ref D ∧ d = some dd ∧ H dd = some (.xd fs) ∧ ExcC X.K D ∧ rIsET X.K D a xs H Q) := by
  intro pins s σ H xs us Q I r h
  obtain ⟨D, dd, fs, rfl, rfl, ed, C, tp, cs, ws, b, rfl, hT, k, e, q⟩ := h
  obtain ⟨od, J⟩ := inst_xd hz hf I ed
  obtain ⟨u1, u2, rfl, r1, r2⟩ := vals2 r
  cases (show u2 = Value.ref tp from r2)
  cases (show u1 = Value.ref a from r1)
  obtain ⟨_, its, rv, o, h1, h2, n, h3⟩ := (show ObjOk X.prog X.w H s.heap tp (.tup cs) from I.hok tp _ hT)
  have e3 := ClsV.all k rv
  have hcl : (PySem.W.clsIn X.K D).isSome = true := by obtain ⟨cd, hc, _⟩ := PySem.W.any_some C.hd; rw [hc]; rfl
  subst e3
  obtain ⟨oc, od', dt, sl⟩ := o
  simp only at h2 h3
  subst h2 h3
  exact PySem.W.kia_tup (PySem.W.kitx_exc hcl C.hg C.hk C.hs C.ha C.hn C.ht C.hm) I.kIn J h1 e (fun z => nomatch z) fun tk => ⟨.bl b, H, I.kept (t' := tk) fun _ _ z => z, rfl, q⟩
end
end My

namespace My
open PySem L2 TL
/-! ### what read says of a text, as the law tells it -/
abbrev nsSai : List Str := ["_law_text_here", "e"]
/-- what the top has written of the other errors -/
structure Et (K : PySem.W.Frag) (mg : Str → Option Value) (cT cH : Addr) where
  c1 : Addr
  c2 : Addr
  c3 : Addr
  c4 : Addr
  c5 : Addr
  g1 : mg "BadHistory" = some (.ref c1)
  g2 : mg "BadProgram" = some (.ref c2)
  g3 : mg "BadRow" = some (.ref c3)
  g4 : mg "BadSide" = some (.ref c4)
  g5 : mg "BadSteps" = some (.ref c5)
  e : PySem.W.exmOne K (.ref cT) (.ref cH) = some true
  c : ExcC K cT
  k1 : PySem.W.kitOne K (.ref cT) (.ref cT) = some true
  k5 : PySem.W.kitAny K (.ref cT) [.ref c1, .ref c2, .ref c3, .ref c4, .ref c5] = some false
/-- a text of lines: what is asked of it -/
structure TxOk (z k : Str) (ls : List Str) (ds : List PyData) : Prop where
  len : z.length + 2 ≤ sizeLine
  spl : Txt.split z "\n" = k :: ls
  kl : Lay (.str k)
  pr : Paired LineH ls ds
  n : ls.length ≤ 1000
  ll : ∀ y ∈ ls, y.length ≤ 5000
/-- the answer: ("line", i), or ("program", p) with the program's text the text -/
def SaidR (K : PySem.W.Frag) (k : Str) (ls : List Str) (o : Option Nat) (H' : Hp) (p : Addr) : Prop :=
  (∃ i, o = some i ∧ H' p = some (.tup [.str "line", .int (i : Nat)])) ∨
  ∃ (q : Addr) (ss : List PyData) (c : Nat), o = none ∧ H' p = some (.tup [.str "program", .ref q]) ∧ Dt K H' (.ref q) (.tuple [.str k, .tuple ss]) ∧ bodyT 4 (.tuple ss) = ls ∧ bodyN k 4 (.tuple ss) = some c ∧ c ≤ 24 ∧ Lay (.tuple ss) ∧ inS (.str k) kinds = true
def spSai (K : PySem.W.Frag) : Sp := fun vs H Q _ => ∃ (z k : Str) (ls : List Str) (ds : List PyData), vs = [.str z] ∧ TxOk z k ls ds ∧ ∀ H' p, Same H H' → H p = none → SaidR K k ls (dueO k ds) H' p → Q (.ref p) H'
section
variable {P : Program} {w : World} {K : PySem.W.Frag} {mg : Str → Option Value} {base : Heap}
end
end My

namespace My
open PySem L2 TL
/-! ### any line has its parts; a text of lines -/
theorem joinL_mem {S : List Nat} : ∀ {ps : List (List Nat)} {p : List Nat}, p ∈ ps → (∀ c ∈ p, c ∈ joinL S ps) ∧ p.length ≤ (joinL S ps).length
  | [q], p, m => by
    rw [List.mem_singleton.mp m]
    exact ⟨fun c h => h, Nat.le_refl _⟩
  | q :: r :: t, p, m => by
    have e : joinL S (q :: r :: t) = q ++ (S ++ joinL S (r :: t)) := rfl
    rw [e]
    rcases List.mem_cons.mp m with rfl | m
    · exact ⟨fun c h => List.mem_append_left _ h, by rw [List.length_append]; omega⟩
    · obtain ⟨h1, h2⟩ := joinL_mem (S := S) m
      exact ⟨fun c h => List.mem_append_right _ (List.mem_append_right _ (h1 c h)), by rw [List.length_append, List.length_append]; omega⟩
theorem joinL_len {S : List Nat} (hS : 1 ≤ S.length) : ∀ ps : List (List Nat), ps.length ≤ (joinL S ps).length + 1
  | [] => by simp
  | [q] => by simp
  | q :: r :: t => by
    have e : joinL S (q :: r :: t) = q ++ (S ++ joinL S (r :: t)) := rfl
    have := joinL_len hS (r :: t)
    rw [e, List.length_append, List.length_append]
    rw [List.length_cons]
    omega
theorem split_facts {y sep : Str} (hs : 1 ≤ (tl sep).length) (he : Txt.split "" sep = [("" : Str)]) : ∃ w ws, Txt.split y sep = w :: ws ∧ Txt.join sep (w :: ws) = y ∧ (∀ u ∈ w :: ws, (∀ c ∈ tl u, c ∈ tl y) ∧ u.length ≤ y.length) ∧ ws.length ≤ y.length := by
  have hj := PySem.StrLaws.join_split y sep
  cases e : Txt.split y sep with
  | nil =>
    rw [e] at hj
    have : y = "" := hj.symm
    subst this
    rw [he] at e
    cases e
  | cons w ws =>
    rw [e] at hj
    have ht : tl y = joinL (tl sep) ((w :: ws).map tl) := by rw [← tl_join, hj]
    refine ⟨w, ws, rfl, by rw [join_eq]; exact hj, fun u mu => ?_, ?_⟩
    · have := joinL_mem (S := tl sep) (ps := (w :: ws).map tl) (p := tl u) (List.mem_map.mpr ⟨u, mu, rfl⟩)
      rw [← ht] at this
      exact ⟨this.1, by rw [len_tl, len_tl y]; exact this.2⟩
    · have := joinL_len hs ((w :: ws).map tl)
      rw [← ht, List.length_map, List.length_cons] at this
      rw [len_tl]
      omega
theorem num_lay {z : Str} (h : okS z) : Lay (numW z) := by
  unfold numW
  split
  · unfold Lay; simp only [PyData.canLay0]
  · exact lay_str h
theorem num_depth (z : Str) : (numW z).depth = 0 := by
  unfold numW
  split <;> simp only [PyData.depth]
theorem depthAll_nums : ∀ ws : List Str, PyData.depthAll (ws.map numW) = 0
  | [] => by simp only [List.map_nil, PyData.depthAll]
  | w :: ws => by
    rw [List.map_cons]
    simp only [PyData.depthAll, num_depth, depthAll_nums ws]
    rfl
theorem okS_sub {u y : Str} (h : okS y) (hs : ∀ c ∈ tl u, c ∈ tl y) : okS u := by
  rw [okS_iff] at h ⊢
  exact fun n m => h n (hs n m)
theorem cut_ok {z : Str} (h : okS z) (lo hi : Option Int) : okS (cutS z lo hi) := by
  refine okS_sub h fun c m => ?_
  unfold cutS at m
  have m' : c ∈ ((tl z).drop (HT.sIx z.length 0 lo)).take (HT.sIx z.length z.length hi - HT.sIx z.length 0 lo) := m
  exact List.mem_of_mem_drop (List.mem_of_mem_take m')
theorem goodP {w : Str} {ws : List Str} (h : ∀ u ∈ w :: ws, okS u) : goodD (lineP w ws) := by
  have hw := h w (by simp)
  have hws : ∀ d ∈ ws.map numW, Lay d := fun d m => by
    obtain ⟨u, mu, rfl⟩ := List.mem_map.mp m
    exact num_lay (h u (by simp [mu]))
  unfold lineP
  split
  · unfold askP
    split
    · rename_i a p x e
      injection e with e1 e2
      subst e2
      have hp : okS p := h p (by simp)
      have hx : okS x := h x (by simp)
      split
      · rename_i hs
        have h3 : okS ⟨#[(p.cps.toList[1]?).getD 0]⟩ := by
          rw [okS_iff]
          intro n m
          have m' : n ∈ [(p.cps.toList[1]?).getD 0] := m
          rw [List.mem_singleton.mp m']
          cases e3 : p.cps.toList[1]? with
          | none => show 0 < _; decide
          | some c => exact (okS_iff.mp hp) c (List.mem_of_getElem? e3)
        have hl : Lay (.tuple [.str "ask", .str ⟨#[(p.cps.toList[1]?).getD 0]⟩, numW (cutS p (some 2) none), .str x]) := lay4 (lay_str (by decide +kernel)) (lay_str h3) (num_lay (cut_ok hp _ _)) (lay_str hx)
        refine ⟨_, rfl, hl, shaped_of hl ?_, fun _ => ⟨_, _, rfl⟩⟩
        simp only [PyData.depth, PyData.depthAll, num_depth]
        decide
      · have hl : Lay (.tuple [.str "ask", .str "=", numW p, .str x]) := lay4 (lay_str (by decide +kernel)) (lay_str (by decide +kernel)) (num_lay hp) (lay_str hx)
        refine ⟨_, rfl, hl, shaped_of hl ?_, fun _ => ⟨_, _, rfl⟩⟩
        simp only [PyData.depth, PyData.depthAll, num_depth]
        decide
    · exact ⟨[], rfl, lay_nil, shaped_of lay_nil (by simp only [PyData.depth, PyData.depthAll]; decide), fun h => absurd rfl h⟩
  · split
    · have hl : Lay (.tuple [.str w, .tuple (ws.map numW)]) := lay2 (lay_str hw) (lay_tuple hws)
      refine ⟨_, rfl, hl, shaped_of hl ?_, fun _ => ⟨_, _, rfl⟩⟩
      simp only [PyData.depth, PyData.depthAll, depthAll_nums]
      decide
    · have hl : Lay (.tuple (.str w :: ws.map numW)) := lay_tuple fun d m => by
        rcases List.mem_cons.mp m with rfl | m
        · exact lay_str hw
        · exact hws d m
      refine ⟨_, rfl, hl, shaped_of hl ?_, fun _ => ⟨_, _, rfl⟩⟩
      simp only [PyData.depth, PyData.depthAll, depthAll_nums]
      decide
theorem lineH_of {y : Str} (h : okS y) (hl : y.length ≤ 5000) : ∃ d, LineH y d := by
  obtain ⟨w, ws, h1, h2, h3, h4⟩ := split_facts (y := y) (sep := " ") (by decide +kernel) (by decide +kernel)
  exact ⟨lineP w ws, ⟨w, ws, h1, rfl, fun u m => Nat.le_trans (h3 u m).2 hl, by omega, h2⟩, goodP fun u m => okS_sub h (h3 u m).1⟩
/-- lines that a law may make -/
def lnOk (y : Str) : Prop := okS y ∧ y.length ≤ 5000 ∧ 10 ∉ tl y
theorem lines_of : ∀ ls : List Str, (∀ y ∈ ls, lnOk y) → ∃ ds, Paired LineH ls ds
  | [], _ => ⟨[], .nil⟩
  | y :: r, h => by
    obtain ⟨d, hd⟩ := lineH_of (h y (by simp)).1 (h y (by simp)).2.1
    obtain ⟨ds, hds⟩ := lines_of r fun u m => h u (by simp [m])
    exact ⟨d :: ds, .cons hd hds⟩
theorem sum_lns : ∀ ls : List Str, (∀ y ∈ ls, lnOk y) → (ls.map (·.length)).sum ≤ 5000 * ls.length
  | [], _ => by simp
  | y :: r, h => by
    have h1 := sum_lns r fun u m => h u (by simp [m])
    have h2 := (h y (by simp)).2.1
    simp only [List.map_cons, List.sum_cons, List.length_cons]
    omega
theorem join_sum (k : Str) (ls : List Str) : (Txt.join "\n" (k :: ls)).length ≤ k.length + (ls.map (·.length)).sum + ls.length := by
  show (List.foldl (fun acc (p : Str) => acc ++ ("\n" : Str).cps ++ p.cps) (((k :: ls)).headD Str.empty).cps (List.drop 1 (k :: ls))).size ≤ _
  exact glue_len "\n" (by decide +kernel) _ _
theorem tx_of {k : Str} {ls : List Str} (h : ∀ y ∈ k :: ls, lnOk y) (hn : ls.length ≤ 1000) : ∃ ds, TxOk (Txt.join "\n" (k :: ls)) k ls ds := by
  obtain ⟨ds, hds⟩ := lines_of ls fun y m => h y (by simp [m])
  have hk := h k (by simp)
  refine ⟨ds, ?_, ?_, lay_str hk.1, hds, hn, fun y m => (h y (by simp [m])).2.1⟩
  · have h1 := join_sum k ls
    have h2 := sum_lns ls fun y m => h y (by simp [m])
    have h3 := hk.2.1
    have : (Txt.join "\n" (k :: ls)).length + 2 ≤ 6000000 := by omega
    exact Nat.le_trans this (by decide)
  · exact split_join (s := 10) (S := []) (by rfl) (by decide +kernel) (by simp) fun y m => (h y m).2.2
/-! parts between a sign -/
theorem spl_free {s : Nat} : ∀ (l acc : List Nat), s ∉ acc → ∀ p ∈ spl [s] 0 acc l, s ∉ p
  | [], acc, h, p, m => by
    rw [spl_nil, List.mem_singleton] at m
    rw [m]
    exact h
  | c :: r, acc, h, p, m => by
    by_cases hc : pre [s] (c :: r) = true
    · rw [spl_hit hc] at m
      rcases List.mem_cons.mp m with rfl | m
      · exact h
      · exact spl_free r [] (by simp) p m
    · rw [spl_miss (by simpa using hc)] at m
      refine spl_free r (acc ++ [c]) (fun m' => ?_) p m
      rcases List.mem_append.mp m' with m' | m'
      · exact h m'
      · have e : s = c := List.mem_singleton.mp m'
        apply hc
        rw [e]
        simp [pre]
theorem split_free {y : Str} : ∀ u ∈ Txt.split y "\n", 10 ∉ tl u := fun u m => by
  have h := split_spl y "\n" (by decide +kernel) (kind_ok (by decide +kernel))
  have m' : tl u ∈ (Txt.split y "\n").map tl := List.mem_map.mpr ⟨u, m, rfl⟩
  rw [h] at m'
  exact spl_free (s := 10) (tl y) [] (by simp) _ m'
end My

namespace My
open PySem L2 TL
/-! ### the law holds read to its own first bad line -/
abbrev nsRgt : List Str := ["_law_lines_here", "_law_due", "_law_text_here", "_law_turn", "_law_told"]
def spRgt (K : PySem.W.Frag) : Sp := fun vs H Q _ => ∃ (a : Addr) (k : Str) (ls : List Str), vs = [.ref a] ∧ H a = some (.lst ((k :: ls).map V.str)) ∧ (∀ y ∈ k :: ls, lnOk y) ∧ ls.length ≤ 1000 ∧ ∀ H', Same H H' → Q (.bl true) H'
theorem pair_sh (z : Str) (hz : okS z) (i : Int) : SeqAt.shaped (.tuple [.str z, .int i]) = true := by
  have hl : Lay (.tuple [.str z, .int i]) := lay2 (lay_str hz) (by unfold Lay; simp only [PyData.canLay0])
  refine shaped_of hl ?_
  simp only [PyData.depth, PyData.depthAll]
  decide
section
variable {P : Program} {w : World} {K : PySem.W.Frag} {mg : Str → Option Value} {base : Heap}
end
end My

namespace My
open PySem L2 TL
/-! ### other lines -/
abbrev nsOth : List Str := ["_law_bag_here", "_law_zeros", "_law_some"]
def repS (z : Str) (n : Int) : Str := ⟨(List.replicate n.toNat z.cps).foldl (· ++ ·) #[]⟩
theorem op_mulS {X : Cx} : OpR X (binaryOp .Mult) (fun x y H Q => ∃ (z : Str) (n : Int), x = .str z ∧ y = .int n ∧ 2 ≤ n ∧ 1 ≤ z.length ∧ z.length ≤ 10 ∧ n ≤ 100000 ∧ (repS z n).length ≤ sizeLine ∧ Q (.str (repS z n)) H) := by
  intro pins s σ H x y v u Q I rx ry h
  obtain ⟨z, n, rfl, rfl, h2, h1, h10, h5, hz, q⟩ := h
  obtain ⟨t, rfl⟩ := rx
  obtain ⟨t', rfl⟩ := ry
  have e1 : (n == 1 || z.length == 0) = false := by
    rw [Bool.or_eq_false_iff]
    exact ⟨beq_eq_false_iff_ne.mpr (by omega), beq_eq_false_iff_ne.mpr (by omega)⟩
  refine P.mul_str ?_ (fun _ _ => ?_) (fun _ _ => ?_) ?_
  · rw [decide_eq_false (by omega), decide_eq_false (by omega)]
    rfl
  · have : (100 : Int) ≤ (2 ^ 63 - 1) / n := by
      refine Int.le_ediv_of_mul_le (by omega) ?_
      omega
    omega
  · unfold Builtin.Str.tooLong
    have : z.length * n.toNat ≤ 10 * 100000 := Nat.mul_le_mul h10 (by omega)
    exact decide_eq_false (by rw [sizeLine_eq]; omega)
  · rw [if_neg (by omega), if_neg (by rw [e1]; decide)]
    exact ⟨hz, .str (repS z n), H, I.tok _, ⟨_, rfl⟩, q⟩
def zz : Str := repS "0" 30
def o1 : List Str := ["", " ", "end", "else", "end ", " end", "Else", "teller", "collector", "set a 16", "set a 15", "set a 05"]
def o2 : List Str := ["set c 1", "set a b", "set  a 1", "set a 1 ", "add a b", "add b 16", "wait 0", ("wait 1" : Str) ++ zz]
def o3 : List Str := [(("wait 1" : Str) ++ cutS zz (some 1) none) ++ ("1" : Str), ("wait 2" : Str) ++ zz, "wait 01", "wait -1", "wait +1", "wait", "wait 1 1"]
def o4 : List Str := ["ask x+a b", "ask x-15 a", "ask x+16 a", "ask x a", "ask x+ a", "ask 0 b", "ask a a", "ask +3 a"]
def o5 : List Str := ["answer 0", "answer 1", "answer 2", "answer a", "answer 00", "list 0", "list b", "list x", "grow 15"]
def o6 : List Str := ["grow", "if a == 3", "if a = 3", "if a == 3 b", "if 3 == a", "while b < a", "while b <= 1"]
def o7 : List Str := ["while b", "add a -1", "add a +1", "if b != 15", "if b != 16", "list 16", "ask x+-1 a"]
def o8 : List Str := ["ask X+1 a", "set a:1", "wait 1_0", "set a 1_0", "add b 0_1", "ask x+1_0 a", "if a < 1_1"]
def oAll : List Str := ((((((o1 ++ o2) ++ o3) ++ o4) ++ o5) ++ o6) ++ o7) ++ o8
theorem oAll_ok : (∀ y ∈ oAll, lnOk y) ∧ oAll.length = 65 := by
  unfold lnOk okS
  decide +kernel
theorem zz_len : zz.length = 30 := by decide +kernel
def spOth : Sp := fun vs H Q _ => ∃ (b : Addr), vs = [.ref b] ∧ Bag H b ∧ ∀ H' y, Fr b H H' → Bag H' b → y ∈ oAll → Q (.str y) H'
section
variable {P : Program} {w : World} {K : PySem.W.Frag} {mg : Str → Option Value} {base : Heap}
/-- some + [..]: a new list -/
theorem cat_new {H H' : Hp} {b p l : Addr} {ys zs : List Str} {Q : VK} (hb : Bag H b) (f : Same H H') (hp : H' p = some (.lst (ys.map V.str))) (nl : H' l = none) (hsz : ys.length + zs.length ≤ 1000) (q : ∀ H2 r, Same H H2 → H2 r = some (.lst ((ys ++ zs).map V.str)) → Q (.ref r) H2) : rCat (.ref p) (.ref l) (upd H' l (.lst (zs.map V.str))) Q := by
  refine catTwo (same_new nl _ _ _ hp) upd_same (by rw [List.length_map, List.length_map]; exact hsz) fun H2 r s nr e => ?_
  exact q H2 r (f.trans ((same_new nl _).trans s)) (by rw [e, List.map_append])
end
end My

namespace My
open PySem L2 TL
/-! ### the lines with one of them otherwise -/
abbrev nsChg : List Str := ["_law_bag_here", "_law_lines_here", "_law_at", "_law_to", "_law_way", "_law_place", "_law_sign", "_law_line"]
def lnB (m : Nat) (y : Str) : Prop := okS y ∧ y.length ≤ m ∧ 10 ∉ tl y
theorem lnB.mono {m n : Nat} {y : Str} (h : lnB m y) (hmn : m ≤ n) : lnB n y := ⟨h.1, Nat.le_trans h.2.1 hmn, h.2.2⟩
theorem cutN_take (p : Str) (n : Nat) : tl (cutS p none (some (n : Int))) = (tl p).take n := by
  unfold cutS
  rw [HT.sIx_none, HT.sIx_nat]
  show (((tl p).drop 0).take (min n p.length - 0)) = _
  rw [List.drop_zero, Nat.sub_zero, len_tl]
  by_cases h : n ≤ (tl p).length
  · rw [Nat.min_eq_left h]
  · rw [Nat.min_eq_right (by omega), List.take_of_length_le (Nat.le_refl _), List.take_of_length_le (by omega)]
theorem cutN_drop (p : Str) (n : Nat) : tl (cutS p (some (n : Int)) none) = (tl p).drop n := by
  unfold cutS
  rw [HT.sIx_none, HT.sIx_nat]
  show (((tl p).drop (min n p.length)).take (p.length - min n p.length)) = _
  rw [len_tl]
  by_cases h : n ≤ (tl p).length
  · rw [Nat.min_eq_left h, List.take_of_length_le (by rw [List.length_drop]; exact Nat.le_refl _)]
  · rw [Nat.min_eq_right (by omega), List.drop_of_length_le (Nat.le_refl _), List.drop_of_length_le (by omega)]
    simp
theorem spl_count {s : Nat} : ∀ (l acc : List Nat), (spl [s] 0 acc l).length = l.count s + 1
  | [], acc => by rw [spl_nil]; simp
  | c :: r, acc => by
    by_cases hc : c = s
    · rw [spl_hit (by rw [hc]; simp [pre])]
      show (acc :: spl [s] 0 [] r).length = _
      rw [List.length_cons, spl_count r [], hc, List.count_cons_self]
    · rw [spl_miss (by simp [pre]; exact hc), spl_count r _, List.count_cons_of_ne (by simpa using hc)]
theorem split_count (y : Str) : (Txt.split y "\n").length = (tl y).count 10 + 1 := by
  have h := split_spl y "\n" (by decide +kernel) (kind_ok (by decide +kernel))
  have := congrArg List.length h
  rw [List.length_map] at this
  rw [this]
  exact spl_count (s := 10) (tl y) []
theorem okS_tl {u : Str} : okS u ↔ ∀ c ∈ tl u, c < 0x110000 := okS_iff
/-- a line changed by one sign, split again -/
theorem bent_line {m n : Nat} {y z : Str} (hy : lnB m y) (hz : tl z = (tl y).take n ++ (tl y).drop (n + 1) ∨ ∃ c, c < 0x110000 ∧ tl z = ((tl y).take n ++ [c]) ++ (tl y).drop n) : (∀ u ∈ Txt.split z "\n", lnB (m + 1) u) ∧ (Txt.split z "\n").length ≤ 2 ∧ z.length ≤ m + 1 := by
  have h1 : ∀ c ∈ tl z, c ∈ tl y ∨ c < 0x110000 := fun c mc => by
    rcases hz with hz | ⟨d, hd, hz⟩
    · rw [hz] at mc
      rcases List.mem_append.mp mc with mc | mc
      · exact .inl (List.mem_of_mem_take mc)
      · exact .inl (List.mem_of_mem_drop mc)
    · rw [hz] at mc
      rcases List.mem_append.mp mc with mc | mc
      · rcases List.mem_append.mp mc with mc | mc
        · exact .inl (List.mem_of_mem_take mc)
        · rw [List.mem_singleton.mp mc]; exact .inr hd
      · exact .inl (List.mem_of_mem_drop mc)
  have hyl : (tl y).length ≤ m := by rw [← len_tl]; exact hy.2.1
  have h2 : z.length ≤ m + 1 := by
    rw [len_tl]
    rcases hz with hz | ⟨d, hd, hz⟩
    · rw [hz, List.length_append, List.length_take, List.length_drop]; omega
    · rw [hz, List.length_append, List.length_append, List.length_take, List.length_drop, List.length_singleton]; omega
  have c0 : (tl y).count 10 = 0 := List.count_eq_zero.mpr hy.2.2
  have ct : ∀ n, ((tl y).take n).count 10 = 0 := fun n => List.count_eq_zero.mpr fun mc => hy.2.2 (List.mem_of_mem_take mc)
  have cd : ∀ n, ((tl y).drop n).count 10 = 0 := fun n => List.count_eq_zero.mpr fun mc => hy.2.2 (List.mem_of_mem_drop mc)
  have h3 : (tl z).count 10 ≤ 1 := by
    rcases hz with hz | ⟨d, hd, hz⟩
    · rw [hz, List.count_append, ct, cd]; omega
    · rw [hz, List.count_append, List.count_append, ct, cd]
      have := List.count_le_length (a := 10) (l := [d])
      rw [List.length_singleton] at this
      omega
  have hok : okS z := okS_tl.mpr fun c mc => by
    rcases h1 c mc with h | h
    · exact (okS_tl.mp hy.1) c h
    · exact h
  refine ⟨fun u mu => ?_, by rw [split_count]; omega, h2⟩
  obtain ⟨w, ws, e1, e2, e3, e4⟩ := split_facts (y := z) (sep := "\n") (by decide +kernel) (by decide +kernel)
  have hf := split_free (y := z) u mu
  rw [e1] at mu
  obtain ⟨f1, f2⟩ := e3 u mu
  exact ⟨okS_sub hok f1, Nat.le_trans f2 h2, hf⟩
theorem cut_takeM (ls : List Str) (n : Nat) : cutV (ls.map V.str) none (some (n : Int)) = (ls.take n).map V.str := by rw [cut_lo, List.map_take]
theorem cut_dropM (ls : List Str) (n : Nat) : cutV (ls.map V.str) (some (n : Int)) none = (ls.drop n).map V.str := by rw [cut_hi, List.map_drop]
/-- the answer -/
def OutL (b : Addr) (H : Hp) (m n : Nat) (H' : Hp) (r : Addr) : Prop := Fr b H H' ∧ Bag H' b ∧ r ≠ b ∧ ∃ zs : List Str, H' r = some (.lst (zs.map V.str)) ∧ (∀ y ∈ zs, lnB (m + 1) y) ∧ zs.length ≤ n + 1
def spChg : Sp := fun vs H Q _ => ∃ (b a : Addr) (ls : List Str) (m : Nat), vs = [.ref b, .ref a] ∧ Bag H b ∧ a ≠ b ∧ H a = some (.lst (ls.map V.str)) ∧ ls ≠ [] ∧ ls.length ≤ 300 ∧ 100 ≤ m ∧ m ≤ 4000 ∧ (∀ y ∈ ls, lnB m y) ∧ ∀ H' r, OutL b H m ls.length H' r → Q (.ref r) H'
theorem oAll_B : ∀ y ∈ oAll, lnB 100 y := by
  unfold lnB okS
  decide +kernel
end My

namespace My
open PySem L2 TL
/-! ### the lines with one of them otherwise: the walk -/
/-- a heap under way: the bag, the lines -/
structure CkA (b a : Addr) (H H' : Hp) (ls : List Str) : Prop where
  f : Fr b H H'
  b : Bag H' b
  a : H' a = some (.lst (ls.map V.str))
theorem CkA.same {b a : Addr} {H H' H'' : Hp} {ls : List Str} (h : CkA b a H H' ls) (s : Same H' H'') : CkA b a H H'' ls := ⟨h.f.trans (Fr.of s), h.b.keep s, s _ _ h.a⟩
theorem CkA.fr {b a : Addr} {H H' H'' : Hp} {ls : List Str} (hab : a ≠ b) (h : CkA b a H H' ls) (f : Fr b H' H'') (g : Bag H'' b) : CkA b a H H'' ls := ⟨h.f.trans f, g, f _ _ hab h.a⟩
section
variable {P : Program} {w : World} {K : PySem.W.Frag} {mg : Str → Option Value} {base : Heap}
/-- a new list -/
theorem newL {b a l : Addr} {H H' : Hp} {ls : List Str} (h : CkA b a H H' ls) (nl : H' l = none) (xs : List V) : CkA b a H (upd H' l (.lst xs)) ls ∧ (upd H' l (.lst xs)) l = some (.lst xs) ∧ l ≠ b ∧ Same H' (upd H' l (.lst xs)) :=
  ⟨h.same (same_new nl _), upd_same, (h.b.ne nl).symm, same_new nl _⟩
theorem imp_ofZ {P G : Str → Prop} {Q : Prop} (f : (∀ z, G z → P z) → Q) (p : ∀ z, G z → P z) : Q := f p
theorem cat_two {b a p r : Addr} {H H' : Hp} {ls xs ys : List Str} {Q : VK} (h : CkA b a H H' ls) (hp : H' p = some (.lst (xs.map V.str))) (hr : H' r = some (.lst (ys.map V.str))) (hl : xs.length + ys.length ≤ 1000) (q : ∀ H2 t, CkA b a H H2 ls → H2 t = some (.lst ((xs ++ ys).map V.str)) → t ≠ b → Same H' H2 → Q (.ref t) H2) : rCat (.ref p) (.ref r) H' Q :=
  catTwo hp hr (by rw [List.length_map, List.length_map]; exact hl) fun H2 t s nt e => q H2 t (h.same s) (by rw [e, List.map_append]) (h.b.ne nt).symm s
theorem int_nat {r : Int} (h : 0 ≤ r) : ∃ j : Nat, r = j := ⟨r.toNat, by omega⟩
theorem signs10 : (tl (" 0a\n19-x=_" : Str)).length = 10 ∧ ∀ c ∈ tl (" 0a\n19-x=_" : Str), c < 0x110000 := by decide +kernel
end
end My

namespace My
open PySem L2 TL
/-! ### the text of a program, split and read -/
theorem paired_left {α β : Type} {R : α → β → Prop} {p : α → Prop} (h : ∀ a b, R a b → p a) : ∀ {as : List α} {bs : List β}, Paired R as bs → ∀ a ∈ as, p a
  | _, _, .nil => fun a m => nomatch m
  | _, _, .cons r t => fun a m => by
    rcases List.mem_cons.mp m with rfl | m
    · exact h _ _ r
    · exact paired_left h t a m
theorem kind_no10 {k : Str} (h : inS (.str k) kinds = true) : 10 ∉ tl k := by
  have h' : kinds.any (· == k) = true := h
  obtain ⟨y, m, e⟩ := List.any_eq_true.mp h'
  have e' : y = k := eq_of_beq e
  subst e'
  have : ∀ y ∈ kinds, 10 ∉ tl y := by decide +kernel
  exact this y m
theorem text_split {k : Str} {ss : List PyData} {c : Nat} (hk : inS (.str k) kinds = true) (hl : Lay (.tuple ss)) (h : bodyN k 4 (.tuple ss) = some c) (hc : c ≤ 24) :
    Txt.split (textT k (.tuple ss)) "\n" = k :: bodyT 4 (.tuple ss) ∧ ∃ ds, Paired LineG (bodyT 4 (.tuple ss)) ds ∧ readF k R0 ds = some ⟨c, ⟨"", .tuple [], ss, none⟩, []⟩ := by
  obtain ⟨ds, hp, hr⟩ := text_reads hl h hc
  refine ⟨?_, ds, hp, hr⟩
  unfold textT
  refine split_join (s := 10) (S := []) (by rfl) (by decide +kernel) (by simp) fun y my => ?_
  rcases List.mem_cons.mp my with rfl | my
  · exact kind_no10 hk
  · exact paired_left (p := fun y => 10 ∉ tl y) (fun a b r => by
      obtain ⟨⟨_, _, _, _, _, _, h10⟩, _⟩ := r
      exact h10) hp y my
theorem lineOf_fun {y : Str} {d e : PyData} (h1 : LineOf y d) (h2 : LineOf y e) : d = e := by
  obtain ⟨w, ws, a1, a2, _⟩ := h1
  obtain ⟨w', ws', b1, b2, _⟩ := h2
  rw [a1] at b1
  cases b1
  exact a2.symm.trans b2
theorem paired_fun : ∀ {ys : List Str} {ds es : List PyData}, Paired LineG ys ds → Paired LineG ys es → ds = es
  | _, _, _, .nil, h => by cases h; rfl
  | _, _, _, .cons r t, h => by
    cases h with
    | cons r' t' => rw [lineOf_fun r.1 r'.1, paired_fun t t']
/-- equal texts are of equal programs -/
theorem text_inj {k k' : Str} {ss ss' : List PyData} {c c' : Nat} (hk : inS (.str k) kinds = true) (hl : Lay (.tuple ss)) (h : bodyN k 4 (.tuple ss) = some c) (hc : c ≤ 24) (hk' : inS (.str k') kinds = true) (hl' : Lay (.tuple ss')) (h' : bodyN k' 4 (.tuple ss') = some c') (hc' : c' ≤ 24) (e : textT k (.tuple ss) = textT k' (.tuple ss')) : k = k' ∧ ss = ss' := by
  obtain ⟨s1, ds, p1, r1⟩ := text_split hk hl h hc
  obtain ⟨s2, es, p2, r2⟩ := text_split hk' hl' h' hc'
  rw [e, s2] at s1
  injection s1 with e1 e2
  subst e1
  rw [e2] at p2
  have e3 := paired_fun p1 p2
  subst e3
  rw [r1] at r2
  have e4 := Option.some.inj r2
  injection e4 with _ e5 _
  injection e5 with _ _ e6 _
  exact ⟨rfl, e6⟩
/-! ### facts of classes, for the end -/
theorem kit_same {K : PySem.W.Frag} {D : Addr} : PySem.W.kitOne K (.ref D) (.ref D) = some true := by
  unfold PySem.W.kitOne
  rw [if_pos (beq_self_eq_true _)]
theorem kit_not {K : PySem.W.Frag} {D C : Addr} (hs : PySem.W.subIn K (.ref D) (.ref D) = some true) (hd : PySem.W.hasDictIn K C = true) (ht : PySem.W.typeIn K (.ref C) = some (.type "type")) (hf : PySem.W.subIn K (.ref D) (.ref C) = some false) : PySem.W.kitOne K (.ref D) (.ref C) = some false := by
  obtain ⟨cd, hc, _⟩ := PySem.W.any_some hd
  unfold PySem.W.kitOne
  rw [if_neg (fun q => by have e := Value.ref.inj (beq_iff_eq.mp q); subst e; rw [hs] at hf; cases hf)]
  have e2 : ((PySem.W.clsIn K C).isSome && PySem.W.typeIn K (.ref C) == some (.type "type")) = true := by rw [hc, ht] <;> rfl
  show (if ((PySem.W.clsIn K C).isSome && PySem.W.typeIn K (.ref C) == some (.type "type")) = true then PySem.W.subIn K (.ref D) (.ref C) else none) = some false
  rw [if_pos e2]
  exact hf
theorem kit_none5 {K : PySem.W.Frag} {t c1 c2 c3 c4 c5 : Value} (h1 : PySem.W.kitOne K t c1 = some false) (h2 : PySem.W.kitOne K t c2 = some false) (h3 : PySem.W.kitOne K t c3 = some false) (h4 : PySem.W.kitOne K t c4 = some false) (h5 : PySem.W.kitOne K t c5 = some false) : PySem.W.kitAny K t [c1, c2, c3, c4, c5] = some false := by
  simp only [PySem.W.kitAny, h1, h2, h3, h4, h5]
theorem fund_d {K : PySem.W.Frag} {f : Addr} {x qual : Str} {st : Stmt} {dvs : List V} {oc : Value} {od an : Option Addr} {osl sl : Array (Option Value)} {T : Addr} {kV doc pm cdv ct tc : Value} {to : Option Addr} {its : List Value} {n : Nat}
    (l : K.lookup f = some ⟨oc, od, .func (PySem.W.fnOf x qual (defArgs st) (defBody st) (defScope st) (.ref T) kV doc pm an cdv ct), osl⟩) (c : PySem.W.codeIn K cdv qual = true) (k : PySem.W.keepIn K (.ref f) = true) (lT : K.lookup T = some ⟨tc, to, .seq its.toArray n, sl⟩) (hn : dvs ≠ []) (hv : Vals dvs its) :
    FunD K x qual (defArgs st) (defBody st) (defScope st) dvs [] f (PySem.W.fnOf x qual (defArgs st) (defBody st) (defScope st) (.ref T) kV doc pm an cdv ct) :=
  ⟨⟨oc, od, .ref T, kV, doc, pm, an, cdv, ct, osl, rfl, l, c, .inr ⟨hn, T, _, its, n, rfl, lT, rfl, hv⟩, .inl rfl⟩, k⟩
end My

namespace My
open PySem L2 TL PySem.Spec PyProof.Rows
/-! ### read, of what is no text: BadText(None) -/
section
variable {X : Cx}
theorem pe_fmtN {e : Expr} {te : TE} {pos : Pos} (he : PE X e te) : PE X (.FormattedValue e (-1) none pos) (fun σ H Q => te σ H fun x H1 => x = .non ∧ Q (.str "None") H1) := by
  refine ⟨fun pins s σ H Q I h => ?_⟩
  refine wpAny_FormattedValue_plain (thn (he.run pins s σ H _ I h) fun v s1 hv => ?_)
  obtain ⟨x, H1, I1, r1, ex, q⟩ := hv
  subst ex
  cases r1
  exact wpAny_formatField_none ⟨.str "None", H1, I1.tok _, ⟨_, rfl⟩, q⟩
end
def spBTN (K : PySem.W.Frag) (C : Addr) : Sp := fun vs H Q _ => ∃ (a : Addr), vs = [.ref a, .non] ∧ H a = some (exo a C none) ∧ ∀ dx, H dx = none → dx ≠ a → Q .non (upd (upd H dx (exd dx [("line", .non)])) a (exo a C (some dx)))
def spReadN (K : PySem.W.Frag) (cT : Addr) : Sp := fun vs H Q E => ∃ (v : V) (d : PyData), vs = [v] ∧ Dp K H v d ∧ (∀ z, d ≠ .str z) ∧ ∀ H' x, Same H H' → H x = none → H' x = some (.xd [("line", .non)]) → E (.ref cT) (some x) H'
section
variable {P : Program} {w : World} {K : PySem.W.Frag} {mg : Str → Option Value} {base : Heap}
theorem ok_BTN {f : Addr} {fd : FuncData} (F : FunD K "__init__" "BadText.__init__" (defArgs sBTI) (defBody sBTI) (defScope sBTI) [V.non] [] f fd) (B : Bt K mg) : FnOk P w K mg base CX0 1 f fd ["self", "line"] (spBTN K B.cT) := by
  refine F.ok scBTI (fun vs H Q E h => ?_) (fun cdv A outer s H vs Q E hr h => ?_)
  · obtain ⟨a, rfl, _⟩ := h
    rfl
  obtain ⟨a, rfl, ea, q⟩ := h
  refine ⟨_, (pss_cons (ps_expr (pe_heinit (pe_gref rfl B.gH) B.rd B.fc (pa_cons (pv 0) (pa_cons (pe_joined (.cons pe_str (.cons (pe_fmtN (pv 1)) (.cons pe_str .nil)))) pa_nil))))
    (pss_one (ps_ost (pv 0) (pv 1)))), ?_⟩
  refine ⟨rfl, _, rfl, _, rfl, ?_, _, rfl, rfl, _, rfl, ?_, _, rfl, ?_, ?_⟩
  · exact Nat.le_trans (by decide +kernel : _ ≤ 100) (by decide)
  · exact Nat.le_trans (by decide +kernel : _ ≤ 100) (by decide)
  · exact Nat.le_trans (by decide +kernel : _ ≤ 100) (by decide)
  · refine ⟨a, B.cT, _, rfl, (by show 1 ≤ 1000; decide), B.ox, ea, ?_⟩
    exact ⟨_, rfl, _, rfl, a, B.cT, rfl, B.ox, B.nl, .inl ⟨ea, fun dx n1 n2 => q dx n1 n2⟩⟩
theorem exc_sameN {H : Hp} {a dx C : Addr} (na : H a = none) (nd : H dx = none) (hda : dx ≠ a) : Same H (upd (del (upd (upd (upd H a (exo a C none)) dx (exd dx [("line", .non)])) a (exo a C (some dx))) a) dx (.xd [("line", .non)])) := fun x o hx => by
  have hxa : x ≠ a := fun e => by rw [e, na] at hx; cases hx
  have hxd : x ≠ dx := fun e => by rw [e, nd] at hx; cases hx
  rw [upd_ne hxd, del_ne hxa, upd_ne hxa, upd_ne hxd, upd_ne hxa]
  exact hx
theorem ok_ReadN {f fE : Addr} {fd dE : FuncData} (F : Fun K "read" "read" sRead f fd) (T : Gs K mg) (B : Bt K mg)
    (iE : PySem.W.findIn K (.ref B.cT) "__init__" = some (some (.ref fE))) (tE : PySem.W.typeIn K (.ref fE) = some (.type "function")) (GE : FnOk P w K mg base CX0 1 fE dE ["self", "line"] (spBTN K B.cT)) (bE : Binds K dE ["self", "line"] []) :
    FnOk P w K mg base (L2.CX P w) 7 f fd ["text"] (spReadN K B.cT) := by
  refine F.okX scRead (fun vs H Q E h => ?_) (fun cdv A outer s H vs Q E hr h => ?_)
  · obtain ⟨v, d, rfl, _⟩ := h
    rfl
  obtain ⟨v, d, rfl, hd, hns, q⟩ := h
  have hr2 : Room 2 _ := hr.mono (by decide)
  refine ⟨_, (pss_cons (ps_if (pt_not (pt_val (pe_callB call_isi (by rfl) T.isi (by decide +kernel) (pa_cons (pv 0) (pa_cons (pe_bltn (v := .ty "str") (by rfl) T.str (by decide +kernel) rfl) pa_nil)))))
    (pss_one (ps_raise rfl (takes_of rfl rfl rfl rfl) (pmk_oex B.ox iE tE GE hr2 bE .nil pass0 rfl B.gT (pa_cons pe_non pa_nil))))
    pss_nil)
  (pss_cons ps_never (pss_cons ps_never (pss_cons ps_never (pss_cons ps_never (pss_cons ps_never (pss_one ps_never))))))), ?_⟩
  refine ⟨_, rfl, v, .ty "str", _, _, _, rfl, .ty _, dp_ty hd, kit_isT d (by simp) (dp_nd hd), _, rfl, ?_⟩
  have e : isT d "str" = false := by
    cases d with
    | str z => exact absurd rfl (hns z)
    | dict k => exact absurd rfl (dp_nd hd k)
    | _ => simp only [tyN, isT]; decide +kernel
  rw [e]
  refine iteT ⟨by show 1 ≤ 1000; decide, fun a na => ⟨a, rfl, upd_same, fun dx n1 n2 => ⟨rfl, dx, [("line", .non)], upd_same, ?_, ?_, ?_⟩⟩⟩
  · rw [upd_ne n2, upd_same]
  · rw [upd_ne n2] at n1; exact n1
  · rw [upd_ne n2] at n1
    exact q _ _ (exc_sameN na n1 n2) n1 upd_same
end
end My

namespace My
open PySem L2 TL
/-! ### k06: what read says; a tower of blocks -/
abbrev sSa6 : Stmt := top 44
abbrev sTow : Stmt := top 45
abbrev nsTow : List Str := ["_law_bag_here", "_law_deep", "_law_simple", "_law_lines_here", "_law_ends", "_law_way", "_law_turn", "_law_word", "_law_end"]
def spSa6 (K : PySem.W.Frag) : Sp := fun vs H Q E => spSai K vs H Q E ∨ ∃ (v : V) (d : PyData), vs = [v] ∧ Dp K H v d ∧ (∀ z, d ≠ .str z) ∧ ∀ H' p, Same H H' → H p = none → H' p = some (.tup [.str "line", .non]) → Q (.ref p) H'
theorem FnOk.or6 {P : Program} {w : World} {K : PySem.W.Frag} {mg : Str → Option Value} {base : Heap} {CX : CXT} {k : Nat} {f : Addr} {fd : FuncData} {ps : List Str} {sp sp' : Sp} (F : FnOk P w K mg base CX k f fd ps sp) (F' : FnOk P w K mg base CX k f fd ps sp') : FnOk P w K mg base CX k f fd ps (fun vs H Q E => sp vs H Q E ∨ sp' vs H Q E) :=
  ⟨fun vs H Q E h => h.elim (F.len vs H Q E) (F'.len vs H Q E), fun A outer s H args us vs Q E hr he hb hv hs => hs.elim (F.run A outer s H args us vs Q E hr he hb hv) (F'.run A outer s H args us vs Q E hr he hb hv)⟩
def spTow : Sp := fun vs H Q _ => ∃ (b : Addr) (n : Nat) (y : Str), vs = [.ref b, .int (n : Nat), .str y] ∧ Bag H b ∧ 1 ≤ n ∧ n ≤ 6 ∧ lnB 100 y ∧ ∀ H' r (zs : List Str), Fr b H H' → Bag H' b → r ≠ b → H r = none → H' r = some (.lst (zs.map V.str)) → (∀ u ∈ zs, lnB 100 u) → zs.length ≤ 36 → zs ≠ [] → Q (.ref r) H'
section
variable {P : Program} {w : World} {K : PySem.W.Frag} {mg : Str → Option Value} {base : Heap}
theorem scSa6 : FnScope nsSai ["_law_text_here"] (defScope sSa6) := ⟨rfl, rfl, rfl, by decide +kernel, rfl, by decide +kernel, by decide +kernel⟩
theorem ok_Sa6 {f fA : Addr} {fd dA : FuncData} (F : Fun K "_law_said" "_law_said" sSa6 f fd) (T : Gs K mg) (B : Bt K mg) (eT : PySem.W.exmOne K (.ref B.cT) (.ref B.cT) = some true) (GA : FnOk P w K mg base (L2.CX P w) 7 fA dA ["text"] (fun vs H Q E => spReadX K B.cT vs H Q E ∨ spReadN K B.cT vs H Q E)) (bA : Binds K dA ["text"] []) (kA : PySem.W.keepIn K (.ref fA) = true) (mA : mg "read" = some (.ref fA)) :
    FnOk P w K mg base CX0 8 f fd ["_law_text_here"] (spSa6 K) := by
  refine F.ok scSa6 (fun vs H Q E h => ?_) (fun cdv A outer s H vs Q E hr h => ?_)
  · rcases h with ⟨z, k, ls, ds, rfl, _⟩ | ⟨v, d, rfl, _⟩ <;> rfl
  obtain ⟨v, rfl⟩ : ∃ v, vs = [v] := by
    rcases h with ⟨z, k, ls, ds, rfl, _⟩ | ⟨v, d, rfl, _⟩ <;> exact ⟨_, rfl⟩
  refine ⟨_, pss_one (ps_try_as (i := 1) (tb := fun W => tRet (tTup (tCons (tC (.str "program")) (tCons (tCallS (fun vs H Q E => spReadX K B.cT vs H Q E ∨ spReadN K B.cT vs H Q E) (WE W) (tCons (tVar 0) tNil)) tNil))))
      (ts := fun a cls d => tRet (tTup (tCons (tC (.str "line")) (tCons (tXf a cls d B.cT "line" (tVar 1)) tNil))))
      (Wout := fun _ _ _ _ => False) rfl rfl scSa6.nd rfl rfl ⟨rfl, by decide, .inl B.gT⟩ takes0
      (fun W pn xe tk _ => pss_one (ps_ret (pe_tup (pa_cons pe_str (pa_cons (by exact (pe_callS GA hr rfl mA kA bA (fun σ => passAt tk σ) (by exact (pa_cons (pv 0) pa_nil)))) pa_nil)))))
      (fun a oe cls d pn hz hf => pss_one (ps_ret (pe_tup (pa_cons pe_str (pa_cons (by exact pe_xf B.xf B.nl hz hf (pv 1)) pa_nil)))))), ?_⟩
  rcases h with ⟨z, k, ls, ds, e, ht, q⟩ | ⟨v', d, e, hd, hns, q⟩
  · cases e
    refine ⟨_, rfl, .inl ⟨z, k, ls, ds, rfl, ht.len, ht.spl, ht.kl, ht.pr, ht.n, ht.ll, fun i hi H1 dd s1 n1 e1 => ⟨true, eT, fun _ a na => ?_, fun z => nomatch z⟩, fun ss c h1 h2 h3 h4 h5 h6 H1 p1 s1 n1 d1 => ⟨(by show 2 ≤ sizeLine; decide), fun p np => ?_⟩⟩⟩
    · have hdue : dueO k ds = some i := by
        unfold dueO
        rcases hi with ⟨a1, rfl⟩ | ⟨a1, a2⟩
        · rw [if_neg (by rw [a1]; decide)]
        · rw [if_pos a1, a2]
      refine ⟨_, rfl, rfl, rfl, dd, _, _, rfl, e1, rfl, (by show 2 ≤ sizeLine; decide), fun p np => ?_⟩
      exact q _ p (s1.trans (same_new np _)) (s1.free np) (.inl ⟨i, hdue, upd_same⟩)
    · have hdue : dueO k ds = none := by
        unfold dueO
        rw [if_pos h1, h2]
      exact q _ p (s1.trans (same_new np _)) (s1.free np) (.inr ⟨p1, ss, c, hdue, upd_same, dp_mono (KeepT.of (same_new np _)).same _ _ d1, h3, h4, h5, h6, h1⟩)
  · cases e
    refine ⟨_, rfl, .inr ⟨v, d, rfl, hd, hns, fun H1 dd s1 n1 e1 => ⟨true, eT, fun _ a na => ?_, fun z => nomatch z⟩⟩⟩
    refine ⟨_, rfl, rfl, rfl, dd, _, _, rfl, e1, rfl, (by show 2 ≤ sizeLine; decide), fun p np => ?_⟩
    exact q _ p (s1.trans (same_new np _)) (s1.free np) upd_same
/-! the tower -/
theorem imp_of8 {P G : Addr → Hp → Prop} {Q : Prop} (f : (∀ v H, G v H → P v H) → Q) (p : ∀ v H, G v H → P v H) : Q := f p
structure TwA (b la ea : Addr) (H H' : Hp) (ls es : List Str) (n : Nat) : Prop where
  f : Fr b H H'
  bg : Bag H' b
  l : H' la = some (.lst (ls.map V.str))
  e : H' ea = some (.lst (es.map V.str))
  nl : H la = none
  ne : H ea = none
  lb : la ≠ b
  eb : ea ≠ b
  le : la ≠ ea
  hl : ∀ u ∈ ls, lnB 100 u
  he : ∀ u ∈ es, lnB 100 u
  ll : ls.length ≤ 3 * n
  el : es.length ≤ 3 * n
  n0 : 0 < n → ls ≠ []
theorem TwA.same {b la ea : Addr} {H H' H'' : Hp} {ls es : List Str} {n : Nat} (h : TwA b la ea H H' ls es n) (s : Same H' H'') : TwA b la ea H H'' ls es n := { h with f := h.f.trans (Fr.of s), bg := h.bg.keep s, l := s _ _ h.l, e := s _ _ h.e }
theorem TwA.fr {b la ea : Addr} {H H' H'' : Hp} {ls es : List Str} {n : Nat} (h : TwA b la ea H H' ls es n) (f : Fr b H' H'') (g : Bag H'' b) : TwA b la ea H H'' ls es n := { h with f := h.f.trans f, bg := g, l := f _ _ h.lb h.l, e := f _ _ h.eb h.e }
theorem rep_one (y : V) (k : Nat) : (List.replicate k [y]).flatten = List.replicate k y := by
  induction k with
  | zero => rfl
  | succ k ih => rw [List.replicate_succ, List.flatten_cons, ih]; rfl
theorem map_rep (y : Str) (k : Nat) : List.replicate k (V.str y) = (List.replicate k y).map V.str := by rw [List.map_replicate]
theorem scTow : FnScope nsTow ["_law_bag_here", "_law_deep", "_law_simple"] (defScope sTow) := ⟨rfl, rfl, rfl, by decide +kernel, rfl, by decide +kernel, by decide +kernel⟩
/-- the drawn word and number of a block's first line -/
theorem head_ok {wd : Str} (hw : wd = "if" ∨ wd = "while") {r : Nat} (h : r < 16) : lnB 100 ((wd ++ (" a != " : Str)) ++ Str.ofString (toString ((r : Nat) : Int))) := by
  have : ∀ r, r < 16 → ∀ wd ∈ (["if", "while"] : List Str), lnB 100 ((wd ++ (" a != " : Str)) ++ Str.ofString (toString ((r : Nat) : Int))) := by
    unfold lnB okS
    decide +kernel
  exact this r h wd (by rcases hw with rfl | rfl <;> simp)
theorem ok_Tow {f : Addr} {fd : FuncData} (F : Fun K "_law_tower" "_law_tower" sTow f fd) (T : Gs K mg) (T2 : G2 mg) (CD : Cal P w K mg base 1 "_law_draw" ["_law_bag_here", "_law_many"] spDraw) : FnOk P w K mg base CX0 2 f fd ["_law_bag_here", "_law_deep", "_law_simple"] spTow := by
  refine F.ok scTow (fun vs H Q E h => ?_) (fun cdv A outer s H vs Q E hr h => ?_)
  · obtain ⟨b, n, y, rfl, _⟩ := h
    rfl
  obtain ⟨b, n, y, rfl, hb, hn1, hn6, hy, q⟩ := h
  refine ⟨_, (pss_cons (ps_set (i := 3) scTow.nd rfl (.inl rfl) (pe_lst pa_nil))
  (pss_cons (ps_set (i := 4) scTow.nd rfl (.inl rfl) (pe_lst pa_nil))
  (pss_cons (ps_set (i := 5) scTow.nd rfl (.inl rfl) (pe_call CD.G hr rfl CD.m CD.kp CD.b .nil pass0 (pa_cons (pv 0) (pa_cons pe_int pa_nil))))
  (pss_cons (ps_for PassesOwn.never rfl (pi_range1 (by rfl) T2.range (pa_cons (pv 1) pa_nil)) (pg_name (i := 6) scTow.nd rfl (.inl rfl))
    (pss_cons (ps_set (i := 7) scTow.nd rfl (.inl rfl) (pe_ix ix_list (pe_lst (pa_cons pe_str (pa_cons pe_str pa_nil))) (pe_call CD.G hr rfl CD.m CD.kp CD.b .nil pass0 (pa_cons (pv 0) (pa_cons pe_int pa_nil))) (fun _ _ => rfl)))
    (pss_cons (ps_expr (pe_bm PySem.F.plainAttrs_list PySem.F.slot_list_append PySem.F.type_list_append mt_append (pv 3) (pa_cons (pe_op op_add_str (pe_op op_add_str (pv 7) pe_str) (pe_callTy call_str_int (by rfl) T.str (by decide +kernel) (pa_cons (pe_call CD.G hr rfl CD.m CD.kp CD.b .nil pass0 (pa_cons (pv 0) (pa_cons pe_int pa_nil))) pa_nil))) pa_nil)))
    (pss_cons (ps_if (pt_cmpR op_eq (pe_call CD.G hr rfl CD.m CD.kp CD.b .nil pass0 (pa_cons (pv 0) (pa_cons pe_int pa_nil))) pe_int (nomark _))
      (pss_one (ps_set (i := 3) scTow.nd rfl (.inl rfl) (pe_op op_cat (pv 3) (pe_op op_rep (pe_lst (pa_cons (pv 2) pa_nil)) (pe_op op_add pe_int (pe_call CD.G hr rfl CD.m CD.kp CD.b .nil pass0 (pa_cons (pv 0) (pa_cons pe_int pa_nil))))))))
      pss_nil)
    (pss_cons (ps_set (i := 8) scTow.nd rfl (.inl rfl) (pe_lst (pa_cons pe_str pa_nil)))
    (pss_cons (ps_if (PW.pt (pw_and (pt_cmpR op_eq (pv 7) pe_str (nomark _)) (pw_and1 (PW.pt (pw_or (pt_cmpR op_eq (pv 5) pe_int (nomark _)) (pw_or1 (PW.pt (pw_and (pt_cmpR op_eq (pv 5) pe_int (nomark _)) (pw_and1 (pt_cmpR op_eq (pv 6) (pe_op op_sub (pv 1) pe_int) (nomark _)))))))))))
      (pss_one (ps_set (i := 8) scTow.nd rfl (.inl rfl) (pe_lst (pa_cons pe_str (pa_cons (pv 2) (pa_cons pe_str pa_nil))))))
      pss_nil)
    (pss_one (ps_set (i := 4) scTow.nd rfl (.inl rfl) (pe_op op_cat (pv 8) (pv 4))))))))))
  (pss_one (ps_ret (pe_op op_cat (pv 3) (pv 4)))))))), ?_⟩
  refine ⟨by show 0 ≤ sizeLine; decide, fun la nla => ?_⟩
  dsimp only [tNil]
  refine ⟨by show 0 ≤ sizeLine; decide, fun ea nea => ?_⟩
  have h0 : TwA b la ea H (upd (upd H la (.lst [])) ea (.lst [])) [] [] 0 := by
    have s1 := same_new nla (.lst [])
    have s2 := same_new nea (.lst [])
    have nel : la ≠ ea := fun e => by rw [e, upd_same] at nea; cases nea
    exact ⟨Fr.of (s1.trans s2), hb.keep (s1.trans s2), s2 _ _ upd_same, upd_same, nla, s1.free nea, (hb.ne nla).symm, ((hb.keep s1).ne nea).symm, nel, (fun u m => nomatch m), (fun u m => nomatch m), Nat.zero_le _, Nat.zero_le _, fun h => absurd h (by decide)⟩
  generalize upd (upd H la (.lst [])) ea (.lst []) = H0 at h0 ⊢
  dsimp only [List.set_cons_succ, List.set_cons_zero]
  refine ⟨_, rfl, b, 3, rfl, h0.bg, by decide, by decide, fun H1 way f1 g1 w0 w1 => ?_⟩
  have h1 := h0.fr f1 g1
  clear h0
  dsimp only [List.set_cons_succ, List.set_cons_zero]
  refine ⟨_, rfl, _, rfl, by omega, by omega, ?_⟩
  rw [show ((n : Nat) : Int).toNat = n by omega]
  refine for_range (lo := 0) (n := n) (fun i σ Hx => ∃ (la ea : Addr) (ls es : List Str) (s6 s7 s8 : Option V), σ = [some (.ref b), some (.int (n : Nat)), some (.str y), some (.ref la), some (.ref ea), some (.int way), s6, s7, s8] ∧ TwA b la ea H Hx ls es i) ⟨la, ea, [], [], none, none, none, rfl, h1⟩ ?_ ?_
  · clear h1 nla nea
    rintro i σ Hx hi ⟨la, ea, ls, es, s6, s7, s8, rfl, h⟩
    dsimp only [List.set_cons_succ, List.set_cons_zero]
    refine ⟨(by show 2 ≤ sizeLine; decide), fun p1 n1 => ?_⟩
    have s1 := same_new n1 (.lst [V.str "if", V.str "while"])
    have e1 : (upd Hx p1 (.lst [V.str "if", V.str "while"])) p1 = some (.lst [V.str "if", V.str "while"]) := upd_same
    have np1 : p1 ≠ b := (h.bg.ne n1).symm
    have h2 := h.same s1
    generalize upd Hx p1 (.lst [V.str "if", V.str "while"]) = H2 at s1 e1 h2 ⊢
    clear h s1 n1
    refine ⟨_, rfl, b, 2, rfl, h2.bg, by decide, by decide, fun H3 r3 f3 g3 r30 r31 => ?_⟩
    have h3 := h2.fr f3 g3
    have e3 := f3 _ _ np1 e1
    obtain ⟨wi, rfl⟩ := int_nat r30
    obtain ⟨wd, hwd, hwe⟩ : ∃ wd : Str, (wd = "if" ∨ wd = "while") ∧ ([V.str "if", V.str "while"] : List V)[wi]? = some (V.str wd) := by
      have : wi = 0 ∨ wi = 1 := by omega
      rcases this with rfl | rfl
      · exact ⟨"if", .inl rfl, rfl⟩
      · exact ⟨"while", .inr rfl, rfl⟩
    refine ⟨p1, _, _, _, rfl, rfl, SqL.of e3, atI_nat hwe, ?_⟩
    clear e3 e1 np1 h2 hwe f3
    dsimp only [List.set_cons_succ, List.set_cons_zero]
    have wl : wd.length + (" a != " : Str).length ≤ 20 := by rcases hwd with rfl | rfl <;> decide +kernel
    refine ⟨_, rfl, .inl ⟨rfl, _, SqL.of h3.l⟩, _, rfl, _, _, rfl, rfl, Nat.le_trans wl (by decide), _, rfl, b, 16, rfl, h3.bg, by decide, by decide, fun H4 r4 f4 g4 r40 r41 => ?_⟩
    have h4 := h3.fr f4 g4
    obtain ⟨nu, rfl⟩ := int_nat r40
    have hnu : nu < 16 := by omega
    have hhead := head_ok hwd hnu
    refine ⟨_, rfl, log2_le (by omega), _, _, rfl, rfl, ?_, la, _, _, rfl, rfl, h4.l, ?_, ?_⟩
    · rw [str_app_len]
      have := int_len (i := nu) (by omega)
      exact Nat.le_trans (Nat.add_le_add wl this) (by decide)
    · rw [List.length_map]
      have := h4.ll
      exact Nat.lt_of_le_of_lt (by omega : _ ≤ 100) (by decide)
    have eadd : (ls.map V.str ++ [V.str ((wd ++ (" a != " : Str)) ++ Str.ofString (toString ((nu : Nat) : Int)))]) = (ls ++ [(wd ++ (" a != " : Str)) ++ Str.ofString (toString ((nu : Nat) : Int))]).map V.str := by rw [List.map_append]; rfl
    rw [eadd]
    generalize (wd ++ (" a != " : Str)) ++ Str.ofString (toString ((nu : Nat) : Int)) = hd at hhead
    have h5 : TwA b la ea H (upd H4 la (.lst ((ls ++ [hd]).map V.str))) (ls ++ [hd]) es i ∨ True := .inr trivial
    have f5 : Fr b H (upd H4 la (.lst ((ls ++ [hd]).map V.str))) := fun a o na ha => by
      have hal : a ≠ la := fun e => by rw [e, h4.nl] at ha; cases ha
      rw [upd_ne hal]
      exact h4.f _ _ na ha
    have g5 : Bag (upd H4 la (.lst ((ls ++ [hd]).map V.str))) b := by
      obtain ⟨c, t, eb, rest⟩ := h4.bg
      exact ⟨c, t, by rw [upd_ne (Ne.symm h4.lb)]; exact eb, rest⟩
    have l5 : (upd H4 la (.lst ((ls ++ [hd]).map V.str))) la = some (.lst ((ls ++ [hd]).map V.str)) := upd_same
    have e5 : (upd H4 la (.lst ((ls ++ [hd]).map V.str))) ea = some (.lst (es.map V.str)) := by rw [upd_ne (Ne.symm h4.le)]; exact h4.e
    generalize upd H4 la (.lst ((ls ++ [hd]).map V.str)) = H5 at f5 g5 l5 e5 h5 ⊢
    have hls5 : ∀ u ∈ ls ++ [hd], lnB 100 u := fun u mu => by
      rcases List.mem_append.mp mu with mu | mu
      · exact h4.hl u mu
      · rw [List.mem_singleton.mp mu]; exact hhead
    clear h5
    -- the statements of the block
    refine imp_of8 (P := ?P1) (G := fun la' Hx => ∃ ls' : List Str, Fr b H Hx ∧ Bag Hx b ∧ Hx la' = some (.lst (ls'.map V.str)) ∧ Hx ea = some (.lst (es.map V.str)) ∧ H la' = none ∧ la' ≠ b ∧ la' ≠ ea ∧ (∀ u ∈ ls', lnB 100 u) ∧ ls'.length ≤ 3 * (i + 1) ∧ ls' ≠ []) (fun r1 => ?a1) (fun la' H6 g => ?b1)
    case a1 =>
      refine ⟨_, rfl, b, 2, rfl, g5, by decide, by decide, fun H6 r6 f6 g6 r60 r61 => ⟨rfl, _, rfl, ?_⟩⟩
      have l6 := f6 _ _ h4.lb l5
      have e6 := f6 _ _ h4.eb e5
      have f06 := f5.trans f6
      refine ite2 (fun _ => ?_) (fun _ => ?_)
      · refine ⟨_, rfl, _, rfl, (by show 1 ≤ sizeLine; decide), fun p7 n7 => ?_⟩
        have s7 := same_new n7 (.lst [V.str y])
        have e7 : (upd H6 p7 (.lst [V.str y])) p7 = some (.lst [V.str y]) := upd_same
        have np7 : p7 ≠ b := (g6.ne n7).symm
        have l7 := s7 _ _ l6
        have ee7 := s7 _ _ e6
        have g7 := g6.keep s7
        have f7 := f06.trans (Fr.of s7)
        generalize upd H6 p7 (.lst [V.str y]) = H7 at s7 e7 l7 ee7 g7 f7 ⊢
        refine ⟨_, rfl, b, 2, rfl, g7, by decide, by decide, fun H8 r8 f8 g8 r80 r81 => ⟨_, _, rfl, rfl, ?_⟩⟩
        obtain ⟨nr, rfl⟩ := int_nat r80
        have e8 := f8 _ _ np7 e7
        have l8 := f8 _ _ h4.lb l7
        have ee8 := f8 _ _ h4.eb ee7
        have f08 := f7.trans f8
        have en : ((1 : Int) + ((nr : Nat) : Int)).toNat = nr + 1 := by omega
        refine ⟨p7, _, _, rfl, rfl, e8, by omega, by omega, ?_, fun p9 n9 => ?_⟩
        · show 1 * ((1 : Int) + ((nr : Nat) : Int)).toNat ≤ _
          rw [en]
          exact Nat.le_trans (by omega : _ ≤ 10) (by decide)
        rw [en, rep_one, map_rep]
        refine catTwo (same_new n9 _ _ _ l8) upd_same (by rw [List.length_map, List.length_map, List.length_append, List.length_replicate]; have := h4.ll; simp only [List.length_singleton]; omega) fun H10 r10 s10 n10 e10 => ?_
        have s810 := (same_new n9 (.lst ((List.replicate (nr + 1) y).map V.str))).trans s10
        have nH : H r10 = none := by
          cases hr' : H r10 with
          | none => rfl
          | some o =>
            have nn := (same_new n9 (.lst ((List.replicate (nr + 1) y).map V.str))).free n10
            by_cases hrb : r10 = b
            · exact absurd hrb (g8.ne nn).symm
            · have := f08 _ _ hrb hr'
              rw [nn] at this
              cases this
        have nn := (same_new n9 (.lst ((List.replicate (nr + 1) y).map V.str))).free n10
        dsimp only [List.set_cons_succ, List.set_cons_zero]
        refine r1 r10 H10 ⟨(ls ++ [hd]) ++ List.replicate (nr + 1) y, f08.trans (Fr.of s810), g8.keep s810, by rw [e10, ← List.map_append], s810 _ _ ee8, nH, (g8.ne nn).symm, fun e => ?_, fun u mu => ?_, ?_, by simp⟩
        · rw [e, ee8] at nn; cases nn
        · rcases List.mem_append.mp mu with mu | mu
          · exact hls5 u mu
          · rw [List.eq_of_mem_replicate mu]; exact hy
        · rw [List.length_append, List.length_append, List.length_replicate]
          have := h4.ll
          simp only [List.length_singleton]
          omega
      · exact r1 la H6 ⟨ls ++ [hd], f06, g6, l6, e6, h4.nl, h4.lb, h4.le, hls5, by rw [List.length_append]; have := h4.ll; simp only [List.length_singleton]; omega, by simp⟩
    case b1 =>
      obtain ⟨ls', f6, g6, l6, e6, nl6, lb6, le6, hl6, ll6, ne6⟩ := g
      have neH := h4.ne
      have neb := h4.eb
      have hes := h4.he
      have elen := h4.el
      clear h4 h3 f5 g5 l5 e5 hls5 hhead
      refine ⟨(by show 1 ≤ sizeLine; decide), fun p7 n7 => ?_⟩
      have s7 := same_new n7 (.lst [V.str "end"])
      have e7 : (upd H6 p7 (.lst [V.str "end"])) p7 = some (.lst [V.str "end"]) := upd_same
      have np7 : p7 ≠ b := (g6.ne n7).symm
      have l7 := s7 _ _ l6
      have ee7 := s7 _ _ e6
      have g7 := g6.keep s7
      have f7 := f6.trans (Fr.of s7)
      generalize upd H6 p7 (.lst [V.str "end"]) = H7 at s7 e7 l7 ee7 g7 f7 ⊢
      clear g6 f6 l6 e6 s7 n7
      dsimp only [List.set_cons_succ, List.set_cons_zero]
      refine imp_of8 (P := ?P2) (G := fun ed Hx => ∃ xs : List Str, Fr b H Hx ∧ Bag Hx b ∧ Hx la' = some (.lst (ls'.map V.str)) ∧ Hx ea = some (.lst (es.map V.str)) ∧ Hx ed = some (.lst (xs.map V.str)) ∧ (∀ u ∈ xs, lnB 100 u) ∧ xs.length ≤ 3) (fun r2 => ?a2) (fun ed H8 g => ?b2)
      case a2 =>
        have no : ∃ xs : List Str, Fr b H H7 ∧ Bag H7 b ∧ H7 la' = some (.lst (ls'.map V.str)) ∧ H7 ea = some (.lst (es.map V.str)) ∧ H7 p7 = some (.lst (xs.map V.str)) ∧ (∀ u ∈ xs, lnB 100 u) ∧ xs.length ≤ 3 :=
          ⟨["end"], f7, g7, l7, ee7, e7, by unfold lnB okS; decide +kernel, by decide⟩
        have yes : ∀ p8, H7 p8 = none → ∃ xs : List Str, Fr b H (upd H7 p8 (.lst [V.str "else", V.str y, V.str "end"])) ∧ Bag (upd H7 p8 (.lst [V.str "else", V.str y, V.str "end"])) b ∧ (upd H7 p8 (.lst [V.str "else", V.str y, V.str "end"])) la' = some (.lst (ls'.map V.str)) ∧ (upd H7 p8 (.lst [V.str "else", V.str y, V.str "end"])) ea = some (.lst (es.map V.str)) ∧ (upd H7 p8 (.lst [V.str "else", V.str y, V.str "end"])) p8 = some (.lst (xs.map V.str)) ∧ (∀ u ∈ xs, lnB 100 u) ∧ xs.length ≤ 3 := fun p8 n8 => by
          have s8 := same_new n8 (.lst [V.str "else", V.str y, V.str "end"])
          refine ⟨["else", y, "end"], f7.trans (Fr.of s8), g7.keep s8, s8 _ _ l7, s8 _ _ ee7, upd_same, fun u mu => ?_, by show 3 ≤ 3; decide⟩
          have hel : lnB 100 "else" := by unfold lnB okS; decide +kernel
          have hen : lnB 100 "end" := by unfold lnB okS; decide +kernel
          have mu' : u = "else" ∨ u = y ∨ u = "end" := by simpa using mu
          rcases mu' with rfl | rfl | rfl
          · exact hel
          · exact hy
          · exact hen
        refine ⟨_, rfl, rfl, _, rfl, ?_⟩
        refine ite2 (fun _ => ?t1) (fun _ => ?f1)
        case t1 =>
          refine ⟨_, rfl, rfl, _, rfl, ?_⟩
          refine ite2 (fun _ => iteT ⟨_, rfl, (by show 3 ≤ sizeLine; decide), fun p8 n8 => ?t2⟩) (fun _ => ?f2)
          case t2 =>
            have g8 := yes p8 n8
            dsimp only [List.set_cons_succ, List.set_cons_zero]
            generalize upd H7 p8 (.lst [V.str "else", V.str y, V.str "end"]) = H8 at g8 ⊢
            exact r2 p8 H8 g8
          case f2 =>
            refine ⟨_, rfl, rfl, _, rfl, ?_⟩
            refine ite2 (fun _ => ?t3) (fun _ => ?f3)
            case t3 =>
              refine ⟨_, rfl, _, rfl, _, _, rfl, rfl, rfl, _, rfl, ?_⟩
              refine ite2 (fun _ => ⟨_, rfl, (by show 3 ≤ sizeLine; decide), fun p8 n8 => ?t4⟩) (fun _ => ?f4)
              case t4 =>
                have g8 := yes p8 n8
                dsimp only [List.set_cons_succ, List.set_cons_zero]
                generalize upd H7 p8 (.lst [V.str "else", V.str y, V.str "end"]) = H8 at g8 ⊢
                exact r2 p8 H8 g8
              case f4 => exact r2 p7 H7 no
            case f3 => exact iteF (r2 p7 H7 no)
        case f1 => exact iteF (r2 p7 H7 no)
      case b2 =>
        obtain ⟨xs, f8, g8, l8, e8, d8, hx8, lx8⟩ := g
        refine ⟨_, rfl, _, rfl, catTwo d8 e8 (by rw [List.length_map, List.length_map]; omega) fun H9 r9 s9 n9 e9 => ?_⟩
        dsimp only [List.set_cons_succ, List.set_cons_zero]
        refine ⟨la', r9, ls', xs ++ es, _, _, _, rfl, f8.trans (Fr.of s9), g8.keep s9, s9 _ _ l8, by rw [e9, List.map_append], nl6, ?_, lb6, (g8.ne n9).symm, fun e => ?_, hl6, fun u mu => ?_, ll6, by rw [List.length_append]; omega, fun _ => ne6⟩
        · cases hr' : H r9 with
          | none => rfl
          | some o =>
            by_cases hrb : r9 = b
            · exact absurd hrb (g8.ne n9).symm
            · have := f8 _ _ hrb hr'
              rw [n9] at this
              cases this
        · rw [← e, l8] at n9; cases n9
        · rcases List.mem_append.mp mu with mu | mu
          · exact hx8 u mu
          · exact hes u mu
  · rintro σ Hx ⟨la, ea, ls, es, s6, s7, s8, rfl, h⟩
    refine ⟨_, rfl, _, rfl, catTwo h.l h.e (by rw [List.length_map, List.length_map]; have := h.ll; have := h.el; omega) fun H2 r s nr e => ?_⟩
    refine q H2 r (ls ++ es) (h.f.trans (Fr.of s)) (h.bg.keep s) (h.bg.ne nr).symm ?_ (by rw [e, List.map_append]) (fun u mu => ?_) (by rw [List.length_append]; have := h.ll; have := h.el; omega) (by have := h.n0 (by omega); simp [this])
    · cases hr' : H r with
      | none => rfl
      | some o =>
        by_cases hrb : r = b
        · exact absurd hrb (h.bg.ne nr).symm
        · have := h.f _ _ hrb hr'
          rw [nr] at this
          cases this
    · rcases List.mem_append.mp mu with mu | mu
      · exact h.hl u mu
      · exact h.he u mu
end
end My

namespace My
open PySem L2 TL
abbrev sLaw : Stmt := top 46
abbrev nsLaw : List Str := ["_law_script", "_law_k", "_law_bag_here", "_law_kind_here", "_law_simple", "_law_flat", "_law_lines_here", "_law_way", "_law_at", "_law_due", "_law_told", "_law_thing", "_law_top", "_law_odd", "_law_part", "_law_line"]
def spLaw (K : PySem.W.Frag) : Sp := fun vs H Q _ => ∃ (a : Addr) (ns : List Int), vs = [.ref a] ∧ SqL K H a (ns.map V.int) ∧ ns.length ≤ 63 ∧ ∀ H', Q (.bl true) H'
theorem simple_ok {x : Str} (hx : x = "a" ∨ x = "b") {d : PyData} (h : isTerm d = true) : lnB 100 (joinD [.str "add", .str x, d]) ∧ okW d := by
  have key : ∀ x ∈ (["a", "b"] : List Str), ∀ d ∈ [PyData.str "a", PyData.str "b"], lnB 100 (joinD [.str "add", .str x, d]) := by
    unfold lnB okS
    decide +kernel
  have key2 : ∀ r, r < 16 → ∀ x ∈ (["a", "b"] : List Str), lnB 100 (joinD [.str "add", .str x, .int ((r : Nat) : Int)]) := by
    unfold lnB okS
    decide +kernel
  have hx' : x ∈ (["a", "b"] : List Str) := by rcases hx with rfl | rfl <;> simp
  have h' : (inS d vars || intIn d 0 15) = true := h
  rw [Bool.or_eq_true] at h'
  rcases h' with h' | h'
  · cases d with
    | str z =>
      rw [inS_str, decide_eq_true_iff] at h'
      have hz : z = "a" ∨ z = "b" := by simpa [vars] using h'
      refine ⟨key x hx' _ (by rcases hz with rfl | rfl <;> simp), .inl ⟨z, rfl, by rcases hz with rfl | rfl <;> decide +kernel⟩⟩
    | _ => cases h'
  · cases d with
    | int i =>
      have h2 : (decide ((0 : Int) ≤ i) && decide (i ≤ 15)) = true := h'
      rw [Bool.and_eq_true, decide_eq_true_iff, decide_eq_true_iff] at h2
      obtain ⟨r, rfl⟩ := int_nat h2.1
      have h15 : (15 : Int) ≤ longest := by decide +kernel
      exact ⟨key2 r (by omega) x hx', .inr ⟨_, rfl, by omega, by omega⟩⟩
    | _ => cases h'
theorem lnB_ok {y : Str} (h : lnB 100 y) : lnOk y := ⟨h.1, Nat.le_trans h.2.1 (by decide), h.2.2⟩
theorem rep_lines {y : Str} (h : lnB 100 y) (n : Nat) : ∀ u ∈ List.replicate n y, lnB 100 u := fun u m => by rw [List.eq_of_mem_replicate m]; exact h
theorem app_lines {xs ys : List Str} (h1 : ∀ u ∈ xs, lnB 100 u) (h2 : ∀ u ∈ ys, lnB 100 u) : ∀ u ∈ xs ++ ys, lnB 100 u := fun u m => by
  rcases List.mem_append.mp m with m | m
  · exact h1 u m
  · exact h2 u m
/-! texts of one line behind the kind -/
theorem join_two (y : Str) : Txt.join "\n" ["teller", y] = ("teller\n" : Str) ++ y := by
  apply ext_tl
  rw [join_eq, tl_join, tl_append]
  show tl ("teller" : Str) ++ (tl ("\n" : Str) ++ tl y) = _
  rw [← List.append_assoc]
  congr 1
theorem due_of {y w : Str} {ws : List Str} (hs : Txt.split y " " = w :: ws) (hl : lnOk y) (h1 : w ≠ "end") (h2 : w ≠ "else") (h3 : w ≠ "if") (h4 : w ≠ "while") : ∃ d, TxOk (("teller\n" : Str) ++ y) "teller" [y] [d] ∧ dueO "teller" [d] = (if lineOk "teller" w ws = true then none else some 1) := by
  have hk : lnOk "teller" := by unfold lnOk okS; decide +kernel
  obtain ⟨ds, tx⟩ := tx_of (k := "teller") (ls := [y]) (fun u m => by
    have m' : u = "teller" ∨ u = y := by simpa using m
    rcases m' with rfl | rfl
    · exact hk
    · exact hl) (by show 1 ≤ 1000; decide)
  rw [join_two] at tx
  obtain ⟨d, rfl⟩ : ∃ d, ds = [d] := by
    have := paired_len tx.pr
    match ds, this with
    | [d], _ => exact ⟨d, rfl⟩
  refine ⟨d, tx, ?_⟩
  have hLH : LineH y d := by
    cases tx.pr with
    | cons h _ => exact h
  have hLB := hLH.b
  obtain ⟨⟨w', ws', e1, e2, _⟩, _⟩ := hLH
  rw [hs] at e1
  injection e1 with e3 e4
  subst e3 e4
  have c1 : isW d "end" = false := by
    rw [← e2, isW_line end_ne, decide_eq_false]
    rintro ⟨h, _⟩
    exact h1 h
  have c2 : isW d "else" = false := by
    rw [← e2, isW_line else_ne, decide_eq_false]
    rintro ⟨h, _⟩
    exact h2 h
  have hal : allowsF "teller" R0 d = lineOk "teller" w ws := by
    unfold allowsF lineOk
    rw [if_neg (by rw [c1]; decide), if_neg (by decide), if_neg (by rw [c2]; decide), e2]
  have hnop : isOpen d = false := by
    rw [← e2]
    by_cases hask : w = "ask"
    · subst hask
      unfold lineP
      rw [if_pos rfl]
      unfold askP
      split
      · split <;> rfl
      · rfl
    · rw [lineP_plain hask h3 h4, isOpen_plain h3 h4]
  have htk : (takeF R0 d).rest = [] := by
    unfold takeF
    rw [if_neg (by rw [c1]; decide), if_neg (by rw [c2]; decide), if_neg (by rw [hnop]; decide)]
    rfl
  unfold dueO
  rw [if_pos (by decide +kernel)]
  show (if allowsF "teller" R0 d = true then (if (takeF R0 d).rest = [] then none else some (1 + 1)) else some 1) = _
  rw [hal, htk, if_pos rfl]
theorem tl_rep (z : Str) : ∀ n : Nat, tl (repS z (n : Int)) = (List.replicate n (tl z)).flatten := fun n => by
  have key : ∀ (l : List (Array Nat)) (acc : Array Nat), (l.foldl (· ++ ·) acc).toList = acc.toList ++ (l.map Array.toList).flatten := by
    intro l
    induction l with
    | nil => intro acc; simp
    | cons x r ih => intro acc; rw [List.foldl_cons, ih]; simp
  unfold repS
  show ((List.replicate ((n : Nat) : Int).toNat z.cps).foldl (· ++ ·) #[]).toList = _
  rw [key, show ((n : Nat) : Int).toNat = n by omega, List.map_replicate]
  rfl
def nines : Str := repS "9" 4500
theorem tl_nines : tl nines = List.replicate 4500 57 := by
  have h := tl_rep "9" 4500
  have e : tl ("9" : Str) = [57] := by decide +kernel
  rw [e] at h
  have e2 : ∀ n, (List.replicate n [57]).flatten = List.replicate n 57 := fun n => by
    induction n with
    | zero => rfl
    | succ n ih => rw [List.replicate_succ, List.flatten_cons, ih]; rfl
  rw [e2] at h
  exact h
def yTop : Str := ("wait 1" : Str) ++ repS "0" 30
def y2 : Str := ("wait " : Str) ++ nines
def y5 : Str := (("wait 1" : Str) ++ repS "0" 29) ++ ("_0" : Str)
def odds : List Str := ["wait 1_0", y2, "set b 1_1", "answer 0_1", y5, "ask x-1_2 a"]
theorem nines_len : nines.length = 4500 := by rw [len_tl, tl_nines, List.length_replicate]
theorem y2_split : Txt.split y2 " " = [("wait" : Str), nines] := by
  have e : y2 = Txt.join " " [("wait" : Str), nines] := by
    apply ext_tl
    rw [join_eq, tl_join]
    unfold y2
    rw [tl_append]
    show _ = tl ("wait" : Str) ++ (tl (" " : Str) ++ tl nines)
    rw [← List.append_assoc]
    congr 1
  rw [e]
  refine split_join (s := 32) (S := []) (by rfl) (by decide +kernel) (by simp) fun u m => ?_
  have m' : u = "wait" ∨ u = nines := by simpa using m
  rcases m' with rfl | rfl
  · decide +kernel
  · rw [tl_nines]
    intro h
    have := List.eq_of_mem_replicate h
    cases this
theorem y2_ok : lnOk y2 := by
  have h : ∀ c ∈ tl y2, c < 128 ∧ c ≠ 10 := fun c m => by
    unfold y2 at m
    rw [tl_append, tl_nines] at m
    rcases List.mem_append.mp m with m | m
    · have : ∀ c ∈ tl ("wait " : Str), c < 128 ∧ c ≠ 10 := by decide +kernel
      exact this c m
    · rw [List.eq_of_mem_replicate m]
      decide
  refine ⟨okS_tl.mpr fun c m => Nat.lt_trans (h c m).1 (by decide), ?_, fun m => (h 10 m).2 rfl⟩
  unfold y2
  rw [str_app_len, nines_len]
  exact Nat.le_trans (Nat.add_le_add_right (by decide +kernel : ("wait " : Str).length ≤ 10) _) (by decide)
theorem nines_no : isDec nines = false := by
  cases hd : isDec nines with
  | false => rfl
  | true =>
    obtain ⟨_, _, h3, _⟩ := (dec_iff nines).mp hd
    rw [tl_nines, List.length_replicate] at h3
    exact absurd h3 (by decide)
theorem odd_due : ∀ y ∈ odds, ∃ d, TxOk (("teller\n" : Str) ++ y) "teller" [y] [d] ∧ dueO "teller" [d] = some 1 := fun y m => by
  have m' : y = "wait 1_0" ∨ y = y2 ∨ y = "set b 1_1" ∨ y = "answer 0_1" ∨ y = y5 ∨ y = "ask x-1_2 a" := by simpa [odds] using m
  rcases m' with rfl | rfl | rfl | rfl | rfl | rfl
  · obtain ⟨d, t1, t2⟩ := due_of (y := "wait 1_0") (w := "wait") (ws := ["1_0"]) (by decide +kernel) (by unfold lnOk okS; decide +kernel) (by decide) (by decide) (by decide) (by decide)
    exact ⟨d, t1, by rw [t2, if_neg (by decide +kernel)]⟩
  · obtain ⟨d, t1, t2⟩ := due_of (y := y2) (w := "wait") (ws := [nines]) y2_split y2_ok (by decide) (by decide) (by decide) (by decide)
    exact ⟨d, t1, by rw [t2, ln_wait, intIn_no nines_no]; rfl⟩
  · obtain ⟨d, t1, t2⟩ := due_of (y := "set b 1_1") (w := "set") (ws := ["b", "1_1"]) (by decide +kernel) (by unfold lnOk okS; decide +kernel) (by decide) (by decide) (by decide) (by decide)
    exact ⟨d, t1, by rw [t2, if_neg (by decide +kernel)]⟩
  · obtain ⟨d, t1, t2⟩ := due_of (y := "answer 0_1") (w := "answer") (ws := ["0_1"]) (by decide +kernel) (by unfold lnOk okS; decide +kernel) (by decide) (by decide) (by decide) (by decide)
    exact ⟨d, t1, by rw [t2, if_neg (by decide +kernel)]⟩
  · obtain ⟨d, t1, t2⟩ := due_of (y := y5) (w := "wait") (ws := [(("1" : Str) ++ repS "0" 29) ++ ("_0" : Str)]) (by decide +kernel) (by unfold lnOk okS; decide +kernel) (by decide) (by decide) (by decide) (by decide)
    exact ⟨d, t1, by rw [t2, if_neg (by decide +kernel)]⟩
  · obtain ⟨d, t1, t2⟩ := due_of (y := "ask x-1_2 a") (w := "ask") (ws := ["x-1_2", "a"]) (by decide +kernel) (by unfold lnOk okS; decide +kernel) (by decide) (by decide) (by decide) (by decide)
    exact ⟨d, t1, by rw [t2, if_neg (by decide +kernel)]⟩
theorem top_due : ∃ d, TxOk (("teller\n" : Str) ++ yTop) "teller" [yTop] [d] ∧ dueO "teller" [d] = none := by
  obtain ⟨d, t1, t2⟩ := due_of (y := yTop) (w := "wait") (ws := [("1" : Str) ++ repS "0" 30]) (by decide +kernel) (by unfold lnOk okS; decide +kernel) (by decide) (by decide) (by decide) (by decide)
  exact ⟨d, t1, by rw [t2, if_pos (by decide +kernel)]⟩
theorem top_due0 : ∃ d, TxOk (("teller\n" : Str) ++ (yTop ++ ("0" : Str))) "teller" [yTop ++ ("0" : Str)] [d] ∧ dueO "teller" [d] = some 1 := by
  obtain ⟨d, t1, t2⟩ := due_of (y := yTop ++ ("0" : Str)) (w := "wait") (ws := [(("1" : Str) ++ repS "0" 30) ++ ("0" : Str)]) (by decide +kernel) (by unfold lnOk okS; decide +kernel) (by decide) (by decide) (by decide) (by decide)
  exact ⟨d, t1, by rw [t2, if_neg (by decide +kernel)]⟩
theorem top_eq : ("teller\nwait 1" : Str) ++ repS "0" 30 = ("teller\n" : Str) ++ yTop := by decide +kernel
theorem top_eq0 : (("teller\n" : Str) ++ yTop) ++ ("0" : Str) = ("teller\n" : Str) ++ (yTop ++ ("0" : Str)) := by decide +kernel
/-- the heap under way -/
structure Hw (b : Addr) (H Hx : Hp) : Prop where
  s : Same H Hx
  g : Bag Hx b
  n : H b = none
theorem Hw.same {b : Addr} {H Hx Hy : Hp} (h : Hw b H Hx) (s : Same Hx Hy) : Hw b H Hy := ⟨h.s.trans s, h.g.keep s, h.n⟩
theorem Hw.fr {b : Addr} {H Hx Hy : Hp} (h : Hw b H Hx) (f : Fr b Hx Hy) (g : Bag Hy b) : Hw b H Hy := ⟨fun x o hx => f x o (fun e => by rw [e, h.n] at hx; cases hx) (h.s _ _ hx), g, h.n⟩
section
variable {P : Program} {w : World} {K : PySem.W.Frag} {mg : Str → Option Value} {base : Heap}
theorem scLaw : FnScope nsLaw ["_law_script"] (defScope sLaw) := ⟨rfl, rfl, rfl, by decide +kernel, rfl, by decide +kernel, by decide +kernel⟩
theorem said_line {k : Str} {ls : List Str} {i : Nat} {H : Hp} {p : Addr} (h : SaidR K k ls (some i) H p) : H p = some (.tup [.str "line", .int (i : Nat)]) := by
  rcases h with ⟨j, hj, ep⟩ | ⟨_, _, _, hj, _⟩
  · cases hj
    exact ep
  · cases hj
/-- [y] * n -/
theorem rep_new {b p : Addr} {H Hx : Hp} {y : Str} {n : Nat} {Q : VK} (h : Hw b H Hx) (e : Hx p = some (.lst [V.str y])) (hn : n ≤ 100) (q : ∀ Hy r, Hw b H Hy → Same Hx Hy → Hx r = none → r ≠ b → Hy r = some (.lst ((List.replicate n y).map V.str)) → Q (.ref r) Hy) : rRep (.ref p) (.int (n : Nat)) Hx Q := by
  refine ⟨p, _, _, rfl, rfl, e, by omega, by omega, ?_, fun r nr => ?_⟩
  · show 1 * ((n : Nat) : Int).toNat ≤ _
    exact Nat.le_trans (by omega : _ ≤ 100) (by decide)
  · rw [show ((n : Nat) : Int).toNat = n by omega, rep_one, map_rep]
    exact q _ r (h.same (same_new nr _)) (same_new nr _) nr (h.g.ne nr).symm upd_same
theorem cat_w {b p r : Addr} {H Hx : Hp} {xs ys : List Str} {Q : VK} (h : Hw b H Hx) (hp : Hx p = some (.lst (xs.map V.str))) (hr : Hx r = some (.lst (ys.map V.str))) (hl : xs.length + ys.length ≤ 1000) (q : ∀ Hy t, Hw b H Hy → Same Hx Hy → t ≠ b → Hy t = some (.lst ((xs ++ ys).map V.str)) → Q (.ref t) Hy) : rCat (.ref p) (.ref r) Hx Q :=
  catTwo hp hr (by rw [List.length_map, List.length_map]; exact hl) fun H2 t s nt e => q H2 t (h.same s) s (h.g.ne nt).symm (by rw [e, List.map_append])
theorem ok_law {f : Addr} {fd : FuncData} (F : Fun K "law" "law" sLaw f fd) (T : Gs K mg) (T2 : G2 mg)
    (CB : Cal P w K mg base 1 "_law_bag" ["_law_script", "_law_k"] (spBag K)) (CK : Cal P w K mg base 2 "_law_kind" ["_law_bag_here"] spKind) (CD : Cal P w K mg base 1 "_law_draw" ["_law_bag_here", "_law_many"] spDraw) (CM : Cal P w K mg base 2 "_law_term" ["_law_bag_here"] (spTermL K))
    (CT : Cal P w K mg base 7 "_law_text" ["_law_program"] (spText K)) (CW : Cal P w K mg base 2 "_law_tower" ["_law_bag_here", "_law_deep", "_law_simple"] spTow) (CL : Cal P w K mg base 4 "_law_bad_line" ["_law_lines_here"] (spBad K)) (CS : Cal P w K mg base 8 "_law_said" ["_law_text_here"] (spSa6 K)) : FnOk P w K mg base CX0 9 f fd ["_law_script"] (spLaw K) := by
  refine F.ok scLaw (fun vs H Q E h => ?_) (fun cdv A outer s H vs Q E hr h => ?_)
  · obtain ⟨a, ns, rfl, _⟩ := h
    rfl
  obtain ⟨a, ns, rfl, hS, h63, q⟩ := h
  have hr1 : Room 1 _ := hr.mono (by decide)
  have hr2 : Room 2 _ := hr.mono (by decide)
  have hr4 : Room 4 _ := hr.mono (by decide)
  have hr7 : Room 7 _ := hr.mono (by decide)
  refine ⟨_, (pss_cons (ps_for PassesOwn.never rfl (pi_range1 (by rfl) T2.range (pa_cons (pe_callB (call_max2 rfl) (by rfl) T2.max (by decide +kernel) (pa_cons pe_int (pa_cons (pe_callB (call_min2 rfl) (by rfl) T2.min (by decide +kernel) (pa_cons pe_int (pa_cons (pe_callB call_len_seq (by rfl) T.len PySem.boot_len (pa_cons (pv 0) pa_nil)) pa_nil))) pa_nil))) pa_nil)) (pg_name (i := 1) scLaw.nd rfl (.inl rfl))
    (pss_cons (ps_set (i := 2) scLaw.nd rfl (.inl rfl) (pe_call CB.G hr1 rfl CB.m CB.kp CB.b .nil pass0 (pa_cons (pv 0) (pa_cons (pv 1) pa_nil))))
    (pss_cons (ps_set (i := 3) scLaw.nd rfl (.inl rfl) (pe_call CK.G hr2 rfl CK.m CK.kp CK.b .nil pass0 (pa_cons (pv 2) pa_nil)))
    (pss_cons (ps_set (i := 4) scLaw.nd rfl (.inl rfl) (pe_join pe_str (pe_lc (own := [("_law_part", 14)]) (g := gName 14) (tt := tYes) rfl scLaw.nd (pi_tup (pe_tup (pa_cons pe_str (pa_cons (pe_ix ix_str pe_str (pe_call CD.G hr1 rfl CD.m CD.kp CD.b .nil pass0 (pa_cons (pv 2) (pa_cons pe_int pa_nil))) (fun _ _ => rfl)) (pa_cons (pe_call CM.G hr2 rfl CM.m CM.kp CM.b .nil pass0 (pa_cons (pv 2) pa_nil)) pa_nil))))) (blkOk_by (N := nsLaw) (sc := defScope sLaw) (by decide +kernel)) (fun _ _ _ _ _ => pg_name (i := 14) scLaw.nd rfl (.inl rfl)) (fun _ _ _ _ _ => pts_nil) (fun _ _ _ _ _ => pe_callTy call_strW (by rfl) T.str (by decide +kernel) (pa_cons (pv 14) pa_nil)))))
    (pss_cons (ps_set (i := 5) scLaw.nd rfl (.inl rfl) (pe_op op_rep (pe_lst (pa_cons (pv 4) pa_nil)) (pe_call CD.G hr1 rfl CD.m CD.kp CD.b .nil pass0 (pa_cons (pv 2) (pa_cons pe_int pa_nil)))))
    (pss_cons (ps_set (i := 6) scLaw.nd rfl (.inl rfl) (pe_op op_cat (pe_op op_cat (pe_op op_cat (pe_lst (pa_cons (pv 3) pa_nil)) (pv 5)) (pe_call CW.G hr2 rfl CW.m CW.kp CW.b .nil pass0 (pa_cons (pv 2) (pa_cons (pe_op op_add pe_int (pe_call CD.G hr1 rfl CD.m CD.kp CD.b .nil pass0 (pa_cons (pv 2) (pa_cons pe_int pa_nil)))) (pa_cons (pv 4) pa_nil))))) (pe_op op_rep (pe_lst (pa_cons (pv 4) pa_nil)) (pe_call CD.G hr1 rfl CD.m CD.kp CD.b .nil pass0 (pa_cons (pv 2) (pa_cons pe_int pa_nil))))))
    (pss_cons (ps_set (i := 7) scLaw.nd rfl (.inl rfl) (pe_call CD.G hr1 rfl CD.m CD.kp CD.b .nil pass0 (pa_cons (pv 2) (pa_cons pe_int pa_nil))))
    (pss_cons (ps_set (i := 8) scLaw.nd rfl (.inl rfl) (pe_call CD.G hr1 rfl CD.m CD.kp CD.b .nil pass0 (pa_cons (pv 2) (pa_cons (pe_callB call_len_seq (by rfl) T.len PySem.boot_len (pa_cons (pv 6) pa_nil)) pa_nil))))
    (pss_cons (ps_if (pt_cmpR op_eq (pv 7) pe_int (nomark _))
      (pss_one (ps_set (i := 6) scLaw.nd rfl (.inl rfl) (pe_slice sl_list (pv 6) po_none (po_some (pe_un un_neg pe_int)))))
      pss_nil)
    (pss_cons (ps_if (pt_cmpR op_eq (pv 7) pe_int (nomark _))
      (pss_one (ps_set (i := 6) scLaw.nd rfl (.inl rfl) (pe_op op_cat (pe_op op_cat (pe_slice sl_list (pv 6) po_none (po_some (pe_op op_add (pv 8) pe_int))) (pe_lst (pa_cons pe_str pa_nil))) (pe_slice sl_list (pv 6) (po_some (pe_op op_add (pv 8) pe_int)) po_none))))
      pss_nil)
    (pss_cons (ps_set (i := 9) scLaw.nd rfl (.inl rfl) (pe_call CL.G hr4 rfl CL.m CL.kp CL.b .nil pass0 (pa_cons (pv 6) pa_nil)))
    (pss_cons (ps_set (i := 10) scLaw.nd rfl (.inl rfl) (pe_call CS.G hr rfl CS.m CS.kp CS.b .nil pass0 (pa_cons (pe_join pe_str (pv 6)) pa_nil)))
    (pss_cons (ps_if (PW.pt (pw_and (pt_cmpR op_isN (pv 9) pe_non (nomark _)) (pw_and1 (PW.pt (pw_or (pt_cmpR op_ne (pe_ix ix_tup (pv 10) pe_int (fun _ _ => rfl)) pe_str (nomark _)) (pw_or1 (pt_cmpR op_ne (pe_call CT.G hr7 rfl CT.m CT.kp CT.b .nil pass0 (pa_cons (pe_ix ix_tup (pv 10) pe_int (fun _ _ => rfl)) pa_nil)) (pe_join pe_str (pv 6)) (nomark _))))))))
      (pss_one (ps_ret pe_bl))
      pss_nil)
    (pss_cons (ps_if (PW.pt (pw_and (pt_cmpR op_notN (pv 9) pe_non (nomark _)) (pw_and1 (pt_cmpR (op_neD hr.units) (pv 10) (pe_tup (pa_cons pe_str (pa_cons (pv 9) pa_nil))) (nomark _)))))
      (pss_one (ps_ret pe_bl))
      pss_nil)
    (pss_cons (ps_set (i := 11) scLaw.nd rfl (.inl rfl) (pe_ix ix_list (pe_lst (pa_cons pe_non (pa_cons pe_int (pa_cons pe_bl (pa_cons (pe_lst (pa_cons pe_str pa_nil)) (pa_cons (pe_tup (pa_cons pe_str (pa_cons (pe_tup pa_nil) pa_nil))) (pa_cons (pv 6) pa_nil))))))) (pe_call CD.G hr1 rfl CD.m CD.kp CD.b .nil pass0 (pa_cons (pv 2) (pa_cons pe_int pa_nil))) (fun _ _ => rfl)))
    (pss_one (ps_if (pt_cmpR (op_neD hr.units) (pe_call CS.G hr rfl CS.m CS.kp CS.b .nil pass0 (pa_cons (pv 11) pa_nil)) (pe_tup (pa_cons pe_str (pa_cons pe_non pa_nil))) (nomark _))
      (pss_one (ps_ret pe_bl))
      pss_nil)))))))))))))))))
  (pss_cons (ps_set (i := 12) scLaw.nd rfl (.inl rfl) (pe_op op_add_str pe_str (pe_op op_mulS pe_str pe_int)))
  (pss_cons (ps_if (PW.pt (pw_or (pt_cmpR op_ne (pe_ix ix_tup (pe_call CS.G hr rfl CS.m CS.kp CS.b .nil pass0 (pa_cons (pv 12) pa_nil)) pe_int (fun _ _ => rfl)) pe_str (nomark _)) (pw_or1 (pt_cmpR (op_neD hr.units) (pe_call CS.G hr rfl CS.m CS.kp CS.b .nil pass0 (pa_cons (pe_op op_add_str (pv 12) pe_str) pa_nil)) (pe_tup (pa_cons pe_str (pa_cons pe_int pa_nil))) (nomark _)))))
    (pss_one (ps_ret pe_bl))
    pss_nil)
  (pss_cons (ps_set (i := 13) scLaw.nd rfl (.inl rfl) (pe_lst (pa_cons pe_str (pa_cons (pe_op op_add_str pe_str (pe_op op_mulS pe_str pe_int)) (pa_cons pe_str (pa_cons pe_str (pa_cons (pe_op op_add_str (pe_op op_add_str pe_str (pe_op op_mulS pe_str pe_int)) pe_str) (pa_cons pe_str pa_nil))))))))
  (pss_one (ps_ret (pe_cmpR (op_eqD hr.units) (pe_lc (own := [("_law_line", 15)]) (g := gName 15) (tt := tYes) rfl scLaw.nd (pi_list (pv 13)) (blkOk_by (N := nsLaw) (sc := defScope sLaw) (by decide +kernel)) (fun _ _ _ _ _ => pg_name (i := 15) scLaw.nd rfl (.inl rfl)) (fun _ _ _ _ _ => pts_nil) (fun _ _ _ _ _ => pe_call CS.G hr rfl CS.m CS.kp CS.b .nil pass0 (pa_cons (pe_op op_add_str pe_str (pv 15)) pa_nil))) (pe_op op_rep (pe_lst (pa_cons (pe_tup (pa_cons pe_str (pa_cons pe_int pa_nil))) pa_nil)) pe_int) (nomark _)))))))), ?_⟩
  refine ⟨_, rfl, a, _, rfl, .inl hS, _, _, rfl, _, _, rfl, _, rfl, ?_, ?_, ?_⟩
  · split <;> split <;> omega
  · split <;> split <;> omega
  rw [show (ns.map V.int).length = ns.length from List.length_map _]
  have h12 : (if (if ((ns.length : Nat) : Int) < 14 then ((ns.length : Nat) : Int) else 14) > 2 then (if ((ns.length : Nat) : Int) < 14 then ((ns.length : Nat) : Int) else 14) else 2).toNat ≤ 14 := by
    split <;> split <;> omega
  generalize (if (if ((ns.length : Nat) : Int) < 14 then ((ns.length : Nat) : Int) else 14) > 2 then (if ((ns.length : Nat) : Int) < 14 then ((ns.length : Nat) : Int) else 14) else 2).toNat = turns at h12 ⊢
  refine for_range (lo := 0) (n := turns) (fun i σ H' => ∃ (s1 s2 s3 s4 s5 s6 s7 s8 s9 s10 s11 : Option V), σ = [some (.ref a), s1, s2, s3, s4, s5, s6, s7, s8, s9, s10, s11, none, none, none, none] ∧ Same H H') ⟨none, none, none, none, none, none, none, none, none, none, none, rfl, Same.refl H⟩ ?_ ?_
  · rintro i σ H1 hi ⟨s1, s2, s3, s4, s5, s6, s7, s8, s9, s10, s11, rfl, sH1⟩
    refine ⟨_, rfl, _, rfl, a, ns, i, (by rw [Int.zero_add]; rfl), sH1.seq hS, h63, by omega, fun H2 b sH2 nb bag2 => ?_⟩
    have w2 : Hw b H H2 := ⟨sH1.trans sH2, bag2, sH1.free nb⟩
    dsimp only [List.set_cons_succ, List.set_cons_zero]
    refine ⟨_, rfl, b, rfl, w2.g, fun H3 k f3 g3 hk => ?_⟩
    have w3 := w2.fr f3 g3
    dsimp only [List.set_cons_succ, List.set_cons_zero]
    -- the simple line
    refine ⟨⟨_, rfl⟩, _, rfl, b, 2, rfl, w3.g, by decide, by decide, fun H4 r4 f4 g4 r40 r41 => ?_⟩
    have w4 := w3.fr f4 g4
    obtain ⟨j4, rfl⟩ := int_nat r40
    obtain ⟨ch, hch, hx⟩ : ∃ c, (tl ("ab" : Str))[j4]? = some c ∧ ((⟨#[c]⟩ : Str) = "a" ∨ (⟨#[c]⟩ : Str) = "b") := by
      have : j4 = 0 ∨ j4 = 1 := by omega
      rcases this with rfl | rfl
      · exact ⟨97, by decide +kernel, .inl (by decide +kernel)⟩
      · exact ⟨98, by decide +kernel, .inr (by decide +kernel)⟩
    refine ⟨_, _, ch, rfl, rfl, by exact Nat.le_trans (by decide +kernel : _ ≤ 100) (by decide), atI_nat hch, ?_⟩
    generalize (⟨#[ch]⟩ : Str) = xv at hx
    refine ⟨_, rfl, b, rfl, w4.g, fun H5 tv td f5 g5 htd htm hly => ?_⟩
    have w5 := w4.fr f5 g5
    obtain ⟨hsim, htW⟩ := simple_ok hx htm
    refine ⟨(by show 3 ≤ sizeLine; decide), fun tp ntp => ?_⟩
    have s6 := same_new ntp (.tup [V.str "add", V.str xv, tv])
    have e6 : (upd H5 tp (.tup [V.str "add", V.str xv, tv])) tp = some (.tup [V.str "add", V.str xv, tv]) := upd_same
    have w6 := w5.same s6
    have ha6 : DpAll K (upd H5 tp (.tup [V.str "add", V.str xv, tv])) [V.str "add", V.str xv, tv] [.str "add", .str xv, td] := .cons (.str _) (.cons (.str _) (.cons (htd _) .nil))
    generalize upd H5 tp (.tup [V.str "add", V.str xv, tv]) = H6 at s6 e6 w6 ha6 ⊢
    have hw6 : ∀ d ∈ [PyData.str "add", .str xv, td], okW d := fun d m => by
      have m' : d = .str "add" ∨ d = .str xv ∨ d = td := by simpa using m
      rcases m' with rfl | rfl | rfl
      · exact .inl ⟨_, rfl, by decide +kernel⟩
      · exact .inl ⟨_, rfl, by rcases hx with rfl | rfl <;> decide +kernel⟩
      · exact htW
    clear w5 w4 w3 w2 s6
    refine ⟨tp, rfl, ⟨_, SqT.of e6⟩, fun D nD => lc_tup (K := K) (a := tp) (xs := [V.str "add", V.str xv, tv]) (fun i H' => Same H6 H' ∧ H' D = some (.lst (((([PyData.str "add", .str xv, td] : List PyData).take i).map strD).map V.str))) ⟨same_new nD _, upd_same⟩ (fun i H' _ ⟨s1, _⟩ => SqT.of (s1 _ _ e6)) ?_ ?_⟩
    · rintro i x Hx hx' ⟨sx, hD⟩
      obtain ⟨di, hdi, hxd⟩ := dpAll_get ha6 hx'
      have mdi := List.mem_of_getElem? hdi
      refine ⟨rfl, ?_⟩
      dsimp only [tYes]
      rw [if_pos rfl]
      refine ⟨_, rfl, ?_⟩
      dsimp only [tNil]
      refine rStrW_of (K := K) hxd (hw6 _ mdi) ⟨_, hD, ?_, same_upd sx nD _, ?_⟩
      · rw [List.length_map, List.length_map]
        refine Nat.lt_of_le_of_lt (m := 8) ?_ (by decide)
        rw [List.length_take]
        show min i 3 ≤ 8
        omega
      · rw [upd_same, take_snoc hdi]
        simp
    rintro H7 ⟨s7, e7⟩
    have w7 := w6.same s7
    refine ⟨_, D, ([PyData.str "add", .str xv, td] : List PyData).map strD, rfl, rfl, .inl (SqL.of e7), ?_, ?_⟩
    · have := sum_len hw6
      have e : (PySem.Str.ofString " ").length = 1 := by decide
      rw [e, List.length_map]
      show _ ≤ 16777216
      simp only [List.length_cons, List.length_nil] at this ⊢
      omega
    have hsim' : lnB 100 (Txt.join " " (([PyData.str "add", .str xv, td] : List PyData).map strD)) := hsim
    show tSeq _ _ _ _ H7
    dsimp only [List.set_cons_succ, List.set_cons_zero]
    generalize Txt.join " " (([PyData.str "add", .str xv, td] : List PyData).map strD) = sim at hsim' ⊢
    clear hsim e7 s7 w6 hw6 ha6 e6 htd htm hly htW hx hch
    -- flat
    refine ⟨_, rfl, (by show 1 ≤ sizeLine; decide), fun p8 n8 => ?_⟩
    have s8 := same_new n8 (.lst [V.str sim])
    have e8 : (upd H7 p8 (.lst [V.str sim])) p8 = some (.lst [V.str sim]) := upd_same
    have nb8 : p8 ≠ b := (w7.g.ne n8).symm
    have w8 := w7.same s8
    generalize upd H7 p8 (.lst [V.str sim]) = H8 at s8 e8 w8 ⊢
    refine ⟨_, rfl, b, 25, rfl, w8.g, by decide, by decide, fun H9 r9 f9 g9 r90 r91 => ?_⟩
    have w9 := w8.fr f9 g9
    obtain ⟨n9, rfl⟩ := int_nat r90
    refine rep_new w9 (f9 _ _ nb8 e8) (by omega) fun H10 fl w10 s10 _ nfl efl => ?_
    clear w7 w8 w9 s8 e8
    dsimp only [List.set_cons_succ, List.set_cons_zero]
    -- the lines
    refine ⟨_, rfl, (by show 1 ≤ sizeLine; decide), fun p11 n11 => ?_⟩
    have s11 := same_new n11 (.lst ([k].map V.str))
    have e11 : (upd H10 p11 (.lst [V.str k])) p11 = some (.lst ([k].map V.str)) := upd_same
    have w11 := w10.same s11
    have efl11 := s11 _ _ efl
    have ee11 : upd H10 p11 (.lst ([k].map V.str)) = upd H10 p11 (.lst [V.str k]) := rfl
    rw [ee11] at s11 w11 efl11
    generalize upd H10 p11 (.lst [V.str k]) = H11 at s11 e11 w11 efl11 ⊢
    refine ⟨_, rfl, cat_w w11 e11 efl11 (by rw [List.length_replicate]; simp only [List.length_singleton]; omega) fun H12 p12 w12 s12 nb12 e12 => ?_⟩
    refine ⟨_, rfl, _, rfl, b, 6, rfl, w12.g, by decide, by decide, fun H13 r13 f13 g13 r130 r131 => ⟨_, _, rfl, rfl, _, rfl, ?_⟩⟩
    have w13 := w12.fr f13 g13
    obtain ⟨n13, rfl⟩ := int_nat r130
    have en13 : ((1 : Int) + ((n13 : Nat) : Int)) = ((n13 + 1 : Nat) : Int) := by push_cast; omega
    have e13 := f13 _ _ nb12 e12
    refine ⟨b, n13 + 1, sim, by rw [← en13]; rfl, w13.g, by omega, by omega, hsim', fun H14 tw zs f14 g14 ntw nHtw etw hzs lzs nzs => ?_⟩
    have w14 := w13.fr f14 g14
    refine cat_w w14 (f14 _ _ nb12 e13) etw (by rw [List.length_append, List.length_replicate]; simp only [List.length_singleton]; omega) fun H15 p15 w15 s15 nb15 e15 => ?_
    refine ⟨_, rfl, (by show 1 ≤ sizeLine; decide), fun p16 n16 => ?_⟩
    have s16 := same_new n16 (.lst [V.str sim])
    have e16 : (upd H15 p16 (.lst [V.str sim])) p16 = some (.lst [V.str sim]) := upd_same
    have nb16 : p16 ≠ b := (w15.g.ne n16).symm
    have w16 := w15.same s16
    have e15' := s16 _ _ e15
    generalize upd H15 p16 (.lst [V.str sim]) = H16 at s16 e16 w16 e15' ⊢
    refine ⟨_, rfl, b, 3, rfl, w16.g, by decide, by decide, fun H17 r17 f17 g17 r170 r171 => ?_⟩
    have w17 := w16.fr f17 g17
    obtain ⟨n17, rfl⟩ := int_nat r170
    refine rep_new w17 (f17 _ _ nb16 e16) (by omega) fun H18 p18 w18 s18 _ nb18 e18 => ?_
    refine cat_w w18 (s18 _ _ (f17 _ _ nb15 e15')) e18 (by rw [List.length_append, List.length_append, List.length_replicate, List.length_replicate]; simp only [List.length_singleton]; omega) fun H19 li w19 s19 nli eli => ?_
    have hLn : ∀ u ∈ ([k] ++ List.replicate n9 sim ++ zs) ++ List.replicate n17 sim, lnB 100 u := app_lines (app_lines (app_lines (fun u m => by rw [List.mem_singleton.mp m]; rcases hk with rfl | rfl <;> (unfold lnB okS; decide +kernel)) (rep_lines hsim' _)) hzs) (rep_lines hsim' _)
    have hLl : (([k] ++ List.replicate n9 sim ++ zs) ++ List.replicate n17 sim).length ≤ 70 := by
      rw [List.length_append, List.length_append, List.length_append, List.length_replicate, List.length_replicate]
      simp only [List.length_singleton]
      omega
    obtain ⟨ls, els, nls⟩ : ∃ ls, ([k] ++ List.replicate n9 sim ++ zs) ++ List.replicate n17 sim = k :: ls ∧ ls ≠ [] := ⟨_, rfl, by simp [nzs]⟩
    rw [els] at eli hLn hLl
    rw [List.length_cons] at hLl
    clear els w18 w17 w16 w15 w14 w13 w12 w11 w10 e15' e16 e13 e15 e12 e11 efl efl11 e18 etw
    dsimp only [List.set_cons_succ, List.set_cons_zero]
    have hmap : ∀ zs : List Str, (zs.map V.str).length = zs.length := fun zs => List.length_map _
    refine ⟨_, rfl, b, 4, rfl, w19.g, by decide, by decide, fun H20 way f20 g20 way0 way1 => ?_⟩
    have w20 := w19.fr f20 g20
    have eli20 := f20 _ _ nli eli
    dsimp only [List.set_cons_succ, List.set_cons_zero]
    refine ⟨_, rfl, _, rfl, li, _, rfl, .inl (SqL.of eli20), b, _, rfl, w20.g, by rw [hmap, List.length_cons]; omega, by rw [hmap, List.length_cons]; omega, fun H21 r21 f21 g21 r210 r211 => ?_⟩
    have w21 := w20.fr f21 g21
    have eli21 := f21 _ _ nli eli20
    obtain ⟨at_, rfl⟩ := int_nat r210
    dsimp only [List.set_cons_succ, List.set_cons_zero]
    -- one line fewer
    refine imp_of8 (P := ?P1) (G := fun li' Hx => ∃ ls' : List Str, Hw b H Hx ∧ Hx li' = some (.lst ((k :: ls').map V.str)) ∧ li' ≠ b ∧ (∀ u ∈ k :: ls', lnB 100 u) ∧ ls'.length ≤ 70) (fun r1 => ?a1) (fun li' H22 g => ?b1)
    case a1 =>
      refine ⟨_, rfl, rfl, _, rfl, ?_⟩
      refine ite2 (fun _ => ?t1) (fun _ => ?f1)
      case t1 =>
        refine ⟨_, rfl, _, rfl, _, rfl, li, _, rfl, SqL.of eli21, fun p22 n22 => ?_⟩
        have ecut : cutV ((k :: ls).map V.str) none (some (-1)) = (k :: ls.dropLast).map V.str := by
          rw [cut_drop (by simp), ← List.map_dropLast, List.dropLast_cons_of_ne_nil nls]
        have s22 := same_new n22 (.lst (cutV ((k :: ls).map V.str) none (some (-1))))
        have e22 : (upd H21 p22 (.lst (cutV ((k :: ls).map V.str) none (some (-1))))) p22 = some (.lst ((k :: ls.dropLast).map V.str)) := by rw [upd_same, ecut]
        have w22 := w21.same s22
        have nb22 : p22 ≠ b := (w21.g.ne n22).symm
        generalize upd H21 p22 (.lst (cutV ((k :: ls).map V.str) none (some (-1)))) = H22 at s22 e22 w22 ⊢
        dsimp only [List.set_cons_succ, List.set_cons_zero]
        refine r1 p22 H22 ⟨ls.dropLast, w22, e22, nb22, fun u m => ?_, by rw [List.length_dropLast]; omega⟩
        rcases List.mem_cons.mp m with rfl | m
        · exact hLn u (by simp)
        · exact hLn u (List.mem_cons_of_mem _ ((List.dropLast_sublist ls).subset m))
      case f1 => exact r1 li H21 ⟨ls, w21, eli21, nli, hLn, by omega⟩
    case b1 =>
      obtain ⟨ls', w22, e22, nb22, hL22, hl22⟩ := g
      clear w21 w20 w19 eli21 eli20 eli hLn hLl nls
      refine imp_of8 (P := ?P2) (G := fun li' Hx => ∃ ls' : List Str, Hw b H Hx ∧ Hx li' = some (.lst ((k :: ls').map V.str)) ∧ li' ≠ b ∧ (∀ u ∈ k :: ls', lnB 100 u) ∧ ls'.length ≤ 72) (fun r2 => ?a2) (fun li2 H23 g => ?b2)
      case a2 =>
        refine ⟨_, rfl, rfl, _, rfl, ?_⟩
        refine ite2 (fun _ => ?t2) (fun _ => ?f2)
        case t2 =>
          have e1 : ((at_ : Nat) : Int) + 1 = ((at_ + 1 : Nat) : Int) := by push_cast; rfl
          refine ⟨_, rfl, _, rfl, _, _, rfl, rfl, _, rfl, li', _, rfl, SqL.of e22, fun p23 n23 => ?_⟩
          rw [e1, cut_takeM]
          have s23 := same_new n23 (.lst (((k :: ls').take (at_ + 1)).map V.str))
          have e23 : (upd H22 p23 (.lst (((k :: ls').take (at_ + 1)).map V.str))) p23 = some (.lst (((k :: ls').take (at_ + 1)).map V.str)) := upd_same
          have w23 := w22.same s23
          have e22' := s23 _ _ e22
          generalize upd H22 p23 (.lst (((k :: ls').take (at_ + 1)).map V.str)) = H23 at s23 e23 w23 e22' ⊢
          refine ⟨(by show 1 ≤ sizeLine; decide), fun p24 n24 => ?_⟩
          have s24 := same_new n24 (.lst [V.str "end"])
          have e24 : (upd H23 p24 (.lst [V.str "end"])) p24 = some (.lst ([("end" : Str)].map V.str)) := upd_same
          have w24 := w23.same s24
          have e23' := s24 _ _ e23
          have e22'' := s24 _ _ e22'
          generalize upd H23 p24 (.lst [V.str "end"]) = H24 at s24 e24 w24 e23' e22'' ⊢
          refine cat_w w24 e23' e24 (by rw [List.length_take, List.length_cons]; simp only [List.length_singleton]; omega) fun H25 p25 w25 s25 nb25 e25 => ?_
          refine ⟨_, rfl, _, rfl, _, _, rfl, rfl, _, rfl, li', _, rfl, SqL.of (s25 _ _ e22''), fun p26 n26 => ?_⟩
          rw [e1, cut_dropM]
          have s26 := same_new n26 (.lst (((k :: ls').drop (at_ + 1)).map V.str))
          have e26 : (upd H25 p26 (.lst (((k :: ls').drop (at_ + 1)).map V.str))) p26 = some (.lst (((k :: ls').drop (at_ + 1)).map V.str)) := upd_same
          have w26 := w25.same s26
          have e25' := s26 _ _ e25
          generalize upd H25 p26 (.lst (((k :: ls').drop (at_ + 1)).map V.str)) = H26 at s26 e26 w26 e25' ⊢
          refine cat_w w26 e25' e26 (by rw [List.length_append, List.length_take, List.length_drop, List.length_cons]; simp only [List.length_singleton]; omega) fun H27 p27 w27 s27 nb27 e27 => ?_
          dsimp only [List.set_cons_succ, List.set_cons_zero]
          refine r2 p27 H27 ⟨ls'.take at_ ++ [("end" : Str)] ++ ls'.drop at_, w27, e27, nb27, fun u m => ?_, by rw [List.length_append, List.length_append, List.length_take, List.length_drop]; simp only [List.length_singleton]; omega⟩
          have hen : lnB 100 "end" := by unfold lnB okS; decide +kernel
          rcases List.mem_cons.mp m with rfl | m
          · exact hL22 u (by simp)
          · rcases List.mem_append.mp m with m | m
            · rcases List.mem_append.mp m with m | m
              · exact hL22 u (by simp [List.mem_of_mem_take m])
              · rw [List.mem_singleton.mp m]; exact hen
            · exact hL22 u (by simp [List.mem_of_mem_drop m])
        case f2 => exact r2 li' H22 ⟨ls', w22, e22, nb22, hL22, by omega⟩
      case b2 =>
        obtain ⟨ls2, w23, e23, nb23, hL23, hl23⟩ := g
        clear w22 e22 hL22 hl22
        have hlnO : ∀ y ∈ k :: ls2, lnOk y := fun y m => lnB_ok (hL23 y m)
        obtain ⟨ds, tx⟩ := tx_of hlnO (by omega)
        have hsum : ((k :: ls2).map (·.length)).sum + (k :: ls2).length * ("\n" : Str).length ≤ 16777216 := by
          have h1 := sum_lns (k :: ls2) hlnO
          have e : ("\n" : Str).length = 1 := by decide +kernel
          rw [e]
          rw [List.length_cons] at h1 ⊢
          omega
        have ez : ∀ ss, bodyT 4 (.tuple ss) = ls2 → textT k (.tuple ss) = Txt.join "\n" (k :: ls2) := fun ss e => by
          unfold textT
          rw [e]
        have hkS : okS k := (hL23 k (by simp)).1
        refine ⟨_, rfl, li2, k, ls2, ds, rfl, e23, tx.pr, by omega, tx.ll, fun H24 u24 => ?_⟩
        have w24 := w23.same u24
        have e24 := u24 _ _ e23
        dsimp only [List.set_cons_succ, List.set_cons_zero]
        refine ⟨⟨_, rfl⟩, _, rfl, _, li2, k :: ls2, rfl, rfl, .inl (SqL.of e24), hsum, ?_⟩
        dsimp only [tNil]
        refine .inl ⟨_, k, ls2, ds, rfl, tx, fun H25 p25 u25 n25 hS25 => ?_⟩
        have w25 := w24.same u25
        have e25 := u25 _ _ e24
        dsimp only [List.set_cons_succ, List.set_cons_zero]
        -- the thing that is no text
        refine imp_ofH (P := ?P3) (G := fun Hx => Hw b H Hx ∧ Hx li2 = some (.lst ((k :: ls2).map V.str))) (fun r3 => ?a3) (fun H26 g => ?b3)
        case a3 =>
          rcases hS25 with ⟨j, hd, ep⟩ | ⟨q1, ss, c, hd, ep, hdt, hb1, hb2, hc, hly, hki⟩
          · rw [hd]
            refine ⟨_, rfl, rfl, _, rfl, ?_⟩
            refine iteF (iteF ?_)
            refine ⟨_, rfl, rfl, _, rfl, iteT ?_⟩
            refine ⟨_, rfl, _, rfl, (by show 2 ≤ sizeLine; decide), fun p2 n2 => ⟨.tuple [.str "line", .int (j : Nat)], .tuple [.str "line", .int (j : Nat)], .tup (SqT.of (same_new n2 _ _ _ ep)) (.cons (.str _) (.cons (.int _) .nil)), .tup (SqT.of upd_same) (.cons (.str _) (.cons (.int _) .nil)), pair_sh _ (by decide +kernel) _, pair_sh _ (by decide +kernel) _, ?_⟩⟩
            rw [SeqAt.eqv_refl _ (SeqAt.canLay_of_shaped (pair_sh "line" (by decide +kernel) _))]
            have w26 := w25.same (same_new n2 (.tup [V.str "line", V.int (j : Nat)]))
            have e26 := same_new n2 (.tup [V.str "line", V.int (j : Nat)]) _ _ e25
            refine ⟨_, rfl, iteF ?_⟩
            show tSeq _ _ _ _ (upd H25 p2 (.tup [V.str "line", V.int (j : Nat)]))
            generalize upd H25 p2 (.tup [V.str "line", V.int (j : Nat)]) = H26 at w26 e26 ⊢
            rw [← hd]
            exact r3 H26 ⟨w26, e26⟩
          · rw [hd]
            refine ⟨_, rfl, rfl, _, rfl, iteT ?_⟩
            refine ⟨_, rfl, p25, _, _, _, rfl, rfl, SqT.of ep, atI_nat (j := 0) rfl, rfl, _, rfl, ?_⟩
            rw [decide_eq_true rfl]
            refine iteF ⟨_, rfl, p25, _, _, _, rfl, rfl, SqT.of ep, atI_nat (j := 1) rfl, .ref q1, k, .tuple ss, c, rfl, dp_mono (tupH_same H25) _ _ hdt, lay2 (lay_str hkS) hly, kind_len hki, hb2, hc, fun H26 u26 => ⟨⟨_, rfl⟩, _, rfl, _, li2, k :: ls2, rfl, rfl, .inl (SqL.of (u26 _ _ e25)), hsum, rfl, _, rfl, ?_⟩⟩
            rw [ez ss hb1, decide_eq_true rfl]
            refine iteF ?_
            refine ⟨_, rfl, rfl, _, rfl, ?_⟩
            refine iteF (iteF ?_)
            have w26 := w25.same u26
            have e26 := u26 _ _ e25
            rw [← hd]
            exact r3 H26 ⟨w26, e26⟩
        case b3 =>
          obtain ⟨w26, e26⟩ := g
          clear hS25 w25 e25 w24 e24 w23 e23
          refine ⟨(by show 1 ≤ sizeLine; decide), fun q1 m1 => ?_⟩
          have s27 := same_new m1 (.lst [V.str "teller"])
          have a27 : (upd H26 q1 (.lst [V.str "teller"])) q1 = some (.lst [V.str "teller"]) := upd_same
          have w27 := w26.same s27
          have e27 := s27 _ _ e26
          have nq1 : q1 ≠ b := (w26.g.ne m1).symm
          generalize upd H26 q1 (.lst [V.str "teller"]) = H27 at s27 a27 w27 e27 ⊢
          refine ⟨(by show 0 ≤ sizeLine; decide), fun q2 m2 => ?_⟩
          dsimp only [tNil]
          have s28 := same_new m2 (.tup [])
          have b28 : (upd H27 q2 (.tup [])) q2 = some (.tup []) := upd_same
          have w28 := w27.same s28
          have e28 := s28 _ _ e27
          have a28 := s28 _ _ a27
          have nq2 : q2 ≠ b := (w27.g.ne m2).symm
          generalize upd H27 q2 (.tup []) = H28 at s28 b28 w28 e28 a28 ⊢
          refine ⟨(by show 2 ≤ sizeLine; decide), fun q3 m3 => ?_⟩
          have s29 := same_new m3 (.tup [V.str "teller", V.ref q2])
          have c29 : (upd H28 q3 (.tup [V.str "teller", V.ref q2])) q3 = some (.tup [V.str "teller", V.ref q2]) := upd_same
          have w29 := w28.same s29
          have e29 := s29 _ _ e28
          have a29 := s29 _ _ a28
          have b29 := s29 _ _ b28
          have nq3 : q3 ≠ b := (w28.g.ne m3).symm
          generalize upd H28 q3 (.tup [V.str "teller", V.ref q2]) = H29 at s29 c29 w29 e29 a29 b29 ⊢
          refine ⟨_, rfl, (by show 6 ≤ sizeLine; decide), fun q4 m4 => ?_⟩
          have s30 := same_new m4 (.lst [V.non, V.int 3, V.bl true, V.ref q1, V.ref q3, V.ref li2])
          have d30 : (upd H29 q4 (.lst [V.non, V.int 3, V.bl true, V.ref q1, V.ref q3, V.ref li2])) q4 = some (.lst [V.non, V.int 3, V.bl true, V.ref q1, V.ref q3, V.ref li2]) := upd_same
          have w30 := w29.same s30
          have e30 := s30 _ _ e29
          have a30 := s30 _ _ a29
          have b30 := s30 _ _ b29
          have c30 := s30 _ _ c29
          have nq4 : q4 ≠ b := (w29.g.ne m4).symm
          generalize upd H29 q4 (.lst [V.non, V.int 3, V.bl true, V.ref q1, V.ref q3, V.ref li2]) = H30 at s30 d30 w30 e30 a30 b30 c30 ⊢
          refine ⟨_, rfl, b, 6, rfl, w30.g, by decide, by decide, fun H31 r31 f31 g31 r310 r311 => ?_⟩
          have w31 := w30.fr f31 g31
          have e31 := f31 _ _ nb23 e30
          have a31 := f31 _ _ nq1 a30
          have b31 := f31 _ _ nq2 b30
          have c31 := f31 _ _ nq3 c30
          have d31 := f31 _ _ nq4 d30
          obtain ⟨j31, rfl⟩ := int_nat r310
          obtain ⟨tv, tdd, htv, htd, hns⟩ : ∃ (v : V) (d : PyData), ([V.non, V.int 3, V.bl true, V.ref q1, V.ref q3, V.ref li2] : List V)[j31]? = some v ∧ Dp K H31 v d ∧ ∀ z, d ≠ .str z := by
            have hj : j31 < 6 := by omega
            match j31, hj with
            | 0, _ => exact ⟨.non, .none, rfl, .non, fun z e => by cases e⟩
            | 1, _ => exact ⟨.int 3, .int 3, rfl, .int 3, fun z e => by cases e⟩
            | 2, _ => exact ⟨.bl true, .bool true, rfl, .bl true, fun z e => by cases e⟩
            | 3, _ => exact ⟨.ref q1, .list [.str "teller"], rfl, .lst (SqL.of a31) (.cons (.str _) .nil), fun z e => by cases e⟩
            | 4, _ => exact ⟨.ref q3, .tuple [.str "teller", .tuple []], rfl, .tup (SqT.of c31) (.cons (.str _) (.cons (.tup (SqT.of b31) .nil) .nil)), fun z e => by cases e⟩
            | 5, _ => exact ⟨.ref li2, .list ((k :: ls2).map PyData.str), rfl, .lst (SqL.of e31) (dp_strs _), fun z e => by cases e⟩
          refine ⟨q4, _, _, _, rfl, rfl, SqL.of d31, atI_nat htv, ?_⟩
          dsimp only [List.set_cons_succ, List.set_cons_zero]
          refine ⟨_, rfl, .inr ⟨tv, tdd, rfl, htd, hns, fun H32 p32 u32 n32 e32 => ?_⟩⟩
          have hshN : SeqAt.shaped (.tuple [.str "line", .none]) = true := by decide +kernel
          refine ⟨(by show 2 ≤ sizeLine; decide), fun p33 n33 => ⟨.tuple [.str "line", .none], .tuple [.str "line", .none], .tup (SqT.of (same_new n33 _ _ _ e32)) (.cons (.str _) (.cons .non .nil)), .tup (SqT.of upd_same) (.cons (.str _) (.cons .non .nil)), hshN, hshN, ?_⟩⟩
          rw [SeqAt.eqv_refl _ (SeqAt.canLay_of_shaped hshN)]
          refine ⟨_, rfl, iteF ?_⟩
          exact ⟨_, _, _, _, _, _, _, _, _, _, _, rfl, w31.s.trans (u32.trans (same_new n33 _))⟩
  · rintro σ H1 ⟨s1, s2, s3, s4, s5, s6, s7, s8, s9, s10, s11, rfl, sH1⟩
    have l30 : (repS "0" 30).length = 30 := by decide +kernel
    refine ⟨_, _, rfl, rfl, by decide, by decide +kernel, by decide +kernel, by decide, by rw [l30]; decide, _, _, rfl, rfl, ?_, ?_⟩
    · rw [l30]; exact Nat.le_trans (by decide +kernel : _ ≤ 100) (by decide)
    rw [top_eq]
    dsimp only [List.set_cons_succ, List.set_cons_zero]
    obtain ⟨d1, t1, u1⟩ := top_due
    obtain ⟨d2, t2, u2⟩ := top_due0
    refine ⟨_, rfl, .inl ⟨_, _, _, _, rfl, t1, fun H2 p2 v2 n2 hS2 => ?_⟩⟩
    rw [u1] at hS2
    rcases hS2 with ⟨j, hj, _⟩ | ⟨q1, ss, c, _, ep, _⟩
    · cases hj
    refine ⟨p2, _, _, _, rfl, rfl, SqT.of ep, atI_nat (j := 0) rfl, rfl, _, rfl, ?_⟩
    rw [decide_eq_true rfl]
    refine iteF ⟨_, rfl, _, _, rfl, rfl, ?_, ?_⟩
    · exact Nat.le_trans (by decide +kernel : _ ≤ 100) (by decide)
    rw [top_eq0]
    refine .inl ⟨_, _, _, _, rfl, t2, fun H3 p3 v3 n3 hS3 => ?_⟩
    rw [u2] at hS3
    have ep3 := said_line hS3
    refine ⟨(by show 2 ≤ sizeLine; decide), fun p4 n4 => ⟨.tuple [.str "line", .int (1 : Nat)], .tuple [.str "line", .int 1], .tup (SqT.of (same_new n4 _ _ _ ep3)) (.cons (.str _) (.cons (.int _) .nil)), .tup (SqT.of upd_same) (.cons (.str _) (.cons (.int _) .nil)), pair_sh _ (by decide +kernel) _, pair_sh _ (by decide +kernel) _, ?_⟩⟩
    rw [show PyData.eqv (.tuple [.str "line", .int (1 : Nat)]) (.tuple [.str "line", .int 1]) = true from SeqAt.eqv_refl _ (SeqAt.canLay_of_shaped (pair_sh "line" (by decide +kernel) _))]
    refine ⟨_, rfl, iteF ?_⟩
    generalize upd H3 p4 (.tup [V.str "line", V.int 1]) = H4
    have l45 : (repS "9" 4500).length = 4500 := nines_len
    have l29 : (repS "0" 29).length = 29 := by decide +kernel
    refine ⟨_, _, rfl, rfl, by decide, by decide +kernel, by decide +kernel, by decide, by rw [l45]; decide, _, _, rfl, rfl, ?_, ?_⟩
    · rw [l45]; exact Nat.le_trans (Nat.add_le_add_right (by decide +kernel : ("wait " : Str).length ≤ 10) _) (by decide)
    refine ⟨_, _, rfl, rfl, by decide, by decide +kernel, by decide +kernel, by decide, by rw [l29]; decide, _, _, rfl, rfl, ?_, _, _, rfl, rfl, ?_, (by show 6 ≤ sizeLine; decide), fun po npo => ?_⟩
    · rw [l29]; exact Nat.le_trans (by decide +kernel : _ ≤ 100) (by decide)
    · rw [str_app_len, l29]; exact Nat.le_trans (by decide +kernel : _ ≤ 100) (by decide)
    have e5 : (upd H4 po (.lst (odds.map V.str))) po = some (.lst (odds.map V.str)) := upd_same
    have eo : [V.str "wait 1_0", V.str (("wait " : Str) ++ repS "9" 4500), V.str "set b 1_1", V.str "answer 0_1", V.str ((("wait 1" : Str) ++ repS "0" 29) ++ ("_0" : Str)), V.str "ask x-1_2 a"] = odds.map V.str := by
      unfold odds y2 y5 nines
      rfl
    rw [eo]
    generalize upd H4 po (.lst (odds.map V.str)) = H5 at e5 ⊢
    dsimp only [List.set_cons_succ, List.set_cons_zero]
    have ll : ∀ y ∈ odds, y.length ≤ 5000 := fun y m => by
      obtain ⟨d, t, _⟩ := odd_due y m
      exact t.ll y (by simp)
    refine ⟨_, rfl, po, rfl, ⟨_, SqL.of e5⟩, fun D nD => lc_list (K := K) (a := po) (xs := odds.map V.str) (fun i H' => Same H5 H' ∧ ∃ ps : List Addr, ps.length = i ∧ H' D = some (.lst (ps.map V.ref)) ∧ ∀ p ∈ ps, H' p = some (.tup [.str "line", .int 1])) ⟨same_new nD _, [], rfl, upd_same, fun p m => nomatch m⟩ (fun i H' _ ⟨s1, _⟩ => SqL.of (s1 _ _ e5)) ?_ ?_⟩
    · rintro i x Hx hx ⟨sx, ps, hps, hD, hall⟩
      rw [List.getElem?_map] at hx
      cases hu : odds[i]? with
      | none => rw [hu] at hx; cases hx
      | some y =>
      rw [hu] at hx
      cases hx
      have my := List.mem_of_getElem? hu
      obtain ⟨d, t, u⟩ := odd_due y my
      refine ⟨rfl, ?_⟩
      dsimp only [tYes]
      rw [if_pos rfl]
      refine ⟨_, rfl, _, _, rfl, rfl, ?_, .inl ⟨_, _, _, _, rfl, t, fun Hy p sy np hS => ?_⟩⟩
      · exact Nat.le_trans (Nat.add_le_add (by decide +kernel : ("teller\n" : Str).length ≤ 10) (ll y my)) (by decide)
      rw [u] at hS
      have ep := said_line hS
      have hi6 : i < 6 := (List.getElem?_eq_some_iff.mp hu).1
      have nDp : ∀ q, Hy q = some (.tup [.str "line", .int 1]) → q ≠ D := fun q hq e => by
        rw [e, sy _ _ hD] at hq
        cases hq
      refine ⟨ps.map V.ref, sy _ _ hD, ?_, same_upd (sx.trans sy) nD _, ps ++ [p], ?_, ?_, fun q mq => ?_⟩
      · rw [List.length_map, hps]; exact Nat.lt_of_le_of_lt (by omega : i ≤ 6) (by decide)
      · rw [List.length_append, hps]; rfl
      · rw [upd_same, List.map_append]; rfl
      · rcases List.mem_append.mp mq with mq | mq
        · rw [upd_ne (nDp q (sy _ _ (hall q mq)))]; exact sy _ _ (hall q mq)
        · rw [List.mem_singleton.mp mq, upd_ne (nDp p ep)]; exact ep
    · rintro H6 ⟨s6', ps, hps, hD, hall⟩
      refine ⟨(by show 2 ≤ sizeLine; decide), fun t7 n7 => ?_⟩
      have s7' := same_new n7 (.tup [V.str "line", V.int 1])
      have e7 : (upd H6 t7 (.tup [V.str "line", V.int 1])) t7 = some (.tup [V.str "line", V.int 1]) := upd_same
      have hD7 := s7' _ _ hD
      have hall7 : ∀ p ∈ ps, (upd H6 t7 (.tup [V.str "line", V.int 1])) p = some (.tup [.str "line", .int 1]) := fun p m => s7' _ _ (hall p m)
      generalize upd H6 t7 (.tup [V.str "line", V.int 1]) = H7 at s7' e7 hD7 hall7 ⊢
      refine ⟨(by show 1 ≤ sizeLine; decide), fun l8 n8 => ?_⟩
      have s8' := same_new n8 (.lst [V.ref t7])
      have e8 : (upd H7 l8 (.lst [V.ref t7])) l8 = some (.lst [V.ref t7]) := upd_same
      have e7' := s8' _ _ e7
      have hD8 := s8' _ _ hD7
      have hall8 : ∀ p ∈ ps, (upd H7 l8 (.lst [V.ref t7])) p = some (.tup [.str "line", .int 1]) := fun p m => s8' _ _ (hall7 p m)
      generalize upd H7 l8 (.lst [V.ref t7]) = H8 at s8' e8 e7' hD8 hall8 ⊢
      refine ⟨l8, 6, _, rfl, rfl, e8, by decide, by decide, (by show 1 * 6 ≤ sizeLine; decide), fun p9 n9 => ?_⟩
      have s9' := same_new n9 (.lst (List.replicate (6 : Int).toNat [V.ref t7]).flatten)
      have e9 : (upd H8 p9 (.lst (List.replicate (6 : Int).toNat [V.ref t7]).flatten)) p9 = some (.lst ([t7, t7, t7, t7, t7, t7].map V.ref)) := upd_same
      have dpl : ∀ (qs : List Addr), (∀ q ∈ qs, (upd H8 p9 (.lst (List.replicate (6 : Int).toNat [V.ref t7]).flatten)) q = some (.tup [.str "line", .int 1])) → DpAll K (upd H8 p9 (.lst (List.replicate (6 : Int).toNat [V.ref t7]).flatten)) (qs.map V.ref) (List.replicate qs.length (.tuple [.str "line", .int 1])) := fun qs => by
        induction qs with
        | nil => intro _; exact .nil
        | cons x r ih =>
          intro h
          exact .cons (.tup (SqT.of (h x (by simp))) (.cons (.str _) (.cons (.int _) .nil))) (ih fun q m => h q (by simp [m]))
      have h1 := dpl ps fun q m => s9' _ _ (hall8 q m)
      have h2 := dpl [t7, t7, t7, t7, t7, t7] fun q m => by
        have : q = t7 := by simpa using m
        rw [this]
        exact s9' _ _ e7'
      have hps' : ps.length = 6 := by rw [hps]; rfl
      rw [hps'] at h1
      have hsh : SeqAt.shaped (.list (List.replicate 6 (.tuple [.str "line", .int 1]))) = true := by decide +kernel
      refine ⟨.list (List.replicate 6 (.tuple [.str "line", .int 1])), .list (List.replicate 6 (.tuple [.str "line", .int 1])), .lst (SqL.of (s9' _ _ hD8)) h1, .lst (SqL.of e9) h2, hsh, hsh, ?_⟩
      rw [SeqAt.eqv_refl _ (SeqAt.canLay_of_shaped hsh)]
      exact q _
end
theorem sqt_of {K : PySem.W.Frag} {a : Addr} {od : Option Addr} {sl : Array (Option Value)} {n : Nat} {its : Array Value} {xs : List V} (h : K.lookup a = some ⟨.type "tuple", od, .seq its n, sl⟩) (hz : its.size ≤ sizeLine) (r : Vals xs its.toList) : ∀ H, SqT K H a xs := fun H => .inr ⟨_, its, n, h, rfl, rfl, hz, r⟩
theorem all_mk {l : PySem.W.OpenLaw} {w : World} {K : PySem.W.Frag} {h : Heap} {mg : Str → Option Value} {fa : Addr} (X : K.In h) (G : h.Ns mainGlobals mg) (hfa : mg "law" = some (.ref fa))
    {fFrom : Addr} {odFrom anFrom : Option Addr} {slFrom : Array (Option Value)} {ocFrom kVFrom dcFrom pmFrom cdFrom ctFrom : Value}
    {fInt : Addr} {odInt anInt : Option Addr} {slInt : Array (Option Value)} {ocInt kVInt dcInt pmInt cdInt ctInt : Value}
    {fTerm : Addr} {odTerm anTerm : Option Addr} {slTerm : Array (Option Value)} {ocTerm kVTerm dcTerm pmTerm cdTerm ctTerm : Value}
    {fCond : Addr} {odCond anCond : Option Addr} {slCond : Array (Option Value)} {ocCond kVCond dcCond pmCond cdCond ctCond : Value}
    {fPart : Addr} {odPart anPart : Option Addr} {slPart : Array (Option Value)} {ocPart kVPart dcPart pmPart cdPart ctPart : Value}
    {fWord : Addr} {odWord anWord : Option Addr} {slWord : Array (Option Value)} {ocWord kVWord dcWord pmWord cdWord ctWord : Value}
    {fRoles : Addr} {odRoles anRoles : Option Addr} {slRoles : Array (Option Value)} {ocRoles kVRoles dcRoles pmRoles cdRoles ctRoles : Value}
    {fPlain : Addr} {odPlain anPlain : Option Addr} {slPlain : Array (Option Value)} {ocPlain kVPlain dcPlain pmPlain cdPlain ctPlain : Value}
    {fDec : Addr} {odDec anDec : Option Addr} {slDec : Array (Option Value)} {ocDec kVDec dcDec pmDec cdDec ctDec : Value}
    {fNW : Addr} {odNW anNW : Option Addr} {slNW : Array (Option Value)} {ocNW kVNW dcNW pmNW cdNW ctNW : Value}
    {fAP : Addr} {odAP anAP : Option Addr} {slAP : Array (Option Value)} {ocAP kVAP dcAP pmAP cdAP ctAP : Value}
    {fLP : Addr} {odLP anLP : Option Addr} {slLP : Array (Option Value)} {ocLP kVLP dcLP pmLP cdLP ctLP : Value}
    {fOpn : Addr} {odOpn anOpn : Option Addr} {slOpn : Array (Option Value)} {ocOpn kVOpn dcOpn pmOpn cdOpn ctOpn : Value}
    {fRead : Addr} {odRead anRead : Option Addr} {slRead : Array (Option Value)} {ocRead kVRead dcRead pmRead cdRead ctRead : Value}
    {fBag : Addr} {odBag anBag : Option Addr} {slBag : Array (Option Value)} {ocBag kVBag dcBag pmBag cdBag ctBag : Value}
    {fDraw : Addr} {odDraw anDraw : Option Addr} {slDraw : Array (Option Value)} {ocDraw kVDraw dcDraw pmDraw cdDraw ctDraw : Value}
    {fTermL : Addr} {odTermL anTermL : Option Addr} {slTermL : Array (Option Value)} {ocTermL kVTermL dcTermL pmTermL cdTermL ctTermL : Value}
    {fKind : Addr} {odKind anKind : Option Addr} {slKind : Array (Option Value)} {ocKind kVKind dcKind pmKind cdKind ctKind : Value}
    {fLL : Addr} {odLL anLL : Option Addr} {slLL : Array (Option Value)} {ocLL kVLL dcLL pmLL cdLL ctLL : Value}
    {fText : Addr} {odText anText : Option Addr} {slText : Array (Option Value)} {ocText kVText dcText pmText cdText ctText : Value}
    {fNum : Addr} {odNum anNum : Option Addr} {slNum : Array (Option Value)} {ocNum kVNum dcNum pmNum cdNum ctNum : Value}
    {fWT : Addr} {odWT anWT : Option Addr} {slWT : Array (Option Value)} {ocWT kVWT dcWT pmWT cdWT ctWT : Value}
    {fLn : Addr} {odLn anLn : Option Addr} {slLn : Array (Option Value)} {ocLn kVLn dcLn pmLn cdLn ctLn : Value}
    {fBad : Addr} {odBad anBad : Option Addr} {slBad : Array (Option Value)} {ocBad kVBad dcBad pmBad cdBad ctBad : Value}
    {fSa6 : Addr} {odSa6 anSa6 : Option Addr} {slSa6 : Array (Option Value)} {ocSa6 kVSa6 dcSa6 pmSa6 cdSa6 ctSa6 : Value}
    {fTow : Addr} {odTow anTow : Option Addr} {slTow : Array (Option Value)} {ocTow kVTow dcTow pmTow cdTow ctTow : Value}
    {fLaw : Addr} {odLaw anLaw : Option Addr} {slLaw : Array (Option Value)} {ocLaw kVLaw dcLaw pmLaw cdLaw ctLaw : Value}
    {tG : Tok}
    {tL : Tok}
    {tS : Tok}
    {tD : Tok}
    {aV : Addr} {odV : Option Addr} {slV : Array (Option Value)} {nV : Nat} {tV0 tV1 : Tok}
    {aC : Addr} {odC : Option Addr} {slC : Array (Option Value)} {nC : Nat} {tC0 tC1 tC2 : Tok}
    {aA : Addr} {odA : Option Addr} {slA : Array (Option Value)} {nA : Nat} {tA0 tA1 tA2 : Tok}
    {aK : Addr} {odK : Option Addr} {slK : Array (Option Value)} {nK : Nat} {tK0 tK1 : Tok}
    {aB : Addr} {nB : Nat} {hB0 hB1 : Int} {tB0 tB1 tB2 tB3 : Tok}
    {aSh : Addr} {nSh : Nat} {hSh0 hSh1 hSh2 : Int} {tSh0 tSh1 tSh2 : Tok}
    {aSh0 : Addr} {odSh0 : Option Addr} {slSh0 : Array (Option Value)} {nSh0 : Nat} {tSh00 tSh01 : Tok}
    {aSh1 : Addr} {odSh1 : Option Addr} {slSh1 : Array (Option Value)} {nSh1 : Nat} {tSh10 tSh11 : Tok}
    {aSh2 : Addr} {odSh2 : Option Addr} {slSh2 : Array (Option Value)} {nSh2 : Nat} {tSh20 : Tok}
    {aTe : Addr} {nTe : Nat} {hTe0 hTe1 : Int} {tTe0 tTe1 : Tok}
    {aTe0 : Addr} {odTe0 : Option Addr} {slTe0 : Array (Option Value)} {nTe0 : Nat} {tTe00 tTe01 tTe02 : Tok}
    {aTe1 : Addr} {odTe1 : Option Addr} {slTe1 : Array (Option Value)} {nTe1 : Nat} {tTe10 : Tok}
    {aCo : Addr} {nCo : Nat} {hCo0 hCo1 : Int} {tCo0 tCo1 : Tok}
    {aCo0 : Addr} {odCo0 : Option Addr} {slCo0 : Array (Option Value)} {nCo0 : Nat} {tCo00 : Tok}
    {aCo1 : Addr} {odCo1 : Option Addr} {slCo1 : Array (Option Value)} {nCo1 : Nat} {tCo10 : Tok}
    {cB cD : Addr}
    {fMB : Addr} {odMB anMB : Option Addr} {slMB : Array (Option Value)} {ocMB kVMB dcMB pmMB cdMB ctMB : Value}
    {fME : Addr} {odME anME : Option Addr} {slME : Array (Option Value)} {ocME kVME dcME pmME cdME ctME : Value}
    {fAS : Addr} {odAS anAS : Option Addr} {slAS : Array (Option Value)} {ocAS kVAS dcAS pmAS cdAS ctAS : Value}
    {fBI : Addr} {odBI anBI : Option Addr} {slBI : Array (Option Value)} {ocBI kVBI dcBI pmBI cdBI ctBI : Value}
    {fDH : Addr} {odDH anDH : Option Addr} {slDH : Array (Option Value)} {ocDH kVDH dcDH pmDH cdDH ctDH : Value}
    {fDC : Addr} {odDC anDC : Option Addr} {slDC : Array (Option Value)} {ocDC kVDC dcDC pmDC cdDC ctDC : Value}
    {fDP : Addr} {odDP anDP : Option Addr} {slDP : Array (Option Value)} {ocDP kVDP dcDP pmDP cdDP ctDP : Value}
    {fDA : Addr} {odDA anDA : Option Addr} {slDA : Array (Option Value)} {ocDA kVDA dcDA pmDA cdDA ctDA : Value}
    {fDT : Addr} {odDT anDT : Option Addr} {slDT : Array (Option Value)} {ocDT kVDT dcDT pmDT cdDT ctDT : Value}
    {fDI : Addr} {odDI anDI : Option Addr} {slDI : Array (Option Value)} {ocDI kVDI dcDI pmDI cdDI ctDI : Value}
    {cT cH fE TE : Addr} {nmT qT : Str} {NT : Addr} {bsT : List Value} {snT : List Str} {subT : List Value} {abT : Bool} {colT : Option Bool} {ddT : Option Addr} {m0T m1T m2T m3T m5T : Option Value}
    {odE anE toE : Option Addr} {slE tsE : Array (Option Value)} {ocE kVE dcE pmE cdE ctE : Value} {nE : Nat}
    (aFrom : PySem.W.nsIn K mainGlobals "is_integer_from" = some (some (.ref fFrom)))
    (lFrom : K.lookup fFrom = some ⟨ocFrom, odFrom, .func (PySem.W.fnOf "is_integer_from" "is_integer_from" (defArgs sFrom) (defBody sFrom) (defScope sFrom) .none kVFrom dcFrom pmFrom anFrom cdFrom ctFrom), slFrom⟩)
    (cFrom : PySem.W.codeIn K cdFrom "is_integer_from" = true)
    (kFrom : PySem.W.keepIn K (.ref fFrom) = true)
    (aInt : PySem.W.nsIn K mainGlobals "is_integer_from_to" = some (some (.ref fInt)))
    (lInt : K.lookup fInt = some ⟨ocInt, odInt, .func (PySem.W.fnOf "is_integer_from_to" "is_integer_from_to" (defArgs sInt) (defBody sInt) (defScope sInt) .none kVInt dcInt pmInt anInt cdInt ctInt), slInt⟩)
    (cInt : PySem.W.codeIn K cdInt "is_integer_from_to" = true)
    (kInt : PySem.W.keepIn K (.ref fInt) = true)
    (aTerm : PySem.W.nsIn K mainGlobals "is_term" = some (some (.ref fTerm)))
    (lTerm : K.lookup fTerm = some ⟨ocTerm, odTerm, .func (PySem.W.fnOf "is_term" "is_term" (defArgs sTerm) (defBody sTerm) (defScope sTerm) .none kVTerm dcTerm pmTerm anTerm cdTerm ctTerm), slTerm⟩)
    (cTerm : PySem.W.codeIn K cdTerm "is_term" = true)
    (kTerm : PySem.W.keepIn K (.ref fTerm) = true)
    (aCond : PySem.W.nsIn K mainGlobals "is_condition" = some (some (.ref fCond)))
    (lCond : K.lookup fCond = some ⟨ocCond, odCond, .func (PySem.W.fnOf "is_condition" "is_condition" (defArgs sCond) (defBody sCond) (defScope sCond) .none kVCond dcCond pmCond anCond cdCond ctCond), slCond⟩)
    (cCond : PySem.W.codeIn K cdCond "is_condition" = true)
    (kCond : PySem.W.keepIn K (.ref fCond) = true)
    (aPart : PySem.W.nsIn K mainGlobals "is_part" = some (some (.ref fPart)))
    (lPart : K.lookup fPart = some ⟨ocPart, odPart, .func (PySem.W.fnOf "is_part" "is_part" (defArgs sPart) (defBody sPart) (defScope sPart) .none kVPart dcPart pmPart anPart cdPart ctPart), slPart⟩)
    (cPart : PySem.W.codeIn K cdPart "is_part" = true)
    (kPart : PySem.W.keepIn K (.ref fPart) = true)
    (aWord : PySem.W.nsIn K mainGlobals "word_of" = some (some (.ref fWord)))
    (lWord : K.lookup fWord = some ⟨ocWord, odWord, .func (PySem.W.fnOf "word_of" "word_of" (defArgs sWord) (defBody sWord) (defScope sWord) .none kVWord dcWord pmWord anWord cdWord ctWord), slWord⟩)
    (cWord : PySem.W.codeIn K cdWord "word_of" = true)
    (kWord : PySem.W.keepIn K (.ref fWord) = true)
    (aRoles : PySem.W.nsIn K mainGlobals "roles_of" = some (some (.ref fRoles)))
    (lRoles : K.lookup fRoles = some ⟨ocRoles, odRoles, .func (PySem.W.fnOf "roles_of" "roles_of" (defArgs sRoles) (defBody sRoles) (defScope sRoles) .none kVRoles dcRoles pmRoles anRoles cdRoles ctRoles), slRoles⟩)
    (cRoles : PySem.W.codeIn K cdRoles "roles_of" = true)
    (kRoles : PySem.W.keepIn K (.ref fRoles) = true)
    (aPlain : PySem.W.nsIn K mainGlobals "is_plain_statement" = some (some (.ref fPlain)))
    (lPlain : K.lookup fPlain = some ⟨ocPlain, odPlain, .func (PySem.W.fnOf "is_plain_statement" "is_plain_statement" (defArgs sPlain) (defBody sPlain) (defScope sPlain) .none kVPlain dcPlain pmPlain anPlain cdPlain ctPlain), slPlain⟩)
    (cPlain : PySem.W.codeIn K cdPlain "is_plain_statement" = true)
    (kPlain : PySem.W.keepIn K (.ref fPlain) = true)
    (aDec : PySem.W.nsIn K mainGlobals "is_decimal" = some (some (.ref fDec)))
    (lDec : K.lookup fDec = some ⟨ocDec, odDec, .func (PySem.W.fnOf "is_decimal" "is_decimal" (defArgs sDec) (defBody sDec) (defScope sDec) .none kVDec dcDec pmDec anDec cdDec ctDec), slDec⟩)
    (cDec : PySem.W.codeIn K cdDec "is_decimal" = true)
    (kDec : PySem.W.keepIn K (.ref fDec) = true)
    (aNW : PySem.W.nsIn K mainGlobals "number_or_word" = some (some (.ref fNW)))
    (lNW : K.lookup fNW = some ⟨ocNW, odNW, .func (PySem.W.fnOf "number_or_word" "number_or_word" (defArgs sNW) (defBody sNW) (defScope sNW) .none kVNW dcNW pmNW anNW cdNW ctNW), slNW⟩)
    (cNW : PySem.W.codeIn K cdNW "number_or_word" = true)
    (kNW : PySem.W.keepIn K (.ref fNW) = true)
    (aAP : PySem.W.nsIn K mainGlobals "ask_parts" = some (some (.ref fAP)))
    (lAP : K.lookup fAP = some ⟨ocAP, odAP, .func (PySem.W.fnOf "ask_parts" "ask_parts" (defArgs sAP) (defBody sAP) (defScope sAP) .none kVAP dcAP pmAP anAP cdAP ctAP), slAP⟩)
    (cAP : PySem.W.codeIn K cdAP "ask_parts" = true)
    (kAP : PySem.W.keepIn K (.ref fAP) = true)
    (aLP : PySem.W.nsIn K mainGlobals "line_parts" = some (some (.ref fLP)))
    (lLP : K.lookup fLP = some ⟨ocLP, odLP, .func (PySem.W.fnOf "line_parts" "line_parts" (defArgs sLP) (defBody sLP) (defScope sLP) .none kVLP dcLP pmLP anLP cdLP ctLP), slLP⟩)
    (cLP : PySem.W.codeIn K cdLP "line_parts" = true)
    (kLP : PySem.W.keepIn K (.ref fLP) = true)
    (aOpn : PySem.W.nsIn K mainGlobals "is_opening" = some (some (.ref fOpn)))
    (lOpn : K.lookup fOpn = some ⟨ocOpn, odOpn, .func (PySem.W.fnOf "is_opening" "is_opening" (defArgs sOpn) (defBody sOpn) (defScope sOpn) .none kVOpn dcOpn pmOpn anOpn cdOpn ctOpn), slOpn⟩)
    (cOpn : PySem.W.codeIn K cdOpn "is_opening" = true)
    (kOpn : PySem.W.keepIn K (.ref fOpn) = true)
    (aRead : PySem.W.nsIn K mainGlobals "read" = some (some (.ref fRead)))
    (lRead : K.lookup fRead = some ⟨ocRead, odRead, .func (PySem.W.fnOf "read" "read" (defArgs sRead) (defBody sRead) (defScope sRead) .none kVRead dcRead pmRead anRead cdRead ctRead), slRead⟩)
    (cRead : PySem.W.codeIn K cdRead "read" = true)
    (kRead : PySem.W.keepIn K (.ref fRead) = true)
    (aBag : PySem.W.nsIn K mainGlobals "_law_bag" = some (some (.ref fBag)))
    (lBag : K.lookup fBag = some ⟨ocBag, odBag, .func (PySem.W.fnOf "_law_bag" "_law_bag" (defArgs sBag) (defBody sBag) (defScope sBag) .none kVBag dcBag pmBag anBag cdBag ctBag), slBag⟩)
    (cBag : PySem.W.codeIn K cdBag "_law_bag" = true)
    (kBag : PySem.W.keepIn K (.ref fBag) = true)
    (aDraw : PySem.W.nsIn K mainGlobals "_law_draw" = some (some (.ref fDraw)))
    (lDraw : K.lookup fDraw = some ⟨ocDraw, odDraw, .func (PySem.W.fnOf "_law_draw" "_law_draw" (defArgs sDraw) (defBody sDraw) (defScope sDraw) .none kVDraw dcDraw pmDraw anDraw cdDraw ctDraw), slDraw⟩)
    (cDraw : PySem.W.codeIn K cdDraw "_law_draw" = true)
    (kDraw : PySem.W.keepIn K (.ref fDraw) = true)
    (aTermL : PySem.W.nsIn K mainGlobals "_law_term" = some (some (.ref fTermL)))
    (lTermL : K.lookup fTermL = some ⟨ocTermL, odTermL, .func (PySem.W.fnOf "_law_term" "_law_term" (defArgs sTermL) (defBody sTermL) (defScope sTermL) .none kVTermL dcTermL pmTermL anTermL cdTermL ctTermL), slTermL⟩)
    (cTermL : PySem.W.codeIn K cdTermL "_law_term" = true)
    (kTermL : PySem.W.keepIn K (.ref fTermL) = true)
    (aKind : PySem.W.nsIn K mainGlobals "_law_kind" = some (some (.ref fKind)))
    (lKind : K.lookup fKind = some ⟨ocKind, odKind, .func (PySem.W.fnOf "_law_kind" "_law_kind" (defArgs sKind) (defBody sKind) (defScope sKind) .none kVKind dcKind pmKind anKind cdKind ctKind), slKind⟩)
    (cKind : PySem.W.codeIn K cdKind "_law_kind" = true)
    (kKind : PySem.W.keepIn K (.ref fKind) = true)
    (aLL : PySem.W.nsIn K mainGlobals "_law_lines" = some (some (.ref fLL)))
    (lLL : K.lookup fLL = some ⟨ocLL, odLL, .func (PySem.W.fnOf "_law_lines" "_law_lines" (defArgs sLL) (defBody sLL) (defScope sLL) .none kVLL dcLL pmLL anLL cdLL ctLL), slLL⟩)
    (cLL : PySem.W.codeIn K cdLL "_law_lines" = true)
    (kLL : PySem.W.keepIn K (.ref fLL) = true)
    (aText : PySem.W.nsIn K mainGlobals "_law_text" = some (some (.ref fText)))
    (lText : K.lookup fText = some ⟨ocText, odText, .func (PySem.W.fnOf "_law_text" "_law_text" (defArgs sText) (defBody sText) (defScope sText) .none kVText dcText pmText anText cdText ctText), slText⟩)
    (cText : PySem.W.codeIn K cdText "_law_text" = true)
    (kText : PySem.W.keepIn K (.ref fText) = true)
    (aNum : PySem.W.nsIn K mainGlobals "_law_is_number" = some (some (.ref fNum)))
    (lNum : K.lookup fNum = some ⟨ocNum, odNum, .func (PySem.W.fnOf "_law_is_number" "_law_is_number" (defArgs sNum) (defBody sNum) (defScope sNum) .none kVNum dcNum pmNum anNum cdNum ctNum), slNum⟩)
    (cNum : PySem.W.codeIn K cdNum "_law_is_number" = true)
    (kNum : PySem.W.keepIn K (.ref fNum) = true)
    (aWT : PySem.W.nsIn K mainGlobals "_law_is_written_term" = some (some (.ref fWT)))
    (lWT : K.lookup fWT = some ⟨ocWT, odWT, .func (PySem.W.fnOf "_law_is_written_term" "_law_is_written_term" (defArgs sWT) (defBody sWT) (defScope sWT) .none kVWT dcWT pmWT anWT cdWT ctWT), slWT⟩)
    (cWT : PySem.W.codeIn K cdWT "_law_is_written_term" = true)
    (kWT : PySem.W.keepIn K (.ref fWT) = true)
    (aLn : PySem.W.nsIn K mainGlobals "_law_is_line" = some (some (.ref fLn)))
    (lLn : K.lookup fLn = some ⟨ocLn, odLn, .func (PySem.W.fnOf "_law_is_line" "_law_is_line" (defArgs sLn) (defBody sLn) (defScope sLn) .none kVLn dcLn pmLn anLn cdLn ctLn), slLn⟩)
    (cLn : PySem.W.codeIn K cdLn "_law_is_line" = true)
    (kLn : PySem.W.keepIn K (.ref fLn) = true)
    (aBad : PySem.W.nsIn K mainGlobals "_law_bad_line" = some (some (.ref fBad)))
    (lBad : K.lookup fBad = some ⟨ocBad, odBad, .func (PySem.W.fnOf "_law_bad_line" "_law_bad_line" (defArgs sBad) (defBody sBad) (defScope sBad) .none kVBad dcBad pmBad anBad cdBad ctBad), slBad⟩)
    (cBad : PySem.W.codeIn K cdBad "_law_bad_line" = true)
    (kBad : PySem.W.keepIn K (.ref fBad) = true)
    (aSa6 : PySem.W.nsIn K mainGlobals "_law_said" = some (some (.ref fSa6)))
    (lSa6 : K.lookup fSa6 = some ⟨ocSa6, odSa6, .func (PySem.W.fnOf "_law_said" "_law_said" (defArgs sSa6) (defBody sSa6) (defScope sSa6) .none kVSa6 dcSa6 pmSa6 anSa6 cdSa6 ctSa6), slSa6⟩)
    (cSa6 : PySem.W.codeIn K cdSa6 "_law_said" = true)
    (kSa6 : PySem.W.keepIn K (.ref fSa6) = true)
    (aTow : PySem.W.nsIn K mainGlobals "_law_tower" = some (some (.ref fTow)))
    (lTow : K.lookup fTow = some ⟨ocTow, odTow, .func (PySem.W.fnOf "_law_tower" "_law_tower" (defArgs sTow) (defBody sTow) (defScope sTow) .none kVTow dcTow pmTow anTow cdTow ctTow), slTow⟩)
    (cTow : PySem.W.codeIn K cdTow "_law_tower" = true)
    (kTow : PySem.W.keepIn K (.ref fTow) = true)
    (aLaw : PySem.W.nsIn K mainGlobals "law" = some (some (.ref fLaw)))
    (lLaw : K.lookup fLaw = some ⟨ocLaw, odLaw, .func (PySem.W.fnOf "law" "law" (defArgs sLaw) (defBody sLaw) (defScope sLaw) .none kVLaw dcLaw pmLaw anLaw cdLaw ctLaw), slLaw⟩)
    (cLaw : PySem.W.codeIn K cdLaw "law" = true)
    (kLaw : PySem.W.keepIn K (.ref fLaw) = true)
    (zisinstance : PySem.W.nsIn K mainGlobals "isinstance" = some none)
    (zint : PySem.W.nsIn K mainGlobals "int" = some none)
    (zbool : PySem.W.nsIn K mainGlobals "bool" = some none)
    (zstr : PySem.W.nsIn K mainGlobals "str" = some none)
    (ztuple : PySem.W.nsIn K mainGlobals "tuple" = some none)
    (zlen : PySem.W.nsIn K mainGlobals "len" = some none)
    (zzip : PySem.W.nsIn K mainGlobals "zip" = some none)
    (zall : PySem.W.nsIn K mainGlobals "all" = some none)
    (zabs : PySem.W.nsIn K mainGlobals "abs" = some none)
    (zmax : PySem.W.nsIn K mainGlobals "max" = some none)
    (zmin : PySem.W.nsIn K mainGlobals "min" = some none)
    (zrange : PySem.W.nsIn K mainGlobals "range" = some none)
    (zenumerate : PySem.W.nsIn K mainGlobals "enumerate" = some none)
    (gG : PySem.W.nsIn K mainGlobals "GREATEST_VALUE" = some (some (.int 15 tG)))
    (gL : PySem.W.nsIn K mainGlobals "LONGEST_WAIT" = some (some (.int longest tL)))
    (gS : PySem.W.nsIn K mainGlobals "MOST_STATEMENTS" = some (some (.int 24 tS)))
    (gD : PySem.W.nsIn K mainGlobals "MOST_DEPTH" = some (some (.int 4 tD)))
    (mV : PySem.W.nsIn K mainGlobals "VARIABLES" = some (some (.ref aV)))
    (qV : K.lookup aV = some ⟨.type "tuple", odV, .seq #[.str "a" tV0, .str "b" tV1] nV, slV⟩)
    (mC : PySem.W.nsIn K mainGlobals "CONDITION_SIGNS" = some (some (.ref aC)))
    (qC : K.lookup aC = some ⟨.type "tuple", odC, .seq #[.str "==" tC0, .str "!=" tC1, .str "<" tC2] nC, slC⟩)
    (mA : PySem.W.nsIn K mainGlobals "ASK_SIGNS" = some (some (.ref aA)))
    (qA : K.lookup aA = some ⟨.type "tuple", odA, .seq #[.str "+" tA0, .str "-" tA1, .str "=" tA2] nA, slA⟩)
    (mK : PySem.W.nsIn K mainGlobals "KINDS" = some (some (.ref aK)))
    (qK : K.lookup aK = some ⟨.type "tuple", odK, .seq #[.str "teller" tK0, .str "collector" tK1] nK, slK⟩)
    (mB : PySem.W.nsIn K mainGlobals "BODIES" = some (some (.ref aB)))
    (qB : K.lookup aB = some ⟨.type "dict", none, .dict #[⟨hB0, .str "if" tB0, .int 2 tB2⟩, ⟨hB1, .str "while" tB1, .int 1 tB3⟩] nB, #[]⟩)
    (yB : PySem.W.KeysLit w.params (#[⟨hB0, .str "if" tB0, .int 2 tB2⟩, ⟨hB1, .str "while" tB1, .int 1 tB3⟩] : Array DictEntry).toList)
    (wB : (aB == sysModules) = false)
    (mSh : PySem.W.nsIn K mainGlobals "SHARED_ROLES" = some (some (.ref aSh)))
    (qSh : K.lookup aSh = some ⟨.type "dict", none, .dict #[⟨hSh0, .str "set" tSh0, .ref aSh0⟩, ⟨hSh1, .str "add" tSh1, .ref aSh1⟩, ⟨hSh2, .str "wait" tSh2, .ref aSh2⟩] nSh, #[]⟩)
    (ySh : PySem.W.KeysLit w.params (#[⟨hSh0, .str "set" tSh0, .ref aSh0⟩, ⟨hSh1, .str "add" tSh1, .ref aSh1⟩, ⟨hSh2, .str "wait" tSh2, .ref aSh2⟩] : Array DictEntry).toList)
    (wSh : (aSh == sysModules) = false)
    (qSh0 : K.lookup aSh0 = some ⟨.type "tuple", odSh0, .seq #[.str "variable" tSh00, .str "value" tSh01] nSh0, slSh0⟩)
    (qSh1 : K.lookup aSh1 = some ⟨.type "tuple", odSh1, .seq #[.str "variable" tSh10, .str "term" tSh11] nSh1, slSh1⟩)
    (qSh2 : K.lookup aSh2 = some ⟨.type "tuple", odSh2, .seq #[.str "steps" tSh20] nSh2, slSh2⟩)
    (mTe : PySem.W.nsIn K mainGlobals "TELLER_ROLES" = some (some (.ref aTe)))
    (qTe : K.lookup aTe = some ⟨.type "dict", none, .dict #[⟨hTe0, .str "ask" tTe0, .ref aTe0⟩, ⟨hTe1, .str "answer" tTe1, .ref aTe1⟩] nTe, #[]⟩)
    (yTe : PySem.W.KeysLit w.params (#[⟨hTe0, .str "ask" tTe0, .ref aTe0⟩, ⟨hTe1, .str "answer" tTe1, .ref aTe1⟩] : Array DictEntry).toList)
    (wTe : (aTe == sysModules) = false)
    (qTe0 : K.lookup aTe0 = some ⟨.type "tuple", odTe0, .seq #[.str "sign" tTe00, .str "term" tTe01, .str "variable" tTe02] nTe0, slTe0⟩)
    (qTe1 : K.lookup aTe1 = some ⟨.type "tuple", odTe1, .seq #[.str "answer" tTe10] nTe1, slTe1⟩)
    (mCo : PySem.W.nsIn K mainGlobals "COLLECTOR_ROLES" = some (some (.ref aCo)))
    (qCo : K.lookup aCo = some ⟨.type "dict", none, .dict #[⟨hCo0, .str "grow" tCo0, .ref aCo0⟩, ⟨hCo1, .str "list" tCo1, .ref aCo1⟩] nCo, #[]⟩)
    (yCo : PySem.W.KeysLit w.params (#[⟨hCo0, .str "grow" tCo0, .ref aCo0⟩, ⟨hCo1, .str "list" tCo1, .ref aCo1⟩] : Array DictEntry).toList)
    (wCo : (aCo == sysModules) = false)
    (qCo0 : K.lookup aCo0 = some ⟨.type "tuple", odCo0, .seq #[.str "term" tCo00] nCo0, slCo0⟩)
    (qCo1 : K.lookup aCo1 = some ⟨.type "tuple", odCo1, .seq #[.str "term" tCo10] nCo1, slCo1⟩)
    (ucB : PySem.W.nsIn K mainGlobals "Block" = some (some (.ref cB)))
    (ucD : PySem.W.nsIn K mainGlobals "Reader" = some (some (.ref cD)))
    (aMB : PySem.W.findIn K (.ref cB) "may_branch" = some (some (.ref fMB)))
    (iMB : PySem.W.isFn K (.ref fMB) = true)
    (lMB : K.lookup fMB = some ⟨ocMB, odMB, .func (PySem.W.fnOf "may_branch" "Block.may_branch" (defArgs sMB) (defBody sMB) (defScope sMB) .none kVMB dcMB pmMB anMB cdMB ctMB), slMB⟩)
    (cMB : PySem.W.codeIn K cdMB "Block.may_branch" = true)
    (kMB : PySem.W.keepIn K (.ref fMB) = true)
    (aME : PySem.W.findIn K (.ref cB) "may_end" = some (some (.ref fME)))
    (iME : PySem.W.isFn K (.ref fME) = true)
    (lME : K.lookup fME = some ⟨ocME, odME, .func (PySem.W.fnOf "may_end" "Block.may_end" (defArgs sME) (defBody sME) (defScope sME) .none kVME dcME pmME anME cdME ctME), slME⟩)
    (cME : PySem.W.codeIn K cdME "Block.may_end" = true)
    (kME : PySem.W.keepIn K (.ref fME) = true)
    (aAS : PySem.W.findIn K (.ref cB) "as_statement" = some (some (.ref fAS)))
    (iAS : PySem.W.isFn K (.ref fAS) = true)
    (lAS : K.lookup fAS = some ⟨ocAS, odAS, .func (PySem.W.fnOf "as_statement" "Block.as_statement" (defArgs sAS) (defBody sAS) (defScope sAS) .none kVAS dcAS pmAS anAS cdAS ctAS), slAS⟩)
    (cAS : PySem.W.codeIn K cdAS "Block.as_statement" = true)
    (kAS : PySem.W.keepIn K (.ref fAS) = true)
    (aBI : PySem.W.findIn K (.ref cB) "__init__" = some (some (.ref fBI)))
    (iBI : PySem.W.isFn K (.ref fBI) = true)
    (lBI : K.lookup fBI = some ⟨ocBI, odBI, .func (PySem.W.fnOf "__init__" "Block.__init__" (defArgs sBI) (defBody sBI) (defScope sBI) .none kVBI dcBI pmBI anBI cdBI ctBI), slBI⟩)
    (cBI : PySem.W.codeIn K cdBI "Block.__init__" = true)
    (kBI : PySem.W.keepIn K (.ref fBI) = true)
    (aDH : PySem.W.findIn K (.ref cD) "has_room" = some (some (.ref fDH)))
    (iDH : PySem.W.isFn K (.ref fDH) = true)
    (lDH : K.lookup fDH = some ⟨ocDH, odDH, .func (PySem.W.fnOf "has_room" "Reader.has_room" (defArgs sDH) (defBody sDH) (defScope sDH) .none kVDH dcDH pmDH anDH cdDH ctDH), slDH⟩)
    (cDH : PySem.W.codeIn K cdDH "Reader.has_room" = true)
    (kDH : PySem.W.keepIn K (.ref fDH) = true)
    (aDC : PySem.W.findIn K (.ref cD) "is_complete" = some (some (.ref fDC)))
    (iDC : PySem.W.isFn K (.ref fDC) = true)
    (lDC : K.lookup fDC = some ⟨ocDC, odDC, .func (PySem.W.fnOf "is_complete" "Reader.is_complete" (defArgs sDC) (defBody sDC) (defScope sDC) .none kVDC dcDC pmDC anDC cdDC ctDC), slDC⟩)
    (cDC : PySem.W.codeIn K cdDC "Reader.is_complete" = true)
    (kDC : PySem.W.keepIn K (.ref fDC) = true)
    (aDP : PySem.W.findIn K (.ref cD) "as_program" = some (some (.ref fDP)))
    (iDP : PySem.W.isFn K (.ref fDP) = true)
    (lDP : K.lookup fDP = some ⟨ocDP, odDP, .func (PySem.W.fnOf "as_program" "Reader.as_program" (defArgs sDP) (defBody sDP) (defScope sDP) .none kVDP dcDP pmDP anDP cdDP ctDP), slDP⟩)
    (cDP : PySem.W.codeIn K cdDP "Reader.as_program" = true)
    (kDP : PySem.W.keepIn K (.ref fDP) = true)
    (aDA : PySem.W.findIn K (.ref cD) "allows" = some (some (.ref fDA)))
    (iDA : PySem.W.isFn K (.ref fDA) = true)
    (lDA : K.lookup fDA = some ⟨ocDA, odDA, .func (PySem.W.fnOf "allows" "Reader.allows" (defArgs sDA) (defBody sDA) (defScope sDA) .none kVDA dcDA pmDA anDA cdDA ctDA), slDA⟩)
    (cDA : PySem.W.codeIn K cdDA "Reader.allows" = true)
    (kDA : PySem.W.keepIn K (.ref fDA) = true)
    (aDT : PySem.W.findIn K (.ref cD) "take" = some (some (.ref fDT)))
    (iDT : PySem.W.isFn K (.ref fDT) = true)
    (lDT : K.lookup fDT = some ⟨ocDT, odDT, .func (PySem.W.fnOf "take" "Reader.take" (defArgs sDT) (defBody sDT) (defScope sDT) .none kVDT dcDT pmDT anDT cdDT ctDT), slDT⟩)
    (cDT : PySem.W.codeIn K cdDT "Reader.take" = true)
    (kDT : PySem.W.keepIn K (.ref fDT) = true)
    (aDI : PySem.W.findIn K (.ref cD) "__init__" = some (some (.ref fDI)))
    (iDI : PySem.W.isFn K (.ref fDI) = true)
    (lDI : K.lookup fDI = some ⟨ocDI, odDI, .func (PySem.W.fnOf "__init__" "Reader.__init__" (defArgs sDI) (defBody sDI) (defScope sDI) .none kVDI dcDI pmDI anDI cdDI ctDI), slDI⟩)
    (cDI : PySem.W.codeIn K cdDI "Reader.__init__" = true)
    (kDI : PySem.W.keepIn K (.ref fDI) = true)
    (pgB : PySem.W.plainGet K cB Str.empty = true)
    (hdB : PySem.W.hasDictIn K cB = true)
    (poB : PySem.W.plainOver K cB = true)
    (saB : PySem.W.findIn K (.ref cB) "__setattr__" = some (some (.builtin "object.__setattr__")))
    (mkB : PySem.W.makesIn K cB = true)
    (kcB : PySem.W.keepIn K (.ref cB) = true)
    (nB_word : PySem.W.findIn K (.ref cB) "word" = some none)
    (nB_condition : PySem.W.findIn K (.ref cB) "condition" = some none)
    (nB_bodies : PySem.W.findIn K (.ref cB) "bodies" = some none)
    (pgD : PySem.W.plainGet K cD Str.empty = true)
    (hdD : PySem.W.hasDictIn K cD = true)
    (poD : PySem.W.plainOver K cD = true)
    (saD : PySem.W.findIn K (.ref cD) "__setattr__" = some (some (.builtin "object.__setattr__")))
    (mkD : PySem.W.makesIn K cD = true)
    (kcD : PySem.W.keepIn K (.ref cD) = true)
    (nD_kind : PySem.W.findIn K (.ref cD) "kind" = some none)
    (nD_many : PySem.W.findIn K (.ref cD) "many" = some none)
    (nD_blocks : PySem.W.findIn K (.ref cD) "blocks" = some none)
    (rcT : PySem.W.nsIn K mainGlobals "BadText" = some (some (.ref cT)))
    (rcH : PySem.W.nsIn K mainGlobals "HouseError" = some (some (.ref cH)))
    (xLT : K.lookup cT = some (excClassObj nmT qT cT NT bsT [.ref cH, .type "ValueError", .type "Exception", .type "BaseException", .type "object"] true snT subT abT colT ddT m0T m1T m2T m3T m5T "ValueError.__new__"))
    (xsa : PySem.W.findIn K (.ref cT) "__setattr__" = some (some (.builtin "object.__setattr__")))
    (xga : PySem.W.findIn K (.ref cT) "__getattribute__" = some (some (.builtin "BaseException.__getattribute__")))
    (xgg : PySem.W.findIn K (.ref cT) "__getattr__" = some none)
    (xnl : PySem.W.findIn K (.ref cT) "line" = some none)
    (xb : PySem.W.subIn K (.ref cT) (.type "BaseException") = some true)
    (xt : PySem.W.typeIn K (.ref cT) = some (.type "type"))
    (xk : PySem.W.keepIn K (.ref cT) = true)
    (xhd : PySem.W.hasDictIn K cT = true)
    (xrd : PySem.W.readsIn K cH (.type "type") = true)
    (xrg : PySem.W.specialIn K (.ref cH) "__getattribute__" = some (some (.builtin "type.__getattribute__")))
    (xfc : PySem.W.findCls K (.ref cH) (.type "type") "__init__" = some (.val (.builtin "ValueError.__init__")))
    (xiE : PySem.W.findIn K (.ref cT) "__init__" = some (some (.ref fE)))
    (xtE : PySem.W.typeIn K (.ref fE) = some (.type "function"))
    (lE : K.lookup fE = some ⟨ocE, odE, .func (PySem.W.fnOf "__init__" "BadText.__init__" (defArgs sBTI) (defBody sBTI) (defScope sBTI) (.ref TE) kVE dcE pmE anE cdE ctE), slE⟩)
    (cE : PySem.W.codeIn K cdE "BadText.__init__" = true)
    (kE : PySem.W.keepIn K (.ref fE) = true)
    (tE : K.lookup TE = some ⟨.type "tuple", toE, .seq [.none].toArray nE, tsE⟩)
    (hH1 : PySem.W.subIn K (.ref cH) (.type "BaseException") = some true)
    (hH2 : PySem.W.hasDictIn K cH = true)
    (hH3 : PySem.W.typeIn K (.ref cH) = some (.type "type"))
    (xTH : PySem.W.subIn K (.ref cT) (.ref cH) = some true)
    (xss : PySem.W.subIn K (.ref cT) (.ref cT) = some true)
    (xcc : PySem.W.findIn K (.ref cT) "__class__" = some (some (.builtin "object.__class__")))
    (xmm : PySem.W.mroIn K cT (.type "object") = some true)
    (oc2 : PySem.W.specialIn K (.builtin "object.__class__") "__get__" = some (some (.builtin "getset_descriptor.__get__")))
    (oc3 : PySem.W.takesIn K (.builtin "object.__class__") = some true)
    : ∃ fd : FuncData, (∀ (s : Shared) (v : Value), BindsTo s fd ⟨[v], []⟩ [("_law_script", v)]) ∧ ∀ base : Heap, K.In base → base.Ns mainGlobals mg → FnOk l.prog w K mg base CX0 9 fa fd ["_law_script"] (spLaw K) := by
  have e := hfa.symm.trans (PySem.W.mg_of X G aLaw)
  cases e
  have FFrom := fun_mk (st := sFrom) lFrom cFrom kFrom
  have bFrom := FFrom.binds (ps := ["thing", "least"]) fun _ _ _ _ _ _ us hl => match us, hl with | [_, _], _ => rfl
  have FInt := fun_mk (st := sInt) lInt cInt kInt
  have bInt := FInt.binds (ps := ["thing", "least", "greatest"]) fun _ _ _ _ _ _ us hl => match us, hl with | [_, _, _], _ => rfl
  have FTerm := fun_mk (st := sTerm) lTerm cTerm kTerm
  have bTerm := FTerm.binds (ps := ["thing"]) fun _ _ _ _ _ _ us hl => match us, hl with | [_], _ => rfl
  have FCond := fun_mk (st := sCond) lCond cCond kCond
  have bCond := FCond.binds (ps := ["thing"]) fun _ _ _ _ _ _ us hl => match us, hl with | [_], _ => rfl
  have FPart := fun_mk (st := sPart) lPart cPart kPart
  have bPart := FPart.binds (ps := ["thing", "role"]) fun _ _ _ _ _ _ us hl => match us, hl with | [_, _], _ => rfl
  have FWord := fun_mk (st := sWord) lWord cWord kWord
  have bWord := FWord.binds (ps := ["thing"]) fun _ _ _ _ _ _ us hl => match us, hl with | [_], _ => rfl
  have FRoles := fun_mk (st := sRoles) lRoles cRoles kRoles
  have bRoles := FRoles.binds (ps := ["word", "kind"]) fun _ _ _ _ _ _ us hl => match us, hl with | [_, _], _ => rfl
  have FPlain := fun_mk (st := sPlain) lPlain cPlain kPlain
  have bPlain := FPlain.binds (ps := ["thing", "kind"]) fun _ _ _ _ _ _ us hl => match us, hl with | [_, _], _ => rfl
  have FDec := fun_mk (st := sDec) lDec cDec kDec
  have bDec := FDec.binds (ps := ["word", "most"]) fun _ _ _ _ _ _ us hl => match us, hl with | [_, _], _ => rfl
  have FNW := fun_mk (st := sNW) lNW cNW kNW
  have bNW := FNW.binds (ps := ["word"]) fun _ _ _ _ _ _ us hl => match us, hl with | [_], _ => rfl
  have FAP := fun_mk (st := sAP) lAP cAP kAP
  have bAP := FAP.binds (ps := ["words"]) fun _ _ _ _ _ _ us hl => match us, hl with | [_], _ => rfl
  have FLP := fun_mk (st := sLP) lLP cLP kLP
  have bLP := FLP.binds (ps := ["line"]) fun _ _ _ _ _ _ us hl => match us, hl with | [_], _ => rfl
  have FOpn := fun_mk (st := sOpn) lOpn cOpn kOpn
  have bOpn := FOpn.binds (ps := ["parts"]) fun _ _ _ _ _ _ us hl => match us, hl with | [_], _ => rfl
  have FRead := fun_mk (st := sRead) lRead cRead kRead
  have bRead := FRead.binds (ps := ["text"]) fun _ _ _ _ _ _ us hl => match us, hl with | [_], _ => rfl
  have FBag := fun_mk (st := sBag) lBag cBag kBag
  have bBag := FBag.binds (ps := ["_law_script", "_law_k"]) fun _ _ _ _ _ _ us hl => match us, hl with | [_, _], _ => rfl
  have FDraw := fun_mk (st := sDraw) lDraw cDraw kDraw
  have bDraw := FDraw.binds (ps := ["_law_bag_here", "_law_many"]) fun _ _ _ _ _ _ us hl => match us, hl with | [_, _], _ => rfl
  have FTermL := fun_mk (st := sTermL) lTermL cTermL kTermL
  have bTermL := FTermL.binds (ps := ["_law_bag_here"]) fun _ _ _ _ _ _ us hl => match us, hl with | [_], _ => rfl
  have FKind := fun_mk (st := sKind) lKind cKind kKind
  have bKind := FKind.binds (ps := ["_law_bag_here"]) fun _ _ _ _ _ _ us hl => match us, hl with | [_], _ => rfl
  have FLL := fun_mk (st := sLL) lLL cLL kLL
  have bLL := FLL.binds (ps := ["_law_body"]) fun _ _ _ _ _ _ us hl => match us, hl with | [_], _ => rfl
  have FText := fun_mk (st := sText) lText cText kText
  have bText := FText.binds (ps := ["_law_program"]) fun _ _ _ _ _ _ us hl => match us, hl with | [_], _ => rfl
  have FNum := fun_mk (st := sNum) lNum cNum kNum
  have bNum := FNum.binds (ps := ["_law_text_here", "_law_least", "_law_most"]) fun _ _ _ _ _ _ us hl => match us, hl with | [_, _, _], _ => rfl
  have FWT := fun_mk (st := sWT) lWT cWT kWT
  have bWT := FWT.binds (ps := ["_law_text_here"]) fun _ _ _ _ _ _ us hl => match us, hl with | [_], _ => rfl
  have FLn := fun_mk (st := sLn) lLn cLn kLn
  have bLn := FLn.binds (ps := ["_law_kind_here", "_law_words"]) fun _ _ _ _ _ _ us hl => match us, hl with | [_, _], _ => rfl
  have FBad := fun_mk (st := sBad) lBad cBad kBad
  have bBad := FBad.binds (ps := ["_law_lines_here"]) fun _ _ _ _ _ _ us hl => match us, hl with | [_], _ => rfl
  have FSa6 := fun_mk (st := sSa6) lSa6 cSa6 kSa6
  have bSa6 := FSa6.binds (ps := ["_law_text_here"]) fun _ _ _ _ _ _ us hl => match us, hl with | [_], _ => rfl
  have FTow := fun_mk (st := sTow) lTow cTow kTow
  have bTow := FTow.binds (ps := ["_law_bag_here", "_law_deep", "_law_simple"]) fun _ _ _ _ _ _ us hl => match us, hl with | [_, _, _], _ => rfl
  have FLaw := fun_mk (st := sLaw) lLaw cLaw kLaw
  let T : Gs K mg := ⟨PySem.W.mg_none_of X G zisinstance, PySem.W.mg_none_of X G zint, PySem.W.mg_none_of X G zbool, PySem.W.mg_none_of X G zstr, PySem.W.mg_none_of X G ztuple, PySem.W.mg_none_of X G zlen, PySem.W.mg_none_of X G zzip, PySem.W.mg_none_of X G zall,
    aV, PySem.W.mg_of X G mV, sqt_of qV (by show 2 ≤ sizeLine; decide) (.cons ⟨_, rfl⟩ (.cons ⟨_, rfl⟩ (.nil))), aC, PySem.W.mg_of X G mC, sqt_of qC (by show 3 ≤ sizeLine; decide) (.cons ⟨_, rfl⟩ (.cons ⟨_, rfl⟩ (.cons ⟨_, rfl⟩ (.nil)))), aA, PySem.W.mg_of X G mA, sqt_of qA (by show 3 ≤ sizeLine; decide) (.cons ⟨_, rfl⟩ (.cons ⟨_, rfl⟩ (.cons ⟨_, rfl⟩ (.nil)))), aK, PySem.W.mg_of X G mK, sqt_of qK (by show 2 ≤ sizeLine; decide) (.cons ⟨_, rfl⟩ (.cons ⟨_, rfl⟩ (.nil))),
    tG, PySem.W.mg_of X G gG, tL, PySem.W.mg_of X G gL, tS, PySem.W.mg_of X G gS, tD, PySem.W.mg_of X G gD⟩
  have T2 : G2 mg := ⟨PySem.W.mg_none_of X G zabs, PySem.W.mg_none_of X G zmax, PySem.W.mg_none_of X G zmin, PySem.W.mg_none_of X G zrange⟩
  let D : Gd K w mg := ⟨aB, PySem.W.mg_of X G mB, ⟨⟨_, _, qB, yB, .cons ⟨_, rfl⟩ (.cons ⟨_, rfl⟩ (.nil))⟩, wB⟩,
    aSh, aSh0, aSh1, aSh2, PySem.W.mg_of X G mSh, ⟨⟨_, _, qSh, ySh, .cons rfl (.cons rfl (.cons rfl (.nil)))⟩, wSh⟩, sqt_of qSh0 (by show 2 ≤ sizeLine; decide) (.cons ⟨_, rfl⟩ (.cons ⟨_, rfl⟩ (.nil))), sqt_of qSh1 (by show 2 ≤ sizeLine; decide) (.cons ⟨_, rfl⟩ (.cons ⟨_, rfl⟩ (.nil))), sqt_of qSh2 (by show 1 ≤ sizeLine; decide) (.cons ⟨_, rfl⟩ (.nil)),
    aTe, aTe0, aTe1, PySem.W.mg_of X G mTe, ⟨⟨_, _, qTe, yTe, .cons rfl (.cons rfl (.nil))⟩, wTe⟩, sqt_of qTe0 (by show 3 ≤ sizeLine; decide) (.cons ⟨_, rfl⟩ (.cons ⟨_, rfl⟩ (.cons ⟨_, rfl⟩ (.nil)))), sqt_of qTe1 (by show 1 ≤ sizeLine; decide) (.cons ⟨_, rfl⟩ (.nil)),
    aCo, aCo0, aCo1, PySem.W.mg_of X G mCo, ⟨⟨_, _, qCo, yCo, .cons rfl (.cons rfl (.nil))⟩, wCo⟩, sqt_of qCo0 (by show 1 ≤ sizeLine; decide) (.cons ⟨_, rfl⟩ (.nil)), sqt_of qCo1 (by show 1 ≤ sizeLine; decide) (.cons ⟨_, rfl⟩ (.nil))⟩
  have FMB := fun_mk (st := sMB) lMB cMB kMB
  have bMB := FMB.binds (ps := ["self"]) fun _ _ _ _ _ _ us hl => match us, hl with | [_], _ => rfl
  have FME := fun_mk (st := sME) lME cME kME
  have bME := FME.binds (ps := ["self"]) fun _ _ _ _ _ _ us hl => match us, hl with | [_], _ => rfl
  have FAS := fun_mk (st := sAS) lAS cAS kAS
  have bAS := FAS.binds (ps := ["self"]) fun _ _ _ _ _ _ us hl => match us, hl with | [_], _ => rfl
  have FBI := fun_mk (st := sBI) lBI cBI kBI
  have bBI := FBI.binds (ps := ["self", "word", "condition"]) fun _ _ _ _ _ _ us hl => match us, hl with | [_, _, _], _ => rfl
  have FDH := fun_mk (st := sDH) lDH cDH kDH
  have bDH := FDH.binds (ps := ["self"]) fun _ _ _ _ _ _ us hl => match us, hl with | [_], _ => rfl
  have FDC := fun_mk (st := sDC) lDC cDC kDC
  have bDC := FDC.binds (ps := ["self"]) fun _ _ _ _ _ _ us hl => match us, hl with | [_], _ => rfl
  have FDP := fun_mk (st := sDP) lDP cDP kDP
  have bDP := FDP.binds (ps := ["self"]) fun _ _ _ _ _ _ us hl => match us, hl with | [_], _ => rfl
  have FDA := fun_mk (st := sDA) lDA cDA kDA
  have bDA := FDA.binds (ps := ["self", "parts"]) fun _ _ _ _ _ _ us hl => match us, hl with | [_, _], _ => rfl
  have FDT := fun_mk (st := sDT) lDT cDT kDT
  have bDT := FDT.binds (ps := ["self", "parts"]) fun _ _ _ _ _ _ us hl => match us, hl with | [_, _], _ => rfl
  have FDI := fun_mk (st := sDI) lDI cDI kDI
  have bDI := FDI.binds (ps := ["self", "kind"]) fun _ _ _ _ _ _ us hl => match us, hl with | [_, _], _ => rfl
  have NB : BNo K cB := ⟨⟨pgB, hdB, poB, saB⟩, nB_word, nB_condition, nB_bodies⟩
  have ND : DNo K cD := ⟨⟨pgD, hdD, poD, saD⟩, nD_kind, nD_many, nD_blocks⟩
  have menum := PySem.W.mg_none_of X G zenumerate
  have FE := fund_d (st := sBTI) (dvs := [V.non]) lE cE kE tE (by simp) (.cons rfl .nil)
  have oxT : OexC K cT := ⟨⟨nmT, qT, NT, bsT, _, snT, subT, abT, colT, ddT, m0T, m1T, m2T, m3T, m5T, xLT, rfl⟩, xsa, xb, xt, xk⟩
  let B : Bt K mg := ⟨cT, cH, PySem.W.mg_of X G rcT, PySem.W.mg_of X G rcH, oxT, ⟨xga, xgg, xb, xhd⟩, xnl, ⟨xrd, xrg⟩, xfc⟩
  have exT : ExcC K cT := ⟨xga, xgg, xb, xhd, xcc, oc2, oc3, xmm⟩
  have eTH : PySem.W.exmOne K (.ref cT) (.ref cH) = some true := PySem.W.exm_ref hH1 hH2 hH3 xTH
  have eTT : PySem.W.exmOne K (.ref cT) (.ref cT) = some true := PySem.W.exm_ref xb xhd xt xss
  refine ⟨PySem.W.fnOf "law" "law" (defArgs sLaw) (defBody sLaw) (defScope sLaw) .none kVLaw dcLaw pmLaw anLaw cdLaw ctLaw, fun s v => .of_eq rfl, fun base _ _ => ?_⟩
  let CFrom : Cal l.prog w K mg base 1 "is_integer_from" ["thing", "least"] (spFrom K) := ⟨_, _, ok_from FFrom T, bFrom, kFrom, PySem.W.mg_of X G aFrom⟩
  let CInt : Cal l.prog w K mg base 2 "is_integer_from_to" ["thing", "least", "greatest"] (spInt K) := ⟨_, _, ok_int FInt CFrom, bInt, kInt, PySem.W.mg_of X G aInt⟩
  let CTerm : Cal l.prog w K mg base 3 "is_term" ["thing"] (sp1 isTerm K) := ⟨_, _, ok_term FTerm T CInt, bTerm, kTerm, PySem.W.mg_of X G aTerm⟩
  let CCond : Cal l.prog w K mg base 4 "is_condition" ["thing"] (sp1 isCond K) := ⟨_, _, ok_cond FCond T CTerm, bCond, kCond, PySem.W.mg_of X G aCond⟩
  let CPart : Cal l.prog w K mg base 4 "is_part" ["thing", "role"] (spPart K) := ⟨_, _, ok_part FPart T CInt CTerm, bPart, kPart, PySem.W.mg_of X G aPart⟩
  let CWord : Cal l.prog w K mg base 1 "word_of" ["thing"] (spWord K) := ⟨_, _, ok_word FWord T, bWord, kWord, PySem.W.mg_of X G aWord⟩
  let CRoles : Cal l.prog w K mg base 1 "roles_of" ["word", "kind"] (spRoles K) := ⟨_, _, ok_roles FRoles D, bRoles, kRoles, PySem.W.mg_of X G aRoles⟩
  let CPlain : Cal l.prog w K mg base 5 "is_plain_statement" ["thing", "kind"] (sp2 isPlain K) := ⟨_, _, ok_plain FPlain T CWord CRoles CPart, bPlain, kPlain, PySem.W.mg_of X G aPlain⟩
  let CBag : Cal l.prog w K mg base 1 "_law_bag" ["_law_script", "_law_k"] (spBag K) := ⟨_, _, ok_bag FBag T T2, bBag, kBag, PySem.W.mg_of X G aBag⟩
  let CDraw : Cal l.prog w K mg base 1 "_law_draw" ["_law_bag_here", "_law_many"] spDraw := ⟨_, _, ok_draw FDraw, bDraw, kDraw, PySem.W.mg_of X G aDraw⟩
  let CTermL : Cal l.prog w K mg base 2 "_law_term" ["_law_bag_here"] (spTermL K) := ⟨_, _, ok_termL FTermL CDraw, bTermL, kTermL, PySem.W.mg_of X G aTermL⟩
  let CKind : Cal l.prog w K mg base 2 "_law_kind" ["_law_bag_here"] spKind := ⟨_, _, ok_kind FKind CDraw, bKind, kKind, PySem.W.mg_of X G aKind⟩
  let CLL : Cal l.prog w K mg base 6 "_law_lines" ["_law_body"] (spLL K 4) := ⟨_, _, recLL FLL bLL (PySem.W.mg_of X G aLL) T 4, bLL, kLL, PySem.W.mg_of X G aLL⟩
  let CText : Cal l.prog w K mg base 7 "_law_text" ["_law_program"] (spText K) := ⟨_, _, ok_text FText CLL, bText, kText, PySem.W.mg_of X G aText⟩
  let CDec : Cal l.prog w K mg base 1 "is_decimal" ["word", "most"] (spDec K) := ⟨_, _, ok_Dec FDec T, bDec, kDec, PySem.W.mg_of X G aDec⟩
  let CNW : Cal l.prog w K mg base 2 "number_or_word" ["word"] (spNW K) := ⟨_, _, ok_NW FNW T CDec, bNW, kNW, PySem.W.mg_of X G aNW⟩
  let CAP : Cal l.prog w K mg base 3 "ask_parts" ["words"] (spAP K) := ⟨_, _, ok_AP FAP T CNW, bAP, kAP, PySem.W.mg_of X G aAP⟩
  let CLP : Cal l.prog w K mg base 4 "line_parts" ["line"] (spLP K) := ⟨_, _, ok_LP FLP T D CNW CAP, bLP, kLP, PySem.W.mg_of X G aLP⟩
  let COpn : Cal l.prog w K mg base 5 "is_opening" ["parts"] (spOpn K) := ⟨_, _, ok_Opn FOpn T D CCond, bOpn, kOpn, PySem.W.mg_of X G aOpn⟩
  let CNum : Cal l.prog w K mg base 1 "_law_is_number" ["_law_text_here", "_law_least", "_law_most"] (spNum K) := ⟨_, _, ok_Num FNum T, bNum, kNum, PySem.W.mg_of X G aNum⟩
  let CWT : Cal l.prog w K mg base 2 "_law_is_written_term" ["_law_text_here"] (spWT K) := ⟨_, _, ok_WT FWT CNum, bWT, kWT, PySem.W.mg_of X G aWT⟩
  let CLn : Cal l.prog w K mg base 3 "_law_is_line" ["_law_kind_here", "_law_words"] (spLn K) := ⟨_, _, ok_Ln FLn T CNum CWT, bLn, kLn, PySem.W.mg_of X G aLn⟩
  let CBad : Cal l.prog w K mg base 4 "_law_bad_line" ["_law_lines_here"] (spBad K) := ⟨_, _, ok_Bad FBad T menum CLn, bBad, kBad, PySem.W.mg_of X G aBad⟩
  let CTow : Cal l.prog w K mg base 2 "_law_tower" ["_law_bag_here", "_law_deep", "_law_simple"] spTow := ⟨_, _, ok_Tow FTow T T2 CDraw, bTow, kTow, PySem.W.mg_of X G aTow⟩
  have GBI := ok_BI (P := l.prog) (w := w) (mg := mg) (base := base) FBI NB
  let MMB : MCl l.prog w K mg base 1 cB "may_branch" ["self"] (spMB K cB) := ⟨_, _, ok_MB FMB T NB, bMB, ⟨aMB, iMB, kMB⟩⟩
  let MME : MCl l.prog w K mg base 1 cB "may_end" ["self"] (spME K cB) := ⟨_, _, ok_ME FME T D NB, bME, ⟨aME, iME, kME⟩⟩
  let MAS : MCl l.prog w K mg base 2 cB "as_statement" ["self"] (spAS K cB) := ⟨_, _, ok_AS FAS T NB MMB, bAS, ⟨aAS, iAS, kAS⟩⟩
  let MDH : MCl l.prog w K mg base 1 cD "has_room" ["self"] (spDH K cD cB) := ⟨_, _, ok_DH FDH T ND, bDH, ⟨aDH, iDH, kDH⟩⟩
  let MDC : MCl l.prog w K mg base 1 cD "is_complete" ["self"] (spDC K cD cB) := ⟨_, _, ok_DC FDC T ND, bDC, ⟨aDC, iDC, kDC⟩⟩
  let MDP : MCl l.prog w K mg base 1 cD "as_program" ["self"] (spDP K cD cB) := ⟨_, _, ok_DP FDP T ND NB, bDP, ⟨aDP, iDP, kDP⟩⟩
  let MDA : MCl l.prog w K mg base 6 cD "allows" ["self", "parts"] (spDA K cD cB) := ⟨_, _, ok_DA FDA ND NB MME MMB MDH COpn CPlain, bDA, ⟨aDA, iDA, kDA⟩⟩
  let MDT : MCl l.prog w K mg base 6 cD "take" ["self", "parts"] (spDT K cD cB) := ⟨_, _, ok_DT FDT ND NB MAS COpn (PySem.W.mg_of X G ucB) ⟨mkB, aBI, iBI, kcB⟩ GBI bBI, bDT, ⟨aDT, iDT, kDT⟩⟩
  have GDI := ok_DI (P := l.prog) (w := w) (base := base) FDI ND (PySem.W.mg_of X G ucB) ⟨mkB, aBI, iBI, kcB⟩ GBI bBI
  have GE := ok_BTI (P := l.prog) (w := w) (base := base) FE B
  have GRX := ok_ReadX (P := l.prog) (w := w) (base := base) FRead T menum ND B xiE xtE GE (bti_b FE) (PySem.W.mg_of X G ucD) ⟨mkD, aDI, iDI, kcD⟩ GDI bDI CLP MDA MDT MDC MDP
  have GEN := ok_BTN (P := l.prog) (w := w) (base := base) FE B
  have GRN := ok_ReadN (P := l.prog) (w := w) (base := base) FRead T B xiE xtE GEN (bti_b FE)
  let CSa6 : Cal l.prog w K mg base 8 "_law_said" ["_law_text_here"] (spSa6 K) := ⟨_, _, ok_Sa6 FSa6 T B eTT (FnOk.or6 GRX GRN) bRead kRead (PySem.W.mg_of X G aRead), bSa6, kSa6, PySem.W.mg_of X G aSa6⟩
  exact ok_law FLaw T T2 CBag CKind CDraw CTermL CText CTow CBad CSa6
theorem walk {l : PySem.W.OpenLaw} {q : Program} {loose : List Str} {XP : (Str → Option Value) → Heap → Prop} {YP : World → Heap → Prop} {d : DefRec} {K : Params → PySem.W.Frag} (hn : l.most = some 63) (hdf : d.params.defaults = [])
    (hY : ∀ (w : World) (h : Heap), YP w h → (K w.params).In h)
    (F : ∀ (w : World) (mg : Str → Option Value) (fa : Addr) (h : Heap), (K w.params).In h → h.Ns mainGlobals mg → mg d.name = some (.ref fa) →
      ∃ fd : FuncData, (∀ (s : Shared) (u : Value), BindsTo s fd ⟨[u], []⟩ [("_law_script", u)]) ∧ ∀ base : Heap, (K w.params).In base → base.Ns mainGlobals mg → FnOk l.prog w (K w.params) mg base CX0 9 fa fd ["_law_script"] (spLaw (K w.params))) :
    PySem.W.WalkO q loose XP YP l.row.toRowW d [] (fun f vs => PySem.call f vs) :=
  L2.walk_of (n := 63) (k := 9) (x := "_law_script") (CX := fun _ => CX0) (sp := fun w => spLaw (K w.params)) hn (by decide) hdf ⟨rfl, by decide, by decide⟩ hY F (fun _ _ a ns hl _ hS => ⟨a, ns, rfl, hS, hl, fun _ => rfl⟩) fun _ _ _ _ _ z => z
end My
open PySem PySem.W PyProof.Rows
set_option maxRecDepth 100000 in
set_option maxHeartbeats 0 in
theorem PySem.Challenge.cw_neithertells_k06_texts_at_their_bounds_holds : PySem.Challenge.rw_neithertells_k06_texts_at_their_bounds.Holds := by
  w_on; o_law; k_head; (case hw => w_witness2)
  k_fill
  refine My.walk (l := PySem.Challenge.rw_neithertells_k06_texts_at_their_bounds) rfl rfl (fun w h Y => PySem.W.kIn_of Y) ?F
  case F =>
    intro w mg fa h KX G hmg
    refine' My.all_mk KX G hmg ?aFrom ?lFrom ?cFrom ?kFrom ?aInt ?lInt ?cInt ?kInt ?aTerm ?lTerm ?cTerm ?kTerm ?aCond ?lCond ?cCond ?kCond ?aPart ?lPart ?cPart ?kPart ?aWord ?lWord ?cWord ?kWord ?aRoles ?lRoles ?cRoles ?kRoles ?aPlain ?lPlain ?cPlain ?kPlain ?aDec ?lDec ?cDec ?kDec ?aNW ?lNW ?cNW ?kNW ?aAP ?lAP ?cAP ?kAP ?aLP ?lLP ?cLP ?kLP ?aOpn ?lOpn ?cOpn ?kOpn ?aRead ?lRead ?cRead ?kRead ?aBag ?lBag ?cBag ?kBag ?aDraw ?lDraw ?cDraw ?kDraw ?aTermL ?lTermL ?cTermL ?kTermL ?aKind ?lKind ?cKind ?kKind ?aLL ?lLL ?cLL ?kLL ?aText ?lText ?cText ?kText ?aNum ?lNum ?cNum ?kNum ?aWT ?lWT ?cWT ?kWT ?aLn ?lLn ?cLn ?kLn ?aBad ?lBad ?cBad ?kBad ?aSa6 ?lSa6 ?cSa6 ?kSa6 ?aTow ?lTow ?cTow ?kTow ?aLaw ?lLaw ?cLaw ?kLaw ?zisinstance ?zint ?zbool ?zstr ?ztuple ?zlen ?zzip ?zall ?zabs ?zmax ?zmin ?zrange ?zenumerate ?gG ?gL ?gS ?gD ?mV ?qV ?mC ?qC ?mA ?qA ?mK ?qK ?mB ?qB ?yB ?wB ?mSh ?qSh ?ySh ?wSh ?qSh0 ?qSh1 ?qSh2 ?mTe ?qTe ?yTe ?wTe ?qTe0 ?qTe1 ?mCo ?qCo ?yCo ?wCo ?qCo0 ?qCo1 ?ucB ?ucD ?aMB ?iMB ?lMB ?cMB ?kMB ?aME ?iME ?lME ?cME ?kME ?aAS ?iAS ?lAS ?cAS ?kAS ?aBI ?iBI ?lBI ?cBI ?kBI ?aDH ?iDH ?lDH ?cDH ?kDH ?aDC ?iDC ?lDC ?cDC ?kDC ?aDP ?iDP ?lDP ?cDP ?kDP ?aDA ?iDA ?lDA ?cDA ?kDA ?aDT ?iDT ?lDT ?cDT ?kDT ?aDI ?iDI ?lDI ?cDI ?kDI ?pgB ?hdB ?poB ?saB ?mkB ?kcB ?nB_word ?nB_condition ?nB_bodies ?pgD ?hdD ?poD ?saD ?mkD ?kcD ?nD_kind ?nD_many ?nD_blocks ?rcT ?rcH ?xLT ?xsa ?xga ?xgg ?xnl ?xb ?xt ?xk ?xhd ?xrd ?xrg ?xfc ?xiE ?xtE ?lE ?cE ?kE ?tE ?hH1 ?hH2 ?hH3 ?xTH ?xss ?xcc ?xmm ?oc2 ?oc3
    (case aFrom => k_is)
    (case lFrom => k_is)
    (case cFrom => k_is)
    (case kFrom => k_is)
    (case aInt => k_is)
    (case lInt => k_is)
    (case cInt => k_is)
    (case kInt => k_is)
    (case aTerm => k_is)
    (case lTerm => k_is)
    (case cTerm => k_is)
    (case kTerm => k_is)
    (case aCond => k_is)
    (case lCond => k_is)
    (case cCond => k_is)
    (case kCond => k_is)
    (case aPart => k_is)
    (case lPart => k_is)
    (case cPart => k_is)
    (case kPart => k_is)
    (case aWord => k_is)
    (case lWord => k_is)
    (case cWord => k_is)
    (case kWord => k_is)
    (case aRoles => k_is)
    (case lRoles => k_is)
    (case cRoles => k_is)
    (case kRoles => k_is)
    (case aPlain => k_is)
    (case lPlain => k_is)
    (case cPlain => k_is)
    (case kPlain => k_is)
    (case aDec => k_is)
    (case lDec => k_is)
    (case cDec => k_is)
    (case kDec => k_is)
    (case aNW => k_is)
    (case lNW => k_is)
    (case cNW => k_is)
    (case kNW => k_is)
    (case aAP => k_is)
    (case lAP => k_is)
    (case cAP => k_is)
    (case kAP => k_is)
    (case aLP => k_is)
    (case lLP => k_is)
    (case cLP => k_is)
    (case kLP => k_is)
    (case aOpn => k_is)
    (case lOpn => k_is)
    (case cOpn => k_is)
    (case kOpn => k_is)
    (case aRead => k_is)
    (case lRead => k_is)
    (case cRead => k_is)
    (case kRead => k_is)
    (case aBag => k_is)
    (case lBag => k_is)
    (case cBag => k_is)
    (case kBag => k_is)
    (case aDraw => k_is)
    (case lDraw => k_is)
    (case cDraw => k_is)
    (case kDraw => k_is)
    (case aTermL => k_is)
    (case lTermL => k_is)
    (case cTermL => k_is)
    (case kTermL => k_is)
    (case aKind => k_is)
    (case lKind => k_is)
    (case cKind => k_is)
    (case kKind => k_is)
    (case aLL => k_is)
    (case lLL => k_is)
    (case cLL => k_is)
    (case kLL => k_is)
    (case aText => k_is)
    (case lText => k_is)
    (case cText => k_is)
    (case kText => k_is)
    (case aNum => k_is)
    (case lNum => k_is)
    (case cNum => k_is)
    (case kNum => k_is)
    (case aWT => k_is)
    (case lWT => k_is)
    (case cWT => k_is)
    (case kWT => k_is)
    (case aLn => k_is)
    (case lLn => k_is)
    (case cLn => k_is)
    (case kLn => k_is)
    (case aBad => k_is)
    (case lBad => k_is)
    (case cBad => k_is)
    (case kBad => k_is)
    (case aSa6 => k_is)
    (case lSa6 => k_is)
    (case cSa6 => k_is)
    (case kSa6 => k_is)
    (case aTow => k_is)
    (case lTow => k_is)
    (case cTow => k_is)
    (case kTow => k_is)
    (case aLaw => k_is)
    (case lLaw => k_is)
    (case cLaw => k_is)
    (case kLaw => k_is)
    (case zisinstance => k_is)
    (case zint => k_is)
    (case zbool => k_is)
    (case zstr => k_is)
    (case ztuple => k_is)
    (case zlen => k_is)
    (case zzip => k_is)
    (case zall => k_is)
    (case zabs => k_is)
    (case zmax => k_is)
    (case zmin => k_is)
    (case zrange => k_is)
    (case zenumerate => k_is)
    (case gG => k_is)
    (case gL => k_is)
    (case gS => k_is)
    (case gD => k_is)
    (case mV => k_is)
    (case qV => k_is)
    (case mC => k_is)
    (case qC => k_is)
    (case mA => k_is)
    (case qA => k_is)
    (case mK => k_is)
    (case qK => k_is)
    (case mB => k_is)
    (case qB => k_is)
    (case yB => first | k_is | (simp [PySem.W.KeysLit]))
    (case wB => first | rfl | decide | k_is)
    (case mSh => k_is)
    (case qSh => k_is)
    (case ySh => first | k_is | (simp [PySem.W.KeysLit]))
    (case wSh => first | rfl | decide | k_is)
    (case qSh0 => k_is)
    (case qSh1 => k_is)
    (case qSh2 => k_is)
    (case mTe => k_is)
    (case qTe => k_is)
    (case yTe => first | k_is | (simp [PySem.W.KeysLit]))
    (case wTe => first | rfl | decide | k_is)
    (case qTe0 => k_is)
    (case qTe1 => k_is)
    (case mCo => k_is)
    (case qCo => k_is)
    (case yCo => first | k_is | (simp [PySem.W.KeysLit]))
    (case wCo => first | rfl | decide | k_is)
    (case qCo0 => k_is)
    (case qCo1 => k_is)
    (case ucB => k_is)
    (case ucD => k_is)
    (case aMB => k_is)
    (case iMB => k_is)
    (case lMB => k_is)
    (case cMB => k_is)
    (case kMB => k_is)
    (case aME => k_is)
    (case iME => k_is)
    (case lME => k_is)
    (case cME => k_is)
    (case kME => k_is)
    (case aAS => k_is)
    (case iAS => k_is)
    (case lAS => k_is)
    (case cAS => k_is)
    (case kAS => k_is)
    (case aBI => k_is)
    (case iBI => k_is)
    (case lBI => k_is)
    (case cBI => k_is)
    (case kBI => k_is)
    (case aDH => k_is)
    (case iDH => k_is)
    (case lDH => k_is)
    (case cDH => k_is)
    (case kDH => k_is)
    (case aDC => k_is)
    (case iDC => k_is)
    (case lDC => k_is)
    (case cDC => k_is)
    (case kDC => k_is)
    (case aDP => k_is)
    (case iDP => k_is)
    (case lDP => k_is)
    (case cDP => k_is)
    (case kDP => k_is)
    (case aDA => k_is)
    (case iDA => k_is)
    (case lDA => k_is)
    (case cDA => k_is)
    (case kDA => k_is)
    (case aDT => k_is)
    (case iDT => k_is)
    (case lDT => k_is)
    (case cDT => k_is)
    (case kDT => k_is)
    (case aDI => k_is)
    (case iDI => k_is)
    (case lDI => k_is)
    (case cDI => k_is)
    (case kDI => k_is)
    (case pgB => k_is)
    (case hdB => k_is)
    (case poB => k_is)
    (case saB => k_is)
    (case mkB => k_is)
    (case kcB => k_is)
    (case nB_word => k_is)
    (case nB_condition => k_is)
    (case nB_bodies => k_is)
    (case pgD => k_is)
    (case hdD => k_is)
    (case poD => k_is)
    (case saD => k_is)
    (case mkD => k_is)
    (case kcD => k_is)
    (case nD_kind => k_is)
    (case nD_many => k_is)
    (case nD_blocks => k_is)
    (case rcT => k_is)
    (case rcH => k_is)
    (case xLT => k_is)
    (case xsa => k_is)
    (case xga => k_is)
    (case xgg => k_is)
    (case xnl => k_is)
    (case xb => k_is)
    (case xt => k_is)
    (case xk => k_is)
    (case xhd => k_is)
    (case xrd => k_is)
    (case xrg => k_is)
    (case xfc => k_is)
    (case xiE => k_is)
    (case xtE => k_is)
    (case lE => k_is)
    (case cE => k_is)
    (case kE => k_is)
    (case tE => k_is)
    (case hH1 => k_is)
    (case hH2 => k_is)
    (case hH3 => k_is)
    (case xTH => k_is)
    (case xss => k_is)
    (case xcc => k_is)
    (case xmm => k_is)
    (case oc2 => k_is)
    (case oc3 => k_is)


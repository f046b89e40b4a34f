import PyProof.Rows.All
import Wide.All
import OpenK.AllK
import Wide.FinOn
import KE.RegKIsAll
import KE.KExcIs
import KE.KOpsOwn
import KE.KCallOwn
import KE.GoesEnum
import KE.GoesMore
import HandS.ForSpec
import HandS.ExcInit
import HandS.ExcField
import HandS.IsInst
import HandS.Style
import HandS.Evl
import HandS.OwnEq
import HandS.Wide
import HandS.Defaults
import HandS.Comp
import HandS.Conv
import HandS.Walk
import HandS.WideBits
import HandS.TupAny
import HandS.Zip
import HandS.Star
import HandS.SetFor
import HandS.ClsMeth
import HandS.TryOnly
import HandS.TryMany
import HandS.Gcd
import HandS.OwnEq
import HandS.IterNext
import HandS.IterVal
import HandS.TupMul
import KE.KOwnIter
import PySem.Challenge.RW_copyvotes_k14_chances
set_option Elab.async false
set_option linter.all false
set_option maxRecDepth 100000
set_option maxHeartbeats 4000000

namespace Cv
open PySem PySem.Spec PyProof.Rows L2
def topS (i : Nat) : Stmt := PySem.Challenge.pw_copyvotes_k14_chances.main.body.getD i (.Pass ⟨0, 0, 0, 0⟩)
abbrev s_BadNumber_init : Stmt := inClass (topS 4) 0
theorem sc_BadNumber_init : FnScope ["self", "what", "value"] ["self", "what", "value"] (defScope s_BadNumber_init) := ⟨rfl, rfl, rfl, by decide +kernel, rfl, by decide +kernel, by decide +kernel⟩
abbrev s_is_integer : Stmt := topS 7
theorem sc_is_integer : FnScope ["value"] ["value"] (defScope s_is_integer) := ⟨rfl, rfl, rfl, by decide +kernel, rfl, by decide +kernel, by decide +kernel⟩
abbrev s_check_number : Stmt := topS 8
theorem sc_check_number : FnScope ["what", "value", "low", "high"] ["what", "value", "low", "high"] (defScope s_check_number) := ⟨rfl, rfl, rfl, by decide +kernel, rfl, by decide +kernel, by decide +kernel⟩
abbrev s_check_copies : Stmt := topS 11
theorem sc_check_copies : FnScope ["copies"] ["copies"] (defScope s_check_copies) := ⟨rfl, rfl, rfl, by decide +kernel, rfl, by decide +kernel, by decide +kernel⟩
abbrev s_check_copy : Stmt := topS 12
theorem sc_check_copy : FnScope ["copies", "copy"] ["copies", "copy"] (defScope s_check_copy) := ⟨rfl, rfl, rfl, by decide +kernel, rfl, by decide +kernel, by decide +kernel⟩
abbrev s_Ratio_init : Stmt := inClass (topS 16) 0
theorem sc_Ratio_init : FnScope ["self", "over", "under", "divisor"] ["self", "over", "under"] (defScope s_Ratio_init) := ⟨rfl, rfl, rfl, by decide +kernel, rfl, by decide +kernel, by decide +kernel⟩
abbrev s_ratio_of : Stmt := topS 17
theorem sc_ratio_of : FnScope ["value"] ["value"] (defScope s_ratio_of) := ⟨rfl, rfl, rfl, by decide +kernel, rfl, by decide +kernel, by decide +kernel⟩
abbrev s_Ratio_eq : Stmt := inClass (topS 16) 1
theorem sc_Ratio_eq : FnScope ["self", "other"] ["self", "other"] (defScope s_Ratio_eq) := ⟨rfl, rfl, rfl, by decide +kernel, rfl, by decide +kernel, by decide +kernel⟩
abbrev s_Ratio_lt : Stmt := inClass (topS 16) 2
theorem sc_Ratio_lt : FnScope ["self", "other", "right"] ["self", "other"] (defScope s_Ratio_lt) := ⟨rfl, rfl, rfl, by decide +kernel, rfl, by decide +kernel, by decide +kernel⟩
abbrev s_Ratio_ge : Stmt := inClass (topS 16) 5
theorem sc_Ratio_ge : FnScope ["self", "other", "right"] ["self", "other"] (defScope s_Ratio_ge) := ⟨rfl, rfl, rfl, by decide +kernel, rfl, by decide +kernel, by decide +kernel⟩
abbrev s_Ratio_half : Stmt := inClass (topS 16) 14
theorem sc_Ratio_half : FnScope [] [] (defScope s_Ratio_half) := ⟨rfl, rfl, rfl, by decide +kernel, rfl, by decide +kernel, by decide +kernel⟩
abbrev s_is_short : Stmt := topS 21
theorem sc_is_short : FnScope ["value"] ["value"] (defScope s_is_short) := ⟨rfl, rfl, rfl, by decide +kernel, rfl, by decide +kernel, by decide +kernel⟩
abbrev s_check_chance : Stmt := topS 22
theorem sc_check_chance : FnScope ["chance"] ["chance"] (defScope s_check_chance) := ⟨rfl, rfl, rfl, by decide +kernel, rfl, by decide +kernel, by decide +kernel⟩
abbrev s_scale_of : Stmt := topS 23
theorem sc_scale_of : FnScope ["ratios", "scale", "ratio"] ["ratios"] (defScope s_scale_of) := ⟨rfl, rfl, rfl, by decide +kernel, rfl, by decide +kernel, by decide +kernel⟩
abbrev s_counts_of : Stmt := topS 24
theorem sc_counts_of : FnScope ["ratios", "counts", "ratio", "down", "count"] ["ratios"] (defScope s_counts_of) := ⟨rfl, rfl, rfl, by decide +kernel, rfl, by decide +kernel, by decide +kernel⟩
abbrev s_Chances_init : Stmt := inClass (topS 20) 0
theorem bs_Chances_init (kV doc pm : Value) (an : Option Addr) (cdv ct : Value) : ∀ us rest : List Value, us.length = (["self"] : List Str).length → bindArgs (PySem.W.fnOf "__init__" "Chances.__init__" (defArgs s_Chances_init) (defBody s_Chances_init) (defScope s_Chances_init) .none kV doc pm an cdv ct) ⟨us ++ rest, []⟩ = (newTuple rest >>= fun t => pure ((["self"] : List Str).zip us ++ [(("chances" : Str), t)])) := StX.bind_star1 (B := fun z => bindArgs (PySem.W.fnOf "__init__" "Chances.__init__" (defArgs s_Chances_init) (defBody s_Chances_init) (defScope s_Chances_init) .none kV doc pm an cdv ct) ⟨z, []⟩) (fun a => rfl) (fun a r rs => rfl)
theorem sc_Chances_init : FnScope ["self", "chances", "chance"] ["self", "chances"] (defScope s_Chances_init) := ⟨rfl, rfl, rfl, by decide +kernel, rfl, by decide +kernel, by decide +kernel⟩
abbrev s_Chances_eq : Stmt := inClass (topS 20) 1
theorem sc_Chances_eq : FnScope ["self", "other"] ["self", "other"] (defScope s_Chances_eq) := ⟨rfl, rfl, rfl, by decide +kernel, rfl, by decide +kernel, by decide +kernel⟩
abbrev s_Chances_add : Stmt := inClass (topS 20) 2
theorem sc_Chances_add : FnScope ["self", "other", "ratios"] ["self", "other"] (defScope s_Chances_add) := ⟨rfl, rfl, rfl, by decide +kernel, rfl, by decide +kernel, by decide +kernel⟩
abbrev s_Chances_getitem : Stmt := inClass (topS 20) 3
theorem sc_Chances_getitem : FnScope ["self", "at"] ["self", "at"] (defScope s_Chances_getitem) := ⟨rfl, rfl, rfl, by decide +kernel, rfl, by decide +kernel, by decide +kernel⟩
abbrev s_Chances_len : Stmt := inClass (topS 20) 4
theorem sc_Chances_len : FnScope ["self"] ["self"] (defScope s_Chances_len) := ⟨rfl, rfl, rfl, by decide +kernel, rfl, by decide +kernel, by decide +kernel⟩
abbrev s_Chances_iter : Stmt := inClass (topS 20) 5
theorem sc_Chances_iter : FnScope ["self"] ["self"] (defScope s_Chances_iter) := ⟨rfl, rfl, rfl, by decide +kernel, rfl, by decide +kernel, by decide +kernel⟩
abbrev s_Chances_with_chance : Stmt := inClass (topS 20) 6
theorem sc_Chances_with_chance : FnScope ["self", "copy", "chance", "ratios"] ["self", "copy", "chance"] (defScope s_Chances_with_chance) := ⟨rfl, rfl, rfl, by decide +kernel, rfl, by decide +kernel, by decide +kernel⟩
abbrev s_l_start : Stmt := topS 26
theorem sc_l_start : FnScope ["_law_script", "_law_first"] ["_law_script"] (defScope s_l_start) := ⟨rfl, rfl, rfl, by decide +kernel, rfl, by decide +kernel, by decide +kernel⟩
abbrev s_l_draw : Stmt := topS 27
theorem sc_l_draw : FnScope ["_law_script", "_law_state", "_law_limit", "_law_number", "_law_cell", "_law_mixed"] ["_law_script", "_law_state", "_law_limit"] (defScope s_l_draw) := ⟨rfl, rfl, rfl, by decide +kernel, rfl, by decide +kernel, by decide +kernel⟩
abbrev s_l_chance : Stmt := topS 32
theorem sc_l_chance : FnScope ["_law_script", "_law_state", "_law_under", "_law_low"] ["_law_script", "_law_state"] (defScope s_l_chance) := ⟨rfl, rfl, rfl, by decide +kernel, rfl, by decide +kernel, by decide +kernel⟩
abbrev s_l_chances : Stmt := topS 34
theorem sc_l_chances : FnScope ["_law_pairs", "_law_made", "_law_over", "_law_under"] ["_law_pairs"] (defScope s_l_chances) := ⟨rfl, rfl, rfl, by decide +kernel, rfl, by decide +kernel, by decide +kernel⟩
abbrev s_l_told : Stmt := topS 36
theorem sc_l_told : FnScope ["_law_kind", "_law_one", "_law_first", "_law_second", "e"] ["_law_kind", "_law_one", "_law_first", "_law_second"] (defScope s_l_told) := ⟨rfl, rfl, rfl, by decide +kernel, rfl, by decide +kernel, by decide +kernel⟩
abbrev s_l_wrong : Stmt := topS 37
theorem sc_l_wrong : FnScope ["_law_script", "_law_state", "_law_odd"] ["_law_script", "_law_state"] (defScope s_l_wrong) := ⟨rfl, rfl, rfl, by decide +kernel, rfl, by decide +kernel, by decide +kernel⟩
abbrev s_law : Stmt := topS 38
theorem sc_law : FnScope ["_law_script", "_law_state", "_law_pairs", "_law_k", "_law_made", "_law_ratios", "_law_over", "_law_under", "_law_ratio", "_law_copy", "_law_odd", "_law_good", "_law_first", "_law_changed", "_law_place", "_law_many", "_law_more", "_law_joined"] ["_law_script"] (defScope s_law) := ⟨rfl, rfl, rfl, by decide +kernel, rfl, by decide +kernel, by decide +kernel⟩
/-! ## What every law's text wants: heaps, exceptions, the draws -/
theorem same_upd {H : Hp} {p : Addr} {o : HO} (h : H p = none) : Same H (upd H p o) := fun b x e => by
  rw [upd_ne (ne_of_none e h)]
  exact e
theorem same_upd2 {H H' : Hp} {p : Addr} {o : HO} (e : Same H H') (h : H p = none) : Same H (upd H' p o) := fun b x k => by
  rw [upd_ne (ne_of_none k h)]
  exact e b x k
/-- an except clause that names an own class -/
theorem exm_own {K : PySem.W.Frag} {cls : Value} {S : Addr} {b : Bool} (h1 : PySem.W.subIn K (.ref S) (.type "BaseException") = some true) (h2 : PySem.W.isClsIn K S = true) (h3 : PySem.W.typeIn K (.ref S) = some (.type "type")) (h4 : PySem.W.subIn K cls (.ref S) = some b) :
    PySem.W.exmOne K cls (.ref S) = some b := by
  have e1 : (PySem.W.subIn K (.ref S) (.type "BaseException") == some true) = true := by rw [h1] <;> rfl
  have e2 : ((PySem.W.clsIn K S).isSome && PySem.W.typeIn K (.ref S) == some (.type "type")) = true := by
    have h2' : (PySem.W.clsIn K S).isSome = true := h2
    rw [h2', h3] <;> rfl
  show (if (PySem.W.subIn K (.ref S) (.type "BaseException") == some true) = true then (if ((PySem.W.clsIn K S).isSome && PySem.W.typeIn K (.ref S) == some (.type "type")) = true then PySem.W.subIn K cls (.ref S) else none) else none) = some b
  rw [if_pos e1, if_pos e2]
  exact h4
/-- what isinstance asks of an own exception class -/
structure XiC (K : PySem.W.Frag) (C : Addr) : Prop where
  cl : PySem.W.isClsIn K C = true
  ga : PySem.W.findIn K (.ref C) "__getattribute__" = some (some (.builtin "BaseException.__getattribute__"))
  gg : PySem.W.findIn K (.ref C) "__getattr__" = some none
  sb : PySem.W.subIn K (.ref C) (.type "BaseException") = some true
  ha : PySem.W.findIn K (.ref C) "__class__" = some (some (.builtin "object.__class__"))
  hn : PySem.W.specialIn K (.builtin "object.__class__") "__get__" = some (some (.builtin "getset_descriptor.__get__"))
  ht : PySem.W.takesIn K (.builtin "object.__class__") = some true
  hm : PySem.W.mroIn K C (.type "object") = some true
/-- isinstance(e, c) within the suite that holds e, an error with its own dict -/
def rIsX (K : PySem.W.Frag) (a C : Addr) (cls : Value) (d : Option Addr) : List V → Hp → VK → Prop := fun xs H Q => ∃ (c : V) (cv : Value) (b : Bool) (dd : Addr) (fs : List (Str × V)), xs = [.ref a, c] ∧ cls = .ref C ∧ d = some dd ∧ H dd = some (.xd fs) ∧ ClsV c cv ∧ PySem.W.kitOne K (.ref C) cv = some b ∧ Q (.bl b) H
theorem call_isX {X : Cx} {a C : Addr} {oe : Obj} {cls : Value} {d : Option Addr} {pn : List (Addr × Obj)} (T : XiC X.K C) (hz : Zc cls d oe) (hf : ∃ vs, oe.data = .fields vs) : CallR (X.suite a ((a, oe) :: pn)) (.builtin "isinstance") (rIsX X.K a C cls d) := by
  intro pins s σ H xs us Q I r h
  obtain ⟨c, cv, b, dd, fs, rfl, rfl, rfl, ea, hcv, e, q⟩ := h
  obtain ⟨u1, u2, rfl, r1, r2⟩ := vals2 r
  cases (show u1 = Value.ref a from r1)
  have ec := hcv.eq r2
  subst ec
  obtain ⟨ha, _⟩ := I.pin (a, oe) (List.mem_append_left _ List.mem_cons_self)
  obtain ⟨vs, hd⟩ := hf
  have hx : ObjOk X.prog X.w H s.heap dd (.xd fs) := I.hok dd _ ea
  obtain ⟨mA, hns, hr⟩ := hx
  obtain ⟨od, ho, hl⟩ := lookIn_ns hns
  have J : PySem.W.InstAt s.heap a oe C (some od) := ⟨ha, hz.1, by unfold PySem.W.notCls; rw [hd] <;> rfl, by rw [hz.2]; exact ho⟩
  exact PySem.W.kia_one (PySem.W.kitx_exc T.cl T.ga T.gg T.sb T.ha T.hn T.ht T.hm) I.kIn J e (fun z => nomatch z) fun tk => ⟨.bl b, H, I.kept (t' := tk) fun _ _ z => z, rfl, q⟩
/-! ### the state of the draws -/
def St4 (H : Hp) (t : Addr) : Prop := ∃ a b c d : Int, H t = some (.lst [.int a, .int b, .int c, .int d])
/-- H0: the heap of old, t: the state's list, l: the script -/
structure Drw (K : PySem.W.Frag) (H0 : Hp) (l t : Addr) (H : Hp) : Prop where
  scr : ∃ ns : List Int, SqL K H0 l (ns.map V.int)
  new : H0 t = none
  same : Same H0 H
  st : St4 H t
theorem Drw.sc {K : PySem.W.Frag} {H0 H : Hp} {l t : Addr} (D : Drw K H0 l t H) : ∃ ns : List Int, SqL K H l (ns.map V.int) := by
  obtain ⟨ns, h⟩ := D.scr
  exact ⟨ns, D.same.seq h⟩
theorem Drw.upd {K : PySem.W.Frag} {H0 H : Hp} {l t : Addr} {a b c d : Int} (D : Drw K H0 l t H) : Drw K H0 l t (upd H t (.lst [.int a, .int b, .int c, .int d])) :=
  ⟨D.scr, D.new, same_upd2 D.same D.new, ⟨a, b, c, d, upd_same⟩⟩
theorem Drw.mono {K : PySem.W.Frag} {H0 H H' : Hp} {l t : Addr} (D : Drw K H0 l t H) (e : Same H H') : Drw K H0 l t H' := by
  obtain ⟨a, b, c, d, h⟩ := D.st
  exact ⟨D.scr, D.new, D.same.trans e, ⟨a, b, c, d, e _ _ h⟩⟩
/-- all but what stands at t -/
def But (t : Addr) (H H' : Hp) : Prop := ∀ b, b ≠ t → H' b = H b
theorem But.refl {t : Addr} {H : Hp} : But t H H := fun _ _ => rfl
theorem But.trans {t : Addr} {H H1 H2 : Hp} (a : But t H H1) (b : But t H1 H2) : But t H H2 := fun c h => (b c h).trans (a c h)
theorem But.upd {t : Addr} {H H1 : Hp} {o : HO} (a : But t H H1) : But t H (upd H1 t o) := fun c h => (upd_ne h).trans (a c h)
def spStart (K : PySem.W.Frag) : Sp := fun vs H Q _ => ∃ (l : Addr) (ns : List Int), vs = [.ref l] ∧ SqL K H l (ns.map V.int) ∧ ∀ t H', H t = none → Drw K H l t H' → But t H H' → Q (.ref t) H'
def spDraw (K : PySem.W.Frag) : Sp := fun vs H Q _ => ∃ (l t : Addr) (m : Int) (H0 : Hp), vs = [.ref l, .ref t, .int m] ∧ Drw K H0 l t H ∧ 0 < m ∧ m < 1073741824 ∧ ∀ (v : Int) H', 0 ≤ v → v < m → But t H H' → Drw K H0 l t H' → Q (.int v) H'
theorem at0 {a b c d : V} : atI [a, b, c, d] 0 = some a := rfl
theorem at1 {a b c d : V} : atI [a, b, c, d] 1 = some b := rfl
theorem at2 {a b c d : V} : atI [a, b, c, d] 2 = some c := rfl
theorem at3 {a b c d : V} : atI [a, b, c, d] 3 = some d := rfl
/-- the plain steps of a reading -/
local macro_rules | `(tactic| walk_at "rd") => `(tactic| repeat (first | refine ⟨_, rfl, ?_⟩ | refine ⟨_, _, rfl, rfl, ?_⟩ | refine ⟨⟨by decide, by decide⟩, ?_⟩ | refine ⟨⟨by decide, by decide, by decide⟩, ?_⟩ | refine ⟨show (0 : Int) < _ by decide, ?_⟩))
/-! ### data, errors, numbers -/
theorem Same.seqT {K : PySem.W.Frag} {H H' : Hp} {a : Addr} {xs : List V} (e : Same H H') (h : SqT K H a xs) : SqT K H' a xs := by
  rcases h with (h | ⟨o, h⟩) | h
  · exact .inl (.inl (e _ _ h))
  · exact .inl (.inr ⟨o, e _ _ h⟩)
  · exact .inr h
mutual
theorem dp_same {K : PySem.W.Frag} {H H' : Hp} (e : Same H H') : ∀ {v : V} {d : PyData}, Dp K H v d → Dp K H' v d
  | _, _, .non => .non
  | _, _, .bl b => .bl b
  | _, _, .int i => .int i
  | _, _, .str x => .str x
  | _, _, .lst h a => .lst (e.seq h) (dps_same e a)
  | _, _, .tup h a => .tup (Same.seqT e h) (dps_same e a)
theorem dps_same {K : PySem.W.Frag} {H H' : Hp} (e : Same H H') : ∀ {vs : List V} {ds : List PyData}, DpAll K H vs ds → DpAll K H' vs ds
  | _, _, .nil => .nil
  | _, _, .cons h a => .cons (dp_same e h) (dps_same e a)
end
theorem ne_self {d : PyData} (h : SeqAt.shaped d = true) : (!PyData.eqv d d) = false := by
  rw [SeqAt.eqv_refl d (SeqAt.canLay_of_shaped h)] <;> rfl
theorem eq_self {d : PyData} (h : SeqAt.shaped d = true) : PyData.eqv d d = true := SeqAt.eqv_refl d (SeqAt.canLay_of_shaped h)
/-- an error of two fields, being made -/
def spX2 (C : Addr) (f1 f2 : Str) : Sp := fun vs H Q _ => ∃ (a : Addr) (x y : V), vs = [.ref a, x, y] ∧ H a = some (exo a C none) ∧
  ∀ d, H d = none → d ≠ a → Q .non (upd (upd (upd H d (exd d [(f1, x)])) a (exo a C (some d))) d (exd d [(f2, y), (f1, x)]))
theorem mk2 {C : Addr} {f1 f2 : Str} {H1 : Hp} {x y : V} {Q : XK} (h : ∀ d H', H1 d = none → Same H1 H' → H' d = some (.xd [(f2, y), (f1, x)]) → Q (.ref C) (some d) H') :
    ([x, y] : List V).length ≤ 1000 ∧ ∀ a, H1 a = none → spX2 C f1 f2 (.ref a :: ([x, y] ++ [])) (upd H1 a (exo a C none)) (fun v H2 => v = .non ∧ ∃ (d : Addr) (fs : List (Str × V)), H2 a = some (exo a C (some d)) ∧ H2 d = some (exd d fs) ∧ H1 d = none ∧ Q (.ref C) (some d) (upd (del H2 a) d (.xd fs))) (fun _ _ _ => False) := by
  refine ⟨by show 2 ≤ 1000; decide, fun a ha => ⟨a, x, y, rfl, upd_same, fun d hd hda => ⟨rfl, d, _, ?_, upd_same, ?_, ?_⟩⟩⟩
  · rw [upd_ne (Ne.symm hda), upd_same]
  · rw [upd_ne hda] at hd
    exact hd
  · have hd1 : H1 d = none := by
      rw [upd_ne hda] at hd
      exact hd
    refine h d _ hd1 (fun b o e => ?_) upd_same
    have hba : b ≠ a := ne_of_none e ha
    have hbd : b ≠ d := ne_of_none e hd1
    rw [upd_ne hbd, del_ne hba, upd_ne hbd, upd_ne hba, upd_ne hbd, upd_ne hba]
    exact e
/-- what is an integer -/
def isInt : V → Bool
  | .int _ => true
  | _ => false
/-- a value that isinstance can ask -/
def Kn (K : PySem.W.Frag) (H : Hp) (x : V) : Prop := ∃ t b1 b2, TyX K H x t ∧ PySem.W.kitOne K t (.type "int") = some b1 ∧ (b1 = true → PySem.W.kitOne K t (.type "bool") = some b2) ∧ (b1 && !b2) = isInt x
theorem kn_int {K : PySem.W.Frag} {H : Hp} (i : Int) : Kn K H (.int i) := ⟨_, true, false, .base (.int i), kit_ty (by decide +kernel), fun _ => kit_ty (by decide +kernel), rfl⟩
theorem kn_bl {K : PySem.W.Frag} {H : Hp} (b : Bool) : Kn K H (.bl b) := ⟨_, true, true, .base (.bl b), kit_ty (by decide +kernel), fun _ => kit_ty (by decide +kernel), rfl⟩
theorem kn_non {K : PySem.W.Frag} {H : Hp} : Kn K H .non := ⟨_, false, false, .base .non, kit_ty (by decide +kernel), fun z => (nomatch z), rfl⟩
theorem kn_str {K : PySem.W.Frag} {H : Hp} (x : Str) : Kn K H (.str x) := ⟨_, false, false, .base (.str x), kit_ty (by decide +kernel), fun z => (nomatch z), rfl⟩
theorem kn_tup {K : PySem.W.Frag} {H : Hp} {a : Addr} {xs : List V} (e : H a = some (.tup xs)) : Kn K H (.ref a) := ⟨_, false, false, .base (.tup e), kit_ty (by decide +kernel), fun z => (nomatch z), rfl⟩
def spIsInt (K : PySem.W.Frag) : Sp := fun vs H Q _ => ∃ x, vs = [x] ∧ Kn K H x ∧ Q (.bl (isInt x)) H
def oV : Option Int → V
  | none => .non
  | some i => .int i
/-- within the bounds -/
def good (x : V) (lo hi : Option Int) : Bool := match x with
  | .int i => lo.all (fun l => decide (l ≤ i)) && hi.all (fun h => decide (i ≤ h))
  | _ => false
def spCheck (K : PySem.W.Frag) (C : Addr) : Sp := fun vs H Q E => ∃ (w : Str) (x : V) (lo hi : Option Int), vs = [.str w, x, oV lo, oV hi] ∧ Kn K H x ∧ (good x lo hi = true → Q x H) ∧
  (good x lo hi = false → ∀ d H', H d = none → Same H H' → H' d = some (.xd [("value", x), ("what", .str w)]) → E (.ref C) (some d) H')
/-- subscripts whose written part is named (within a comprehension) -/
theorem ixK_list {X : Cx} {K : PySem.W.Frag} (h : X.K = K) : IxR X (rIxL K) := h ▸ ix_list
theorem ixK_tup {X : Cx} {K : PySem.W.Frag} (h : X.K = K) : IxR X (rIxT K) := h ▸ ix_tup
/-- a field, the written part named (within a try) -/
theorem pe_fldK {X : Cx} {K : PySem.W.Frag} {e : Expr} {f : Str} {pos : Pos} {ta : TE} (h : X.K = K) (he : PE X e ta) (hb : attributeBase e f X.env (eval e X.env) = eval e X.env) : PE X (.Attribute e f pos) (tFld K ta f) := h ▸ pe_fld he hb
/-! ### own exceptions of one field, and of none -/
def spX1 (C : Addr) (f1 : Str) : Sp := fun vs H Q _ => ∃ (a : Addr) (x : V), vs = [.ref a, x] ∧ H a = some (exo a C none) ∧ ∀ d, H d = none → d ≠ a → Q .non (upd (upd H d (exd d [(f1, x)])) a (exo a C (some d)))
theorem mk1 {C : Addr} {f1 : Str} {H1 : Hp} {x : V} {Q : XK} (h : ∀ d H', H1 d = none → Same H1 H' → H' d = some (.xd [(f1, x)]) → Q (.ref C) (some d) H') :
    ([x] : List V).length ≤ 1000 ∧ ∀ a, H1 a = none → spX1 C f1 (.ref a :: ([x] ++ [])) (upd H1 a (exo a C none)) (fun v H2 => v = .non ∧ ∃ (d : Addr) (fs : List (Str × V)), H2 a = some (exo a C (some d)) ∧ H2 d = some (exd d fs) ∧ H1 d = none ∧ Q (.ref C) (some d) (upd (del H2 a) d (.xd fs))) (fun _ _ _ => False) := by
  refine ⟨by show 1 ≤ 1000; decide, fun a ha => ⟨a, x, rfl, upd_same, fun d hd hda => ⟨rfl, d, _, upd_same, (upd_ne hda).trans upd_same, ?_, ?_⟩⟩⟩
  · rw [upd_ne hda] at hd
    exact hd
  · have hd1 : H1 d = none := by
      rw [upd_ne hda] at hd
      exact hd
    refine h d _ hd1 (fun b o e => ?_) upd_same
    have hba : b ≠ a := ne_of_none e ha
    have hbd : b ≠ d := ne_of_none e hd1
    rw [upd_ne hbd, del_ne hba, upd_ne hba, upd_ne hbd, upd_ne hba]
    exact e
abbrev VEb : List Value := [.type "ValueError", .type "Exception", .type "BaseException", .type "object"]
/-- what the written part says of a class without an own __init__ -/
structure Ex0C (K : PySem.W.Frag) (C : Addr) : Prop where
  q : PySem.W.excIn K C VEb "ValueError.__new__" = true
  kC : PySem.W.keepIn K (.ref C) = true
  exC : PySem.W.subIn K (.ref C) (.type "BaseException") = some true
  tyC : PySem.W.typeIn K (.ref C) = some (.type "type")
/-- C() -/
theorem pmk_own0 {X : Cx} {C : Addr} {x : Str} {p pos : Pos} (T : Ex0C X.K C) (gC : X.mg x = some (.ref C)) (hg : Gl X x) (hdb : (x == ("__debug__" : Str)) = false := by decide) : PMk X (.Call (.Name x p) [] [] pos) (fun _ H Q => Q (.ref C) none H) := by
  intro pins s σ H Q I h
  refine wpAny_Call_Name_kw (ld_glob I hg gC ?_ hdb)
  refine PySem.W.callWith_K0 I.kIn T.kC ?_
  show wpAny _ _ (call (.ref C) []) _ _ _
  obtain ⟨bm, N, nm, qn, bs, hdct, sn, sub, ab, col, dd, k0, k1, k2, k3, k5, mN, hC, hN, hni, tail⟩ := exc_obj I.kIn T.q
  refine wpAny_call_exc_subT PySem.F.excBase_ValueError tail hC hN hni ?_ (Nat.zero_le _)
  intro h' e made
  exact mk_of I made (raises_own T.exC T.tyC) h (I.hok.gone made.new)
/-! ### operators of an own class: x op y, x op int, int op x, !=, str -/
section
variable {prog : Program} {w : World} {A : Around} {E : Value → Shared → Prop} {s : Shared} {K : PySem.W.Frag} {x C f : Addr} {ox : Obj} {od : Option Obj}
theorem bin_declines {nm : String} {g : Int → Int → Sem Fin} {n : Int} {t : Tok} {Q : Fin → Shared → Prop} {R : Value → Shared → Prop} (hs : slotArgs nm 1 ⟨[.int n t, .ref x], []⟩ = pure (.int n t, [.ref x]))
    (hx : s.heap.get? x = some ox) (hp : ∀ v, ox.data ≠ .prim v) (h : Q (.done (.ret .notImplemented)) s) :
    wpAny (model prog w) A (Builtin.Int.intBinary nm g false ⟨[.int n t, .ref x], []⟩) Q R s := by
  unfold Builtin.Int.intBinary
  refine wpAny_bind (wpAny_of_eq (a := ((Value.int n t, [Value.ref x]) : Value × List Value)) hs ?_)
  dsimp only
  unfold Builtin.Int.intOfSelf asInt?
  refine wpAny_bind (wpAny_bind (wpAny_pure ?_))
  dsimp only
  refine wpAny_pure (wpAny_bind ?_)
  show wpAny _ _ (load x >>= _) _ _ _
  refine wpAny_bind (wpAny_load hx ?_)
  have fin : wpAny (model prog w) A (do rule "int.binary.not-an-int"; ret Value.notImplemented) Q R s := wpAny_bind (wpAny_rule (wpAny_pure h))
  cases e : ox.data with
  | prim v => exact absurd e (hp v)
  | _ => exact wpAny_pure fin
/-- int's slot with an instance on the right declines -/
theorem int_try {name : Str} {id nm : String} {g : Int → Int → Sem Fin} {n : Int} {t : Tok} {Q : Value → Shared → Prop} (slot : Slot "int" name id) (entry : entryFor table id = some (Builtin.Int.intBinary nm g false)) (args : argsOk id ⟨[.int n t, .ref x], []⟩)
    (hs : slotArgs nm 1 ⟨[.int n t, .ref x], []⟩ = pure (.int n t, [.ref x])) (hx : s.heap.get? x = some ox) (hp : ∀ v, ox.data ≠ .prim v) (h : Q .notImplemented s) : wpAny (model prog w) A (call (.builtin id) [.int n t, .ref x]) Q E s :=
  GQ.call_here slot (typeIs_int s n t) entry args (bin_declines hs hx hp h)
theorem refl_bin {op : Operator} {id nm : String} {g : Int → Int → Sem Fin} {n : Int} {t : Tok} {fr : Addr} {cd : ClassData} {rest : List Value} {Q : Value → Shared → Prop} (X : K.In s.heap) (I : PySem.W.InstAt s.heap x ox C od)
    (slot : Slot "int" (PySem.dunder op.info.2) id) (entry : entryFor table id = some (Builtin.Int.intBinary nm g false)) (args : argsOk id ⟨[.int n t, .ref x], []⟩) (hs : slotArgs nm 1 ⟨[.int n t, .ref x], []⟩ = pure (.int n t, [.ref x])) (hp : ∀ v, ox.data ≠ .prim v)
    (hfI : fillsNumberSlot (.type "int") op.info.2 = pure true) (hcd : PySem.W.clsIn K C = some cd) (hm : cd.mro = .ref C :: rest) (hf : PySem.W.findIn K (.ref C) (PySem.dunder op.info.2) = some (some (.ref f))) (hsub : PySem.W.subIn K (.ref C) (.type "int") = some false)
    (hr : PySem.W.findIn K (.ref C) (dunderR op.info.2) = some (some (.ref fr))) (hfn : PySem.W.isFn K (.ref fr) = true) (h : wpAny (model prog w) A (call (.ref fr) [.ref x, .int n t]) (PySem.W.CmpBack Q) E s) :
    wpAny (model prog w) A (binaryOp op (.int n t) (.ref x)) Q E s := by
  rcases hi : op.info with ⟨sym, nm'⟩
  rw [hi] at slot hfI hf hr
  dsimp only at slot hfI hf hr
  simp only [binaryOp, hi]
  refine wpAny_holding (wpAny_bind ?_)
  unfold binaryOp1
  have hne : (Value.type "int" == Value.ref C) = false := Bool.eq_false_iff.mpr fun q => by cases beq_iff_eq.mp q
  refine wpAny_bind (wpAny_typeOf (typeIs_int s n t) (wpAny_bind (I.type.here (wpAny_bind (wpAny_of_eq hfI ?_)))))
  simp only [hne, Bool.false_eq_true, if_false]
  refine wpAny_bind ((PySem.W.fills_K X hcd hm hf).here ?_)
  simp only [Bool.and_self, if_true]
  refine wpAny_bind ((PySem.W.looks_subIn X hsub).here ?_)
  have hpy : numberSlotInPython (.type "int") nm' = pure false := rfl
  simp only [Bool.false_eq_true, if_false, pure_bind, Bool.not_false, Bool.and_self, if_true, hpy]
  refine wpAny_bind (wpAny_tryMethod_declines (typeIs_int s n t) slot (int_try slot entry args hs I.1 hp ⟨rfl, ?_⟩))
  refine wpAny_bind (wpAny_mono (PySem.W.ksp_try X I hr hfn h) (fun r s' z => ?_) fun _ _ e => e)
  obtain ⟨v, rfl, hq⟩ := z
  exact wpAny_bind (wpAny_rule (wpAny_pure (wpAny_pure hq)))
theorem cmp_try {name : Str} {b : Value} {Q : Value → Shared → Prop} (X : K.In s.heap) (I : PySem.W.InstAt s.heap x ox C od) (hs : PySem.W.findIn K (.ref C) name = some (some (.ref f))) (hf : PySem.W.isFn K (.ref f) = true)
    (h : wpAny (model prog w) A (call (.ref f) [.ref x, b]) (PySem.W.CmpBack Q) E s) : wpAny (model prog w) A (tryCompare (.ref x) name b) (fun r s' => ∃ v, r = some v ∧ Q v s') E s := by
  unfold tryCompare
  refine wpAny_bind (PySem.W.ifBound_K X I hs hf (wpAny_mono h (fun v s' hv => ?_) fun _ _ e => e))
  cases v <;> first | exact hv.elim | exact wpAny_pure ⟨_, rfl, hv⟩
theorem refl_cmp {op : CmpOp} {id nm : String} {g : Int → Int → Sem Fin} {n : Int} {t : Tok} {fr : Addr} {Q : Value → Shared → Prop} (hu : A.units < cLine) (X : K.In s.heap) (I : PySem.W.InstAt s.heap x ox C od)
    (slot : Slot "int" (cmpInfo op).2.1 id) (entry : entryFor table id = some (Builtin.Int.intBinary nm g false)) (args : argsOk id ⟨[.int n t, .ref x], []⟩) (hs : slotArgs nm 1 ⟨[.int n t, .ref x], []⟩ = pure (.int n t, [.ref x])) (hp : ∀ v, ox.data ≠ .prim v)
    (hot : oneThing? op (.int n t) (.ref x) = none) (hsub : PySem.W.subIn K (.ref C) (.type "int") = some false)
    (hr : PySem.W.findIn K (.ref C) (cmpInfo op).2.2 = some (some (.ref fr))) (hfn : PySem.W.isFn K (.ref fr) = true) (h : wpAny (model prog w) A (call (.ref fr) [.ref x, .int n t]) (PySem.W.CmpBack Q) E s) :
    wpAny (model prog w) A (richCompare op (.int n t) (.ref x)) Q E s := by
  unfold richCompare
  rw [hot]
  have hne : (Value.type "int" != Value.ref C) = true := by
    have q : (Value.type "int" == Value.ref C) = false := Bool.eq_false_iff.mpr fun q => by cases beq_iff_eq.mp q
    rw [bne, q] <;> rfl
  refine wpAny_holding (wpAny_bind (wpAny_cRoomFor hu ?_))
  dsimp only
  refine wpAny_bind (wpAny_typeOf (typeIs_int s n t) (wpAny_bind (I.type.here ?_)))
  rw [hne]
  simp only [if_true]
  refine wpAny_bind ((PySem.W.looks_subIn X hsub).here ?_)
  simp only [Bool.false_eq_true, if_false, Bool.not_false, if_true]
  have one : ∀ {Q' : Option Value → Shared → Prop}, Q' none s → wpAny (model prog w) A (tryCompare (.int n t) (cmpInfo op).2.1 (.ref x)) Q' E s := fun {Q'} q => by
    unfold tryCompare
    exact wpAny_bind (wpAny_callSpecialIfBound?_slot (typeIs_int s n t) slot (int_try slot entry args hs I.1 hp (wpAny_pure q)))
  refine wpAny_bind (one ?_)
  dsimp only
  refine wpAny_bind (wpAny_mono (cmp_try X I hr hfn h) (fun r s' z => ?_) fun _ _ e => e)
  obtain ⟨v, rfl, hq⟩ := z
  exact wpAny_pure hq
end
section
variable {prog : Program} {w : World} {A : Around} {E : Value → Shared → Prop} {s : Shared} {K : PySem.W.Frag} {x C f : Addr} {ox : Obj} {od : Option Obj}
/-- a special method that the class has from object -/
theorem ifBound_slot {M : Model} {name : Str} {id : String} {args : List Value} {Q : Option Value → Shared → Prop} (X : K.In s.heap) (I : PySem.W.InstAt s.heap x ox C od) (S : Slot "object" name id) (hs : PySem.W.findIn K (.ref C) name = some (some (.builtin id)))
    (h : wpAny M A (call (.builtin id) (.ref x :: args)) (fun v => Q (some v)) E s) : wpAny M A (callSpecialIfBound? (.ref x) name args) Q E s := by
  simp only [callSpecialIfBound?, bindSpecialIfBound?]
  refine wpAny_holding (wpAny_bind (wpAny_bind (wpAny_bind (I.type.here ((PySem.W.looks_findIn X hs).here ?_)))))
  simp only [S.bind]
  refine wpAny_bind (wpAny_askSetting (wpAny_ite ?_))
  have fin : wpAny M A (call (.builtin id) ([.ref x] ++ args) >>= fun v => pure (some v)) Q E s := wpAny_bind (wpAny_mono h (fun v s' z => wpAny_pure z) fun _ _ z => z)
  split
  · exact wpAny_bind (wpAny_pure (wpAny_pure fin))
  · exact wpAny_tryCatch (wpAny_bind (wpAny_pure (wpAny_pure fin)))
/-- x != b by the own == -/
theorem own_ne {b tb : Value} {Q : Value → Shared → Prop} (hu : A.units + 1 < cLine) (X : K.In s.heap) (I : PySem.W.InstAt s.heap x ox C od) (hb : PySem.W.Looks (model prog w) s.heap (typeOf b) tb) (hn : PySem.W.notFirst K C tb = true)
    (hne : PySem.W.findIn K (.ref C) "__ne__" = some (some (.builtin "object.__ne__"))) (hm : PySem.W.mroIn K C (.type "object") = some true) (heq : PySem.W.findIn K (.ref C) "__eq__" = some (some (.ref f))) (hf : PySem.W.isFn K (.ref f) = true)
    (h : wpAny (model prog w) A.in1 (call (.ref f) [.ref x, b]) (fun v s' => ∃ r, v = .bool r ∧ Q (.bool (!r)) s') E s) : wpAny (model prog w) A (richCompare .NotEq (.ref x) b) Q E s := by
  have S := PySem.F.cmp_object.ne
  have sub : PySem.W.Looks (model prog w) s.heap (isInstance (.ref x) (.type "object")) true := I.type.andThen (PySem.W.looks_mroIn X hm)
  have inner : wpAny (model prog w) A.in1 (Builtin.«object.__ne__» ⟨[.ref x, b], []⟩) (GQ.FinOf prog w A (wants (fun v s' => ∃ r, v = .bool r ∧ Q (.bool r) s') E)) (fun e s' => wants (fun v s' => ∃ r, v = .bool r ∧ Q (.bool r) s') E (.error e) s') s := by
    unfold Builtin.«object.__ne__»
    refine wpAny_bind (wpAny_of_eq (a := ((Value.ref x, [b]) : Value × List Value)) (by first | rfl | (simp only [slotArgs]; rfl)) ?_)
    dsimp only
    refine wpAny_bind (wpAny_cRoomFor (by show A.units + 1 < cLine; exact hu) ?_)
    refine wpAny_bind (PySem.W.ifBound_K X I heq hf (wpAny_mono h (fun v s' z => ?_) fun _ _ e => e))
    obtain ⟨r, rfl, q⟩ := z
    refine wpAny_bind (wpAny_truthy_bool ?_)
    exact wpAny_pure ⟨!r, rfl, q⟩
  have one : wpAny (model prog w) A (tryCompare (.ref x) "__ne__" b) (fun r s' => ∃ v, r = some (.bool v) ∧ Q (.bool v) s') E s := by
    unfold tryCompare
    have callne : wpAny (model prog w) A (call (.builtin "object.__ne__") [.ref x, b]) (fun v s' => ∃ r, v = .bool r ∧ Q (.bool r) s') E s :=
      wpAny_call (codeAny_call_builtin S.plain PySem.F.cmpEntry_ne (@PySem.W.check_slot (model prog w) _ _ s "object.__ne__" "object" "__ne__" (.ref x) [b] [] _ PySem.F.cmpKind_ne PySem.F.cmpSplit_ne sub (PySem.F.cmpArgs_ne _ _) inner))
    refine wpAny_bind (ifBound_slot X I S hne (wpAny_mono callne (fun v s' z => ?_) fun _ _ e => e))
    obtain ⟨r, rfl, q⟩ := z
    exact wpAny_pure ⟨r, rfl, q⟩
  unfold richCompare
  simp only [oneThing_ref]
  refine wpAny_holding (wpAny_bind (wpAny_cRoomFor (Nat.lt_of_succ_lt hu) ?_))
  refine wpAny_bind (I.type.here (wpAny_bind (hb.here ?_)))
  split
  · rename_i q
    have e : PySem.W.subIn K tb (.ref C) = some false := by
      rcases Bool.or_eq_true_iff.mp hn with e | e
      · rw [beq_iff_eq.mp e] at q; simp at q
      · exact beq_iff_eq.mp e
    refine wpAny_bind ((PySem.W.looks_subIn X e).here ?_)
    simp only [Bool.false_eq_true, if_false]
    refine wpAny_bind (wpAny_mono one (fun r s' z => ?_) fun _ _ e => e)
    obtain ⟨v, rfl, hq⟩ := z
    exact wpAny_pure hq
  · refine wpAny_bind (wpAny_pure ?_)
    simp only [Bool.false_eq_true, if_false]
    refine wpAny_bind (wpAny_mono one (fun r s' z => ?_) fun _ _ e => e)
    obtain ⟨v, rfl, hq⟩ := z
    exact wpAny_pure hq
end
/-! ### the same over the layer -/
section
variable {X : Cx} {CX : CXT} {k : Nat} {f C : Addr} {fd : FuncData} {ps : List Str} {sp : Sp} {E : XK} {pins : List (Addr × Obj)} {σ : L2.St} {H : Hp} {s : Shared}
/-- a def runs, at whatever depth -/
theorem run_deep {A : Around} {Q : VK} {us : List Value} {vs : List V} (F : FnOk X.prog X.w X.K X.mg X.base CX k f fd ps sp) (hr : Room k A) (e0 : Env0 X.prog X.w X.K X.mg X.base A X.stack s H) (hb : Binds X.K fd ps []) (hx : Passes CX X E)
    (I : Inv X pins σ H s) (r : Vals vs us) (h : sp vs H Q E) : wpAny (model X.prog X.w) A (call (.ref f) us) (EP X pins σ Q) X.xe s := by
  have hl : (us ++ []).length = ps.length := by rw [List.append_nil, ← r.length]; exact F.len _ _ _ _ h
  have hbind := hb s us I.kIn hl
  rw [List.append_nil] at hbind
  refine wpAny_call (codeAny_mono (F.run A X.stack s H ⟨us, []⟩ us vs Q E hr e0 hbind r h) fun r s' hq => ?_)
  cases r with
  | error e => exact hx pins σ H s e s' I hq
  | ok fl =>
    cases fl with
    | ret u => exact I.after hq
    | next => exact False.elim hq
    | brk => exact False.elim hq
    | cont => exact False.elim hq
theorem back_of {P : Value → Shared → Prop} {z : V} {v : Value} {s' : Shared} (r : RelV z v) (h : P v s') : PySem.W.CmpBack P v s' := by
  cases z with
  | non => cases (show v = Value.none from r); exact h
  | bl b => cases (show v = Value.bool b from r); exact h
  | ref a => cases (show v = Value.ref a from r); exact h
  | ty n => cases (show v = Value.type n from r); exact h
  | int i => obtain ⟨t, e⟩ := (show ∃ t, v = Value.int i t from r); cases e; exact h
  | str x => obtain ⟨t, e⟩ := (show ∃ t, v = Value.str x t from r); cases e; exact h
  | byt b => obtain ⟨t, e⟩ := (show ∃ t, v = Value.bytes b t from r); cases e; exact h
  | flt b => obtain ⟨t, e⟩ := (show ∃ t, v = Value.float b t from r); cases e; exact h
theorem inst_of (I : Inv X pins σ H s) {a dx : Addr} {fs : List (Str × V)} (h : H a = some (.ins C dx fs)) : ∃ od, PySem.W.InstAt s.heap a (PySem.W.instObj C dx) C (some od) := by
  obtain ⟨mA, J, _⟩ := ins_get I.hok h
  obtain ⟨od, J, _⟩ := J.look
  exact ⟨od, J⟩
/-- an instance of the class at C -/
def IsC (C : Addr) (H : Hp) (y : V) : Prop := ∃ a dx fs, y = .ref a ∧ H a = some (.ins C dx fs)
/-- what the operators ask of the class -/
structure OpC (K : PySem.W.Frag) (C : Addr) : Prop where
  first : PySem.W.selfFirst K C = true
  cls : ∃ cd rest, PySem.W.clsIn K C = some cd ∧ cd.mro = .ref C :: rest
  noInt : PySem.W.subIn K (.ref C) (.type "int") = some false
  intNo : PySem.W.subIn K (.type "int") (.ref C) = some false
  ne : PySem.W.findIn K (.ref C) "__ne__" = some (some (.builtin "object.__ne__"))
  ob : PySem.W.mroIn K C (.type "object") = some true
/-- x op y, both of C -/
def rOwnB (C : Addr) (sp : Sp) (E : XK) : R2 := fun x y H Q => IsC C H x ∧ IsC C H y ∧ sp [x, y] H Q E
theorem op_ownB {op : Operator} (T : OpC X.K C) (hs : PySem.W.findIn X.K (.ref C) (PySem.dunder op.info.2) = some (some (.ref f))) (hf : PySem.W.isFn X.K (.ref f) = true) (F : FnOk X.prog X.w X.K X.mg X.base CX k f fd ps sp) (hr : Room k X.A) (hb : Binds X.K fd ps []) (hx : Passes CX X E) :
    OpR X (binaryOp op) (rOwnB C sp E) := by
  intro pins s σ H x y v u Q I rx ry h
  obtain ⟨⟨a, dx, fs, rfl, ha⟩, ⟨b, dy, gs, rfl, hb'⟩, q⟩ := h
  cases (show v = Value.ref a from rx)
  cases (show u = Value.ref b from ry)
  obtain ⟨oa, J⟩ := inst_of I ha
  obtain ⟨ob, J'⟩ := inst_of I hb'
  obtain ⟨m, hF⟩ := I.fr
  refine PySem.W.binop_K hF I.ok.mod.kin J J'.type T.first hs hf (wpAny_mono (run_deep (vs := [.ref a, .ref b]) F hr I.env0 hb hx I (.cons rfl (.cons rfl .nil)) q) (fun w s' z => ?_) fun _ _ x => x)
  obtain ⟨z', H', I', rz, qz⟩ := z
  exact back_of rz ⟨z', H', I', rz, qz⟩
/-- x op n, n an int -/
def rOwnI (C : Addr) (sp : Sp) (E : XK) : R2 := fun x y H Q => IsC C H x ∧ (∃ n, y = .int n) ∧ sp [x, y] H Q E
theorem op_ownI {op : Operator} {fo ro rc : Option Value} (T : OpC X.K C) (hs : PySem.W.findIn X.K (.ref C) (PySem.dunder op.info.2) = some (some (.ref f))) (hf : PySem.W.isFn X.K (.ref f) = true) (hr' : PySem.W.findIn X.K (.ref C) (dunderR op.info.2) = some rc) (hp : rc = none ∨ ∃ g : Addr, rc = some (.ref g))
    (h1 : PySem.W.findIn X.K (.type "int") (PySem.dunder op.info.2) = some fo) (h2 : PySem.W.findIn X.K (.type "int") (dunderR op.info.2) = some ro)
    (F : FnOk X.prog X.w X.K X.mg X.base CX k f fd ps sp) (hr : Room k X.A) (hb : Binds X.K fd ps []) (hx : Passes CX X E) : OpR X (binaryOp op) (rOwnI C sp E) := by
  intro pins s σ H x y v u Q I rx ry h
  obtain ⟨⟨a, dx, fs, rfl, ha⟩, ⟨n, rfl⟩, q⟩ := h
  cases (show v = Value.ref a from rx)
  obtain ⟨t, rfl⟩ := (show ∃ t, u = Value.int n t from ry)
  obtain ⟨oa, J⟩ := inst_of I ha
  obtain ⟨m, hF⟩ := I.fr
  refine PySem.W.ksp_binT (T := "int") hF I.ok.mod.kin J rfl T.first hs hf hr' hp h1 h2 T.intNo (wpAny_mono (run_deep (vs := [.ref a, .int n]) F hr I.env0 hb hx I (.cons rfl (.cons ⟨t, rfl⟩ .nil)) q) (fun w s' z => ?_) fun _ _ x => x)
  obtain ⟨z', H', I', rz, qz⟩ := z
  exact back_of rz ⟨z', H', I', rz, qz⟩
/-- n op x, n an int: the reflected method -/
def rOwnR (C : Addr) (sp : Sp) (E : XK) : R2 := fun x y H Q => (∃ n, x = .int n) ∧ IsC C H y ∧ sp [y, x] H Q E
theorem op_ownR {op : Operator} {id nm : String} {g : Int → Int → Sem Fin} {fl : Addr} (T : OpC X.K C) (slot : Slot "int" (PySem.dunder op.info.2) id) (entry : entryFor table id = some (Builtin.Int.intBinary nm g false)) (args : ∀ a b : Value, argsOk id ⟨[a, b], []⟩)
    (hsl : ∀ (n : Int) (t : Tok) (x : Addr), slotArgs nm 1 ⟨[.int n t, .ref x], []⟩ = pure (.int n t, [.ref x])) (hfI : fillsNumberSlot (.type "int") op.info.2 = pure true) (hl : PySem.W.findIn X.K (.ref C) (PySem.dunder op.info.2) = some (some (.ref fl)))
    (hs : PySem.W.findIn X.K (.ref C) (dunderR op.info.2) = some (some (.ref f))) (hf : PySem.W.isFn X.K (.ref f) = true)
    (F : FnOk X.prog X.w X.K X.mg X.base CX k f fd ps sp) (hr : Room k X.A) (hb : Binds X.K fd ps []) (hx : Passes CX X E) : OpR X (binaryOp op) (rOwnR C sp E) := by
  intro pins s σ H x y v u Q I rx ry h
  obtain ⟨⟨n, rfl⟩, ⟨a, dx, fs, rfl, ha⟩, q⟩ := h
  cases (show u = Value.ref a from ry)
  obtain ⟨t, rfl⟩ := (show ∃ t, v = Value.int n t from rx)
  obtain ⟨oa, J⟩ := inst_of I ha
  obtain ⟨cd, rest, hcd, hm⟩ := T.cls
  refine refl_bin I.kIn J slot entry (args _ _) (hsl n t a) (fun v z => nomatch z) hfI hcd hm hl T.noInt hs hf (wpAny_mono (run_deep (vs := [.ref a, .int n]) F hr I.env0 hb hx I (.cons rfl (.cons ⟨t, rfl⟩ .nil)) q) (fun w s' z => ?_) fun _ _ x => x)
  obtain ⟨z', H', I', rz, qz⟩ := z
  exact back_of rz ⟨z', H', I', rz, qz⟩
/-- x op y by the own comparison, y of a known type -/
def rOwnC (K : PySem.W.Frag) (C : Addr) (sp : Sp) (E : XK) : R2 := fun x y H Q => IsC C H x ∧ (∃ t, TyX K H y t ∧ PySem.W.notFirst K C t = true) ∧ sp [x, y] H Q E
theorem op_ownC {op : CmpOp} (hop : ∀ a b, compareOp op a b = richCompare op a b) (hs : PySem.W.findIn X.K (.ref C) (cmpInfo op).2.1 = some (some (.ref f))) (hf : PySem.W.isFn X.K (.ref f) = true)
    (F : FnOk X.prog X.w X.K X.mg X.base CX k f fd ps sp) (hr : Room k X.A) (hb : Binds X.K fd ps []) (hx : Passes CX X E) : OpR X (compareOp op) (rOwnC X.K C sp E) := by
  intro pins s σ H x y v u Q I rx ry h
  obtain ⟨⟨a, dx, fs, rfl, ha⟩, ⟨ty, hty, hn⟩, q⟩ := h
  cases (show v = Value.ref a from rx)
  obtain ⟨oa, J⟩ := inst_of I ha
  obtain ⟨m, hF⟩ := I.fr
  obtain ⟨Pk, Z, p, _⟩ := kit_of I ry hty
  rw [hop]
  refine PySem.W.cmp_K (op := op) hr.units0 hF I.ok.mod.kin J (Z.ty _ _ I.kIn p) hn hs hf (wpAny_mono (run_deep (vs := [.ref a, y]) F hr I.env0 hb hx I (.cons rfl (.cons ry .nil)) q) (fun w s' z => ?_) fun _ _ x => x)
  obtain ⟨z', H', I', rz, qz⟩ := z
  exact back_of rz ⟨z', H', I', rz, qz⟩
/-- n op x, n an int: the mirrored comparison -/
theorem op_ownM {op : CmpOp} {id nm : String} {g : Int → Int → Sem Fin} (hop : ∀ a b, compareOp op a b = richCompare op a b) (T : OpC X.K C) (slot : Slot "int" (cmpInfo op).2.1 id) (entry : entryFor table id = some (Builtin.Int.intBinary nm g false)) (args : ∀ a b : Value, argsOk id ⟨[a, b], []⟩)
    (hsl : ∀ (n : Int) (t : Tok) (x : Addr), slotArgs nm 1 ⟨[.int n t, .ref x], []⟩ = pure (.int n t, [.ref x])) (hot : ∀ (n : Int) (t : Tok) (x : Addr), oneThing? op (.int n t) (.ref x) = none)
    (hs : PySem.W.findIn X.K (.ref C) (cmpInfo op).2.2 = some (some (.ref f))) (hf : PySem.W.isFn X.K (.ref f) = true)
    (F : FnOk X.prog X.w X.K X.mg X.base CX k f fd ps sp) (hr : Room k X.A) (hb : Binds X.K fd ps []) (hx : Passes CX X E) : OpR X (compareOp op) (rOwnR C sp E) := by
  intro pins s σ H x y v u Q I rx ry h
  obtain ⟨⟨n, rfl⟩, ⟨a, dx, fs, rfl, ha⟩, q⟩ := h
  cases (show u = Value.ref a from ry)
  obtain ⟨t, rfl⟩ := (show ∃ t, v = Value.int n t from rx)
  obtain ⟨oa, J⟩ := inst_of I ha
  rw [hop]
  refine refl_cmp hr.units0 I.kIn J slot entry (args _ _) (hsl n t a) (fun v z => nomatch z) (hot n t a) T.noInt hs hf (wpAny_mono (run_deep (vs := [.ref a, .int n]) F hr I.env0 hb hx I (.cons rfl (.cons ⟨t, rfl⟩ .nil)) q) (fun w s' z => ?_) fun _ _ x => x)
  obtain ⟨z', H', I', rz, qz⟩ := z
  exact back_of rz ⟨z', H', I', rz, qz⟩
/-- x != y by the own == -/
def rOwnNe (K : PySem.W.Frag) (C : Addr) (sp : Sp) (E : XK) : R2 := fun x y H Q => IsC C H x ∧ (∃ t, TyX K H y t ∧ PySem.W.notFirst K C t = true) ∧ sp [x, y] H (fun z H' => ∃ r, z = .bl r ∧ Q (.bl (!r)) H') E
theorem op_ownNe (T : OpC X.K C) (hs : PySem.W.findIn X.K (.ref C) "__eq__" = some (some (.ref f))) (hf : PySem.W.isFn X.K (.ref f) = true)
    (F : FnOk X.prog X.w X.K X.mg X.base CX k f fd ps sp) (hr : Room (k + 1) X.A) (hb : Binds X.K fd ps []) (hx : Passes CX X E) : OpR X (compareOp .NotEq) (rOwnNe X.K C sp E) := by
  intro pins s σ H x y v u Q I rx ry h
  obtain ⟨⟨a, dx, fs, rfl, ha⟩, ⟨ty, hty, hn⟩, q⟩ := h
  cases (show v = Value.ref a from rx)
  obtain ⟨oa, J⟩ := inst_of I ha
  obtain ⟨Pk, Z, p, _⟩ := kit_of I ry hty
  show wpAny _ _ (richCompare .NotEq (.ref a) u) _ _ _
  refine own_ne (by have := hr.units; omega) I.kIn J (Z.ty _ _ I.kIn p) hn T.ne T.ob hs hf (wpAny_mono (run_deep (vs := [.ref a, y]) F (Room.in1 hr) I.env0.in1 hb hx I (.cons rfl (.cons ry .nil)) q) (fun w s' z => ?_) fun _ _ x => x)
  obtain ⟨z', H', I', rz, r, rfl, qz⟩ := z
  cases (show w = Value.bool r from rz)
  exact ⟨r, rfl, .bl (!r), H', I', rfl, qz⟩
end
theorem notFirst_of {K : PySem.W.Frag} {C : Addr} {t : Value} (h : PySem.W.subIn K t (.ref C) = some false) : PySem.W.notFirst K C t = true := by simp [PySem.W.notFirst, h]
/-! ### instances of an own class; exceptions that pass -/
structure InsC (K : PySem.W.Frag) (C : Addr) : Prop where
  cl : Cls K C
  ha : PySem.W.findIn K (.ref C) "__class__" = some (some (.builtin "object.__class__"))
  hn : PySem.W.specialIn K (.builtin "object.__class__") "__get__" = some (some (.builtin "getset_descriptor.__get__"))
  ht : PySem.W.takesIn K (.builtin "object.__class__") = some true
  hm : PySem.W.mroIn K C (.type "object") = some true
theorem InsC.ty {K : PySem.W.Frag} {C : Addr} (T : InsC K C) {H : Hp} {a dx : Addr} {fs : List (Str × V)} (e : H a = some (.ins C dx fs)) : TyX K H (.ref a) (.ref C) := .base (.ins e T.cl T.ha T.hn T.ht T.hm)
theorem passLen {X : Cx} {W : WX} (tk : Takes X W) : Passes (L2.CX X.prog X.w) X (fun cls d H => ∀ σ : L2.St, σ.length = X.N.length → W cls d σ H) := fun _ σ _ _ e s' I c => tk e s' (XE.of_call I (fun _ _ _ h => h σ I.len) c)
theorem passLenN {X : Cx} {W : WX} {n : Nat} (tk : Takes X W) (hn : X.N.length = n) : Passes (L2.CX X.prog X.w) X (fun cls d H => ∀ σ : L2.St, σ.length = n → W cls d σ H) := fun _ σ _ _ e s' I c => tk e s' (XE.of_call I (fun _ _ _ h => h σ (I.len.trans hn)) c)
/-! ### ratios: the mathematics -/
/-- p / q is O / U in lowest terms -/
structure Nf (O U p q : Int) : Prop where
  pos : 0 < q
  cop : Nat.gcd p.natAbs q.natAbs = 1
  eq : p * U = O * q
  le1 : p.natAbs ≤ O.natAbs
  le2 : q.natAbs ≤ U.natAbs
theorem nf_make {O U : Int} (hU : U ≠ 0) {d : Int} (hd : d = if U < 0 then -((Nat.gcd O.natAbs U.natAbs : Nat) : Int) else ((Nat.gcd O.natAbs U.natAbs : Nat) : Int)) : d ≠ 0 ∧ d.natAbs ≤ U.natAbs ∧ Nf O U (O.fdiv d) (U.fdiv d) := by
  have hg : 0 < Nat.gcd O.natAbs U.natAbs := Nat.gcd_pos_of_pos_right _ (Int.natAbs_pos.mpr hU)
  have hgle : Nat.gcd O.natAbs U.natAbs ≤ U.natAbs := Nat.gcd_le_right _ (Int.natAbs_pos.mpr hU)
  generalize hgg : Nat.gcd O.natAbs U.natAbs = g at hd hg hgle
  have hd0 : d ≠ 0 := by
    rw [hd]
    split <;> omega
  have hda : d.natAbs = g := by
    rw [hd]
    split <;> omega
  have dO : d ∣ O := by
    rw [← Int.natAbs_dvd_natAbs, hda, ← hgg]
    exact Nat.gcd_dvd_left _ _
  have dU : d ∣ U := by
    rw [← Int.natAbs_dvd_natAbs, hda, ← hgg]
    exact Nat.gcd_dvd_right _ _
  obtain ⟨o, rfl⟩ := dO
  obtain ⟨u, rfl⟩ := dU
  rw [Int.mul_fdiv_cancel_left _ hd0, Int.mul_fdiv_cancel_left _ hd0]
  have ho : (d * o).natAbs = g * o.natAbs := by rw [Int.natAbs_mul, hda]
  have hu : (d * u).natAbs = g * u.natAbs := by rw [Int.natAbs_mul, hda]
  refine ⟨hd0, by omega, ?_, ?_, ?_, ?_, ?_⟩
  · have hu0 : u ≠ 0 := fun z => hU (by rw [z, Int.mul_zero])
    by_cases hn : d * u < 0
    · rw [if_pos hn] at hd
      have hdn : d < 0 := by omega
      by_cases h : 0 < u
      · exact h
      · have : 0 ≤ d * u := Int.mul_nonneg_of_nonpos_of_nonpos (by omega) (by omega)
        omega
    · rw [if_neg hn] at hd
      have hdp : 0 < d := by omega
      by_cases h : 0 < u
      · exact h
      · have : d * u ≤ 0 := Int.mul_nonpos_of_nonneg_of_nonpos (by omega) (by omega)
        have : d * u ≠ 0 := hU
        omega
  · rw [ho, hu, Nat.gcd_mul_left] at hgg
    exact Nat.eq_of_mul_eq_mul_left hg (by omega)
  · grind
  · rw [ho]
    exact Nat.le_mul_of_pos_left _ hg
  · rw [hu]
    exact Nat.le_mul_of_pos_left _ hg
theorem cross_unique {p q p' q' : Int} (h : 0 < q) (h' : 0 < q') (c : Nat.gcd p.natAbs q.natAbs = 1) (c' : Nat.gcd p'.natAbs q'.natAbs = 1) (e : p * q' = p' * q) : p = p' ∧ q = q' := by
  have e2 : p.natAbs * q'.natAbs = p'.natAbs * q.natAbs := by rw [← Int.natAbs_mul, ← Int.natAbs_mul, e]
  have d1 : q.natAbs ∣ q'.natAbs := Nat.Coprime.dvd_of_dvd_mul_left (k := q.natAbs) (m := p.natAbs) (n := q'.natAbs) (by rw [Nat.Coprime, Nat.gcd_comm]; exact c) ⟨p'.natAbs, by rw [e2, Nat.mul_comm]⟩
  have d2 : q'.natAbs ∣ q.natAbs := Nat.Coprime.dvd_of_dvd_mul_left (k := q'.natAbs) (m := p'.natAbs) (n := q.natAbs) (by rw [Nat.Coprime, Nat.gcd_comm]; exact c') ⟨p.natAbs, by rw [← e2, Nat.mul_comm]⟩
  have eq : q.natAbs = q'.natAbs := Nat.dvd_antisymm d1 d2
  have eq2 : q = q' := by omega
  subst eq2
  exact ⟨Int.eq_of_mul_eq_mul_right (by omega) e, rfl⟩
theorem Nf.unique {O U p q p' q' : Int} (hU : U ≠ 0) (h : Nf O U p q) (h' : Nf O U p' q') : p = p' ∧ q = q' := by
  refine cross_unique h.pos h'.pos h.cop h'.cop (Int.eq_of_mul_eq_mul_right hU ?_)
  have e1 := h.eq
  have e2 := h'.eq
  grind
/-- the same fraction by other terms -/
theorem Nf.unique2 {O U O' U' p q p' q' : Int} (hU : U ≠ 0) (hU' : U' ≠ 0) (e : O * U' = O' * U) (h : Nf O U p q) (h' : Nf O' U' p' q') : p = p' ∧ q = q' := by
  refine cross_unique h.pos h'.pos h.cop h'.cop (Int.eq_of_mul_eq_mul_right (Int.mul_ne_zero hU hU') ?_)
  have e1 := h.eq
  have e2 := h'.eq
  grind
theorem nf_self {p q : Int} (h : 0 < q) (c : Nat.gcd p.natAbs q.natAbs = 1) : Nf p q p q := ⟨h, c, rfl, Nat.le_refl _, Nat.le_refl _⟩
theorem gcd_one (n : Int) : Nat.gcd n.natAbs (1 : Int).natAbs = 1 := Nat.gcd_one_right _
/-! ### ratios: the objects -/
theorem op_fdivZ {X : Cx} : OpR X (binaryOp .FloorDiv) (rI (fun _ j => j ≠ 0 ∧ j.natAbs.log2 < 9000) fun i j => .int (i.fdiv j)) := opI fun _ _ _ _ _ _ _ hc q => floordiv_int hc.1 q (.inl (PyProof.noPylong_of_log2 hc.2))
theorem ou : ¬ (("over" : Str) = "under") := by decide +kernel
def rfR (p q : Int) : List (Str × V) := putF "under" (.int q) (putF "over" (.int p) [])
theorem rfR_eq (p q : Int) : rfR p q = ([("over", V.int p), ("under", V.int q)] : List (Str × V)) := by
  show (if ("over" : Str) = "under" then [(("over" : Str), V.int q)] else (("over" : Str), V.int p) :: putF "under" (V.int q) []) = ([("over", V.int p), ("under", V.int q)] : List (Str × V))
  rw [if_neg ou]
  all_goals rfl
theorem rfR_over (p q : Int) : (rfR p q).lookup ("over" : Str) = some (.int p) := by
  unfold rfR
  rw [lookup_putF, if_neg ou, lookup_putF, if_pos rfl]
theorem rfR_under (p q : Int) : (rfR p q).lookup ("under" : Str) = some (.int q) := by
  unfold rfR
  rw [lookup_putF, if_pos rfl]
theorem rfR_no (p q : Int) {m : Str} (h1 : ¬ m = "under") (h2 : ¬ m = "over") : (rfR p q).lookup m = none := by
  unfold rfR
  rw [lookup_putF, if_neg h1, lookup_putF, if_neg h2]
  all_goals rfl
/-- v is a ratio, p / q in lowest terms -/
structure Rat (C : Addr) (H : Hp) (v : V) (p q : Int) : Prop where
  at_ : ∃ a dx, v = .ref a ∧ H a = some (.ins C dx (rfR p q))
  pos : 0 < q
  cop : Nat.gcd p.natAbs q.natAbs = 1
theorem Rat.same {C : Addr} {H H' : Hp} {v : V} {p q : Int} (R : Rat C H v p q) (e : Same H H') : Rat C H' v p q := by
  obtain ⟨⟨a, dx, rfl, h⟩, h1, h2⟩ := R
  exact ⟨⟨a, dx, rfl, e _ _ h⟩, h1, h2⟩
theorem Rat.isC {C : Addr} {H : Hp} {v : V} {p q : Int} (R : Rat C H v p q) : IsC C H v := by
  obtain ⟨⟨a, dx, rfl, h⟩, _⟩ := R
  exact ⟨a, dx, _, rfl, h⟩
theorem Rat.ty {K : PySem.W.Frag} {C : Addr} {H : Hp} {v : V} {p q : Int} (R : Rat C H v p q) (T : InsC K C) : TyX K H v (.ref C) := by
  obtain ⟨⟨a, dx, rfl, h⟩, _⟩ := R
  exact T.ty h
theorem Rat.inj {C : Addr} {H : Hp} {v : V} {p q p' q' : Int} (R : Rat C H v p q) (R' : Rat C H v p' q') : p = p' ∧ q = q' := by
  obtain ⟨⟨a, dx, rfl, h⟩, _⟩ := R
  obtain ⟨⟨b, dy, e, h'⟩, _⟩ := R'
  cases e
  rw [h] at h'
  have e : rfR p q = rfR p' q' := by
    injection h' with h'
    injection h'
  rw [rfR_eq, rfR_eq] at e
  simp at e
  exact e
/-- a ratio, or an int that counts as one -/
inductive Num (C : Addr) (H : Hp) : V → Int → Int → Prop where
  | rat {v : V} {p q : Int} (R : Rat C H v p q) : Num C H v p q
  | int (n : Int) : Num C H (.int n) n 1
theorem Num.same {C : Addr} {H H' : Hp} {v : V} {p q : Int} (N : Num C H v p q) (e : Same H H') : Num C H' v p q := by
  cases N with
  | rat R => exact .rat (R.same e)
  | int => exact .int _
theorem Num.pos {C : Addr} {H : Hp} {v : V} {p q : Int} (N : Num C H v p q) : 0 < q := by
  cases N with
  | rat R => exact R.pos
  | int => decide
theorem log2_le {a b : Int} {n : Nat} (h : a.natAbs ≤ b.natAbs) (ha : a ≠ 0) (hb : b.natAbs.log2 < n) : a.natAbs.log2 < n := by
  have ha' : a.natAbs ≠ 0 := fun z => ha (Int.natAbs_eq_zero.mp z)
  have hb' : b.natAbs ≠ 0 := fun z => ha' (by omega)
  exact (Nat.log2_lt ha').mpr (Nat.lt_of_le_of_lt h ((Nat.log2_lt hb').mp hb))
/-- sizes: terms of at most n bits -/
def Sz (n : Nat) (p q : Int) : Prop := p.natAbs < 2 ^ n ∧ q.natAbs < 2 ^ n
theorem Sz.mono {n m : Nat} {p q : Int} (h : Sz n p q) (l : n ≤ m) : Sz m p q := ⟨Nat.lt_of_lt_of_le h.1 (Nat.pow_le_pow_right (by decide) l), Nat.lt_of_lt_of_le h.2 (Nat.pow_le_pow_right (by decide) l)⟩
theorem pow_two_succ (n : Nat) : 2 ^ n + 2 ^ n = 2 ^ (n + 1) := by rw [Nat.pow_succ]; omega
theorem sz_add {a b c d : Int} {n : Nat} (ha : a.natAbs < 2 ^ n) (hb : b.natAbs < 2 ^ n) (hc : c.natAbs < 2 ^ n) (hd : d.natAbs < 2 ^ n) : (a * b + c * d).natAbs < 2 ^ (n + n + 1) := by
  have h1 := wide_lt ha hb
  have h2 := wide_lt hc hd
  have := pow_two_succ (n + n)
  omega
theorem sz_sub {a b c d : Int} {n : Nat} (ha : a.natAbs < 2 ^ n) (hb : b.natAbs < 2 ^ n) (hc : c.natAbs < 2 ^ n) (hd : d.natAbs < 2 ^ n) : (a * b - c * d).natAbs < 2 ^ (n + n + 1) := by
  have h1 := wide_lt ha hb
  have h2 := wide_lt hc hd
  have := pow_two_succ (n + n)
  omega
theorem sz_log {a : Int} {n : Nat} (h : a.natAbs < 2 ^ n) (h0 : 0 < n) (h1 : n ≤ 9000) : a.natAbs.log2 < 9000 := Nat.lt_of_lt_of_le (PySem.Flt.log2_lt_of h0 h) h1
theorem sz_mul {a b : Int} {n : Nat} (ha : a.natAbs < 2 ^ n) (hb : b.natAbs < 2 ^ n) (h0 : 0 < n) (h1 : n ≤ 4000) : CMulW a b := wide_mul ha hb h0 h0 (by omega)
/-- what is wrong with the terms of a ratio, and how it is told -/
def BadR (x y : V) (w : Str) (z : V) : Prop := (isInt x = false ∧ w = "over" ∧ z = x) ∨ (isInt x = true ∧ isInt y = false ∧ w = "under" ∧ z = y) ∨ (isInt x = true ∧ y = .int 0 ∧ w = "under" ∧ z = .int 0)
def spInit (K : PySem.W.Frag) (C CB : Addr) : Sp := fun vs H Q E => ∃ (a dx : Addr) (x y : V), vs = [.ref a, x, y] ∧ H a = some (.ins C dx []) ∧ Kn K H x ∧ Kn K H y ∧
  (∀ O U, x = .int O → y = .int U → U ≠ 0 → U.natAbs.log2 < 9000 ∧ ∀ p q H', Nf O U p q → H' a = some (.ins C dx (rfR p q)) → (∀ b o, H b = some o → b ≠ a → H' b = some o) → Q .non H') ∧
  (∀ w z, BadR x y w z → ∀ d H', H d = none → Same H H' → H' d = some (.xd [("value", z), ("what", .str w)]) → E (.ref CB) (some d) H')
/-- a made ratio, from the terms' own use -/
theorem mk_ratio {K : PySem.W.Frag} {C CB : Addr} {H : Hp} {O U : Int} {Q : Addr → Hp → Prop} {E : XK} (hU : U ≠ 0) (hz : U.natAbs.log2 < 9000) (h : ∀ a p q H', Same H H' → Rat C H' (.ref a) p q → Nf O U p q → Q a H') :
    ∀ x dx, H x = none → H dx = none → dx ≠ x → spInit K C CB (.ref x :: ([.int O, .int U] ++ [])) (upd (upd H dx (.own x)) x (.ins C dx [])) (fun v H2 => v = .non ∧ Q x H2) E := by
  intro x dx nx nd ne
  refine ⟨x, dx, .int O, .int U, rfl, upd_same, kn_int O, kn_int U, fun O' U' e1 e2 _ => ?_, fun w z hb => ?_⟩
  · cases e1
    cases e2
    exact ⟨hz, fun p q H' nf ha k => ⟨rfl, h x p q H' (Same.made nx nd k) ⟨⟨x, dx, rfl, ha⟩, nf.pos, nf.cop⟩ nf⟩⟩
  · rcases hb with ⟨e, _⟩ | ⟨_, e, _⟩ | ⟨_, e, _⟩
    · cases e
    · cases e
    · cases e
      exact absurd rfl hU
/-- C(n): with the default under -/
theorem mk_ratio1 {K : PySem.W.Frag} {C CB : Addr} {H : Hp} {O : Int} {Q : Addr → Hp → Prop} {E : XK} (h : ∀ a H', Same H H' → Rat C H' (.ref a) O 1 → Q a H') :
    ∀ x dx, H x = none → H dx = none → dx ≠ x → spInit K C CB (.ref x :: ([.int O] ++ [.int 1])) (upd (upd H dx (.own x)) x (.ins C dx [])) (fun v H2 => v = .non ∧ Q x H2) E :=
  mk_ratio (U := 1) (by decide) (by decide) fun a p q H' sm R nf => by
    obtain ⟨rfl, rfl⟩ := nf.unique (by decide) (nf_self (by decide) (gcd_one O))
    exact h a H' sm R
def spRatioOf (C : Addr) : Sp := fun vs H Q _ => ∃ (x : V) (p q : Int), vs = [x] ∧ Num C H x p q ∧ ∀ r H', Same H H' → Rat C H' r p q → Q r H'
/-- a method with a ratio and a number: the ratio fO / fU -/
def spArith (C : Addr) (fO fU : Int → Int → Int → Int → Int) : Sp := fun vs H Q _ => ∃ (x y : V) (p1 q1 p2 q2 : Int) (n : Nat), vs = [x, y] ∧ Rat C H x p1 q1 ∧ Num C H y p2 q2 ∧ Sz n p1 q1 ∧ Sz n p2 q2 ∧ 0 < n ∧ n ≤ 4000 ∧
  ∀ r p q H', Same H H' → Rat C H' r p q → Nf (fO p1 q1 p2 q2) (fU p1 q1 p2 q2) p q → Q r H'
/-- a comparison -/
def spOrd (C : Addr) (f : Int → Int → Bool) : Sp := fun vs H Q _ => ∃ (x y : V) (p1 q1 p2 q2 : Int) (n : Nat), vs = [x, y] ∧ Rat C H x p1 q1 ∧ Num C H y p2 q2 ∧ Sz n p1 q1 ∧ Sz n p2 q2 ∧ 0 < n ∧ n ≤ 4000 ∧
  ∀ H', Same H H' → Q (.bl (f (p1 * q2) (p2 * q1))) H'
/-- == -/
def spEqR (K : PySem.W.Frag) (C : Addr) : Sp := fun vs H Q _ => ∃ (x y : V) (p q : Int), vs = [x, y] ∧ Rat C H x p q ∧
  ((∃ p' q', Rat C H y p' q' ∧ Q (.bl (decide (p = p') && decide (q = q'))) H) ∨ (∃ t, TyX K H y t ∧ PySem.W.kitOne K t (.ref C) = some false ∧ Q (.bl false) H))
theorem slotargs_lt (n : Int) (t : Tok) (x : Addr) : slotArgs "__lt__" 1 ⟨[.int n t, .ref x], []⟩ = pure (.int n t, [.ref x]) := by first | rfl | (simp only [slotArgs]; rfl)
theorem slotargs_le (n : Int) (t : Tok) (x : Addr) : slotArgs "__le__" 1 ⟨[.int n t, .ref x], []⟩ = pure (.int n t, [.ref x]) := by first | rfl | (simp only [slotArgs]; rfl)
theorem slotargs_gt (n : Int) (t : Tok) (x : Addr) : slotArgs "__gt__" 1 ⟨[.int n t, .ref x], []⟩ = pure (.int n t, [.ref x]) := by first | rfl | (simp only [slotArgs]; rfl)
theorem slotargs_ge (n : Int) (t : Tok) (x : Addr) : slotArgs "__ge__" 1 ⟨[.int n t, .ref x], []⟩ = pure (.int n t, [.ref x]) := by first | rfl | (simp only [slotArgs]; rfl)
theorem slotargs_add (n : Int) (t : Tok) (x : Addr) : slotArgs "__add__" 1 ⟨[.int n t, .ref x], []⟩ = pure (.int n t, [.ref x]) := by first | rfl | (simp only [slotArgs]; rfl)
theorem slotargs_sub (n : Int) (t : Tok) (x : Addr) : slotArgs "__sub__" 1 ⟨[.int n t, .ref x], []⟩ = pure (.int n t, [.ref x]) := by first | rfl | (simp only [slotArgs]; rfl)
theorem slotargs_mul (n : Int) (t : Tok) (x : Addr) : slotArgs "__mul__" 1 ⟨[.int n t, .ref x], []⟩ = pure (.int n t, [.ref x]) := by first | rfl | (simp only [slotArgs]; rfl)
/-- the same with an int on the right -/
def spArithI (C : Addr) (fO fU : Int → Int → Int → Int → Int) : Sp := fun vs H Q E => ∃ n : Int, vs[1]? = some (.int n) ∧ spArith C fO fU vs H Q E
def spDiv (C CB : Addr) : Sp := fun vs H Q E => ∃ (x y : V) (p1 q1 p2 q2 : Int) (n : Nat), vs = [x, y] ∧ Rat C H x p1 q1 ∧ Num C H y p2 q2 ∧ Sz n p1 q1 ∧ Sz n p2 q2 ∧ 0 < n ∧ n ≤ 4000 ∧
  (p2 ≠ 0 → ∀ r p q H', Same H H' → Rat C H' r p q → Nf (p1 * q2) (q1 * p2) p q → Q r H') ∧
  (p2 = 0 → ∀ d H', H d = none → Same H H' → H' d = some (.xd [("value", .int 0), ("what", .str "under")]) → E (.ref CB) (some d) H')
/-- a made ratio that may be refused for its under -/
theorem mk_ratioE {K : PySem.W.Frag} {C CB : Addr} {H : Hp} {O U : Int} {Q : Addr → Hp → Prop} {E : XK} (hz : U.natAbs.log2 < 9000) (h : U ≠ 0 → ∀ a p q H', Same H H' → Rat C H' (.ref a) p q → Nf O U p q → Q a H')
    (he : U = 0 → ∀ d H', H d = none → Same H H' → H' d = some (.xd [("value", .int 0), ("what", .str "under")]) → E (.ref CB) (some d) H') :
    ∀ x dx, H x = none → H dx = none → dx ≠ x → spInit K C CB (.ref x :: ([.int O, .int U] ++ [])) (upd (upd H dx (.own x)) x (.ins C dx [])) (fun v H2 => v = .non ∧ Q x H2) E := by
  intro x dx nx nd ne
  refine ⟨x, dx, .int O, .int U, rfl, upd_same, kn_int O, kn_int U, fun O' U' e1 e2 hU => ?_, fun w z hb d H' hd sm hx => ?_⟩
  · cases e1
    cases e2
    exact ⟨hz, fun p q H' nf ha k => ⟨rfl, h hU x p q H' (Same.made nx nd k) ⟨⟨x, dx, rfl, ha⟩, nf.pos, nf.cop⟩ nf⟩⟩
  · rcases hb with ⟨e, _⟩ | ⟨_, e, _⟩ | ⟨_, e, rfl, rfl⟩
    · cases e
    · cases e
    · cases e
      have s0 : Same H (upd (upd H dx (.own x)) x (.ins C dx [])) := fun b o e => by
        rw [upd_ne (ne_of_none e nx), upd_ne (ne_of_none e nd)]
        exact e
      exact he rfl d H' (s0.free hd) (s0.trans sm) hx
/-! ### rational numbers: v is the fraction O / U, its terms below 2 ^ n -/
def Rp (C : Addr) (H : Hp) (v : V) (O U : Int) (n : Nat) : Prop := ∃ p q, Rat C H v p q ∧ p * U = O * q ∧ U ≠ 0 ∧ Sz n p q ∧ 0 < n
theorem Rp.same {C : Addr} {H H' : Hp} {v : V} {O U : Int} {n : Nat} (R : Rp C H v O U n) (e : Same H H') : Rp C H' v O U n := by
  obtain ⟨p, q, R, h⟩ := R
  exact ⟨p, q, R.same e, h⟩
theorem Rp.mono {C : Addr} {H : Hp} {v : V} {O U : Int} {n m : Nat} (R : Rp C H v O U n) (l : n ≤ m) : Rp C H v O U m := by
  obtain ⟨p, q, R, h1, h2, h3, h4⟩ := R
  exact ⟨p, q, R, h1, h2, h3.mono l, by omega⟩
theorem Rp.isC {C : Addr} {H : Hp} {v : V} {O U : Int} {n : Nat} (R : Rp C H v O U n) : IsC C H v := by
  obtain ⟨p, q, R, _⟩ := R
  exact R.isC
theorem Rp.nz {C : Addr} {H : Hp} {v : V} {O U : Int} {n : Nat} (R : Rp C H v O U n) : U ≠ 0 := by
  obtain ⟨p, q, _, _, h, _⟩ := R
  exact h
theorem Rp.obj {C : Addr} {H : Hp} {v : V} {O U : Int} {n : Nat} (R : Rp C H v O U n) : ∃ a dx p q, v = .ref a ∧ H a = some (.ins C dx (rfR p q)) := by
  obtain ⟨p, q, ⟨⟨a, dx, e, h⟩, _⟩, _⟩ := R
  exact ⟨a, dx, p, q, e, h⟩
/-- the same number by other terms -/
theorem Rp.as {C : Addr} {H : Hp} {v : V} {O U O' U' : Int} {n : Nat} (R : Rp C H v O U n) (hU : U' ≠ 0) (e : O * U' = O' * U) : Rp C H v O' U' n := by
  obtain ⟨p, q, R, h1, h2, h3⟩ := R
  refine ⟨p, q, R, Int.eq_of_mul_eq_mul_right h2 ?_, hU, h3⟩
  grind
theorem rp_make {C : Addr} {H : Hp} {v : V} {O U p q : Int} {n : Nat} (R : Rat C H v p q) (nf : Nf O U p q) (hU : U ≠ 0) (hO : O.natAbs < 2 ^ n) (hU2 : U.natAbs < 2 ^ n) (n0 : 0 < n) : Rp C H v O U n :=
  ⟨p, q, R, nf.eq, hU, ⟨Nat.lt_of_le_of_lt nf.le1 hO, Nat.lt_of_le_of_lt nf.le2 hU2⟩, n0⟩
theorem rp_int {C : Addr} {H : Hp} {v : V} {m : Int} {n : Nat} (R : Rat C H v m 1) (h : m.natAbs < 2 ^ n) (h0 : 0 < n) : Rp C H v m 1 n := ⟨m, 1, R, rfl, by decide, ⟨h, Nat.one_lt_two_pow (by omega)⟩, h0⟩
theorem mul_ne3 {a b : Int} (ha : a ≠ 0) (hb : b ≠ 0) : a * b ≠ 0 := Int.mul_ne_zero ha hb
section
variable {K : PySem.W.Frag} {C CB : Addr} {H : Hp} {x y : V} {O1 U1 O2 U2 : Int} {n m : Nat} {Q : VK}
theorem st_eq (T : InsC K C) (R1 : Rp C H x O1 U1 n) (R2 : Rp C H y O2 U2 m) (k : Q (.bl (decide (O1 * U2 = O2 * U1))) H) : rOwnC K C (spEqR K C) E0 x y H Q := by
  have c1 := R1.isC
  obtain ⟨p1, q1, R1, e1, u1, _⟩ := R1
  obtain ⟨p2, q2, R2, e2, u2, _⟩ := R2
  refine ⟨c1, ⟨_, R2.ty T, by simp [PySem.W.notFirst]⟩, x, y, p1, q1, rfl, R1, .inl ⟨p2, q2, R2, ?_⟩⟩
  have : (decide (p1 = p2) && decide (q1 = q2)) = decide (O1 * U2 = O2 * U1) := by
    by_cases e : O1 * U2 = O2 * U1
    · have h : p1 * q2 = p2 * q1 := Int.eq_of_mul_eq_mul_right (Int.mul_ne_zero u1 u2) (by grind)
      obtain ⟨rfl, rfl⟩ := cross_unique R1.pos R2.pos R1.cop R2.cop h
      simp [e]
    · rw [decide_eq_false e]
      by_cases hp : p1 = p2
      · by_cases hq : q1 = q2
        · subst hp
          subst hq
          exact absurd (Int.eq_of_mul_eq_mul_right (show q1 ≠ 0 from by have := R1.pos; omega) (by grind)) e
        · simp [hq]
      · simp [hp]
  rw [this]
  exact k
theorem st_eqT (T : InsC K C) (R1 : Rp C H x O1 U1 n) (R2 : Rp C H y O2 U2 m) (e : O1 * U2 = O2 * U1) (k : Q (.bl true) H) : rOwnC K C (spEqR K C) E0 x y H Q := st_eq T R1 R2 (by rw [decide_eq_true e]; exact k)
theorem st_ne (T : InsC K C) (R1 : Rp C H x O1 U1 n) (R2 : Rp C H y O2 U2 m) (k : Q (.bl (!decide (O1 * U2 = O2 * U1))) H) : rOwnNe K C (spEqR K C) E0 x y H Q := by
  obtain ⟨h1, h2, h3⟩ := st_eq (Q := fun z H' => ∃ r, z = .bl r ∧ Q (.bl (!r)) H') T R1 R2 ⟨_, rfl, k⟩
  exact ⟨h1, h2, h3⟩
theorem st_neF (T : InsC K C) (R1 : Rp C H x O1 U1 n) (R2 : Rp C H y O2 U2 m) (e : O1 * U2 = O2 * U1) (k : Q (.bl false) H) : rOwnNe K C (spEqR K C) E0 x y H Q := st_ne T R1 R2 (by rw [decide_eq_true e]; exact k)
theorem st_div (R1 : Rp C H x O1 U1 n) (R2 : Rp C H y O2 U2 n) (h2 : O2 ≠ 0) (hn : n ≤ 2000) (k : ∀ r H', Same H H' → Rp C H' r (O1 * U2) (U1 * O2) (n + n) → Q r H') {E : XK} : spDiv C CB [x, y] H Q E := by
  obtain ⟨p1, q1, R1, e1, u1, z1, n0⟩ := R1
  obtain ⟨p2, q2, R2, e2, u2, z2, _⟩ := R2
  have hp2 : p2 ≠ 0 := fun z => by
    have : O2 * q2 = 0 := by rw [← e2, z, Int.zero_mul]
    rcases Int.mul_eq_zero.mp this with z | z
    · exact h2 z
    · have := R2.pos
      omega
  have hq1 : q1 ≠ 0 := by have := R1.pos; omega
  have hq2 : q2 ≠ 0 := by have := R2.pos; omega
  refine ⟨x, y, p1, q1, p2, q2, n, rfl, R1, .rat R2, z1, z2, n0, by omega, fun _ r p q H' sm R nf => k r H' sm ⟨p, q, R, ?_, Int.mul_ne_zero u1 h2, ⟨Nat.lt_of_le_of_lt nf.le1 (wide_lt z1.1 z2.2), Nat.lt_of_le_of_lt nf.le2 (wide_lt z1.2 z2.1)⟩, by omega⟩, fun z => absurd z hp2⟩
  have e3 := nf.eq
  exact Int.eq_of_mul_eq_mul_right (Int.mul_ne_zero hq1 hp2) (by grind)
theorem st_divI {k0 : Int} (R1 : Rp C H x O1 U1 n) (hk : k0.natAbs < 2 ^ n) (h2 : k0 ≠ 0) (hn : n ≤ 2000) (k : ∀ r H', Same H H' → Rp C H' r O1 (U1 * k0) (n + n) → Q r H') {E : XK} : spDiv C CB [x, .int k0] H Q E := by
  obtain ⟨p1, q1, R1, e1, u1, z1, n0⟩ := R1
  have hq1 : q1 ≠ 0 := by have := R1.pos; omega
  have h1n : (1 : Int).natAbs < 2 ^ n := Nat.one_lt_two_pow (by omega)
  refine ⟨x, _, p1, q1, k0, 1, n, rfl, R1, .int k0, z1, ⟨hk, h1n⟩, n0, by omega, fun _ r p q H' sm R nf => k r H' sm ⟨p, q, R, ?_, Int.mul_ne_zero u1 h2, ⟨Nat.lt_of_le_of_lt nf.le1 (wide_lt z1.1 h1n), Nat.lt_of_le_of_lt nf.le2 (wide_lt z1.2 hk)⟩, by omega⟩, fun z => absurd z h2⟩
  have e3 := nf.eq
  exact Int.eq_of_mul_eq_mul_right (Int.mul_ne_zero hq1 h2) (by grind)
theorem st_add (R1 : Rp C H x O1 U1 n) (R2 : Rp C H y O2 U2 n) (hn : n ≤ 2000) (k : ∀ r H', Same H H' → Rp C H' r (O1 * U2 + O2 * U1) (U1 * U2) (n + n + 1) → Q r H') : rOwnB C (spArith C (fun p1 q1 p2 q2 => p1 * q2 + p2 * q1) (fun p1 q1 p2 q2 => q1 * q2)) E0 x y H Q := by
  have c1 := R1.isC
  have c2 := R2.isC
  obtain ⟨p1, q1, R1, e1, u1, z1, n0⟩ := R1
  obtain ⟨p2, q2, R2, e2, u2, z2, _⟩ := R2
  have hq1 : q1 ≠ 0 := by have := R1.pos; omega
  have hq2 : q2 ≠ 0 := by have := R2.pos; omega
  refine ⟨c1, c2, x, y, p1, q1, p2, q2, n, rfl, R1, .rat R2, z1, z2, n0, by omega, fun r p q H' sm R nf => k r H' sm ⟨p, q, R, ?_, Int.mul_ne_zero u1 u2, ⟨Nat.lt_of_le_of_lt nf.le1 (sz_add z1.1 z2.2 z2.1 z1.2), Nat.lt_of_le_of_lt nf.le2 (Nat.lt_of_lt_of_le (wide_lt z1.2 z2.2) (Nat.pow_le_pow_right (by decide) (by omega)))⟩, by omega⟩⟩
  have e3 := nf.eq
  exact Int.eq_of_mul_eq_mul_right (Int.mul_ne_zero hq1 hq2) (by grind)
theorem st_addI {k0 : Int} (R1 : Rp C H x O1 U1 n) (hk : k0.natAbs < 2 ^ n) (hn : n ≤ 2000) (k : ∀ r H', Same H H' → Rp C H' r (O1 + k0 * U1) U1 (n + n + 1) → Q r H') : rOwnI C (spArith C (fun p1 q1 p2 q2 => p1 * q2 + p2 * q1) (fun p1 q1 p2 q2 => q1 * q2)) E0 x (.int k0) H Q := by
  have c1 := R1.isC
  obtain ⟨p1, q1, R1, e1, u1, z1, n0⟩ := R1
  have hq1 : q1 ≠ 0 := by have := R1.pos; omega
  have h1n : (1 : Int).natAbs < 2 ^ n := Nat.one_lt_two_pow (by omega)
  have z2 : Sz n k0 1 := ⟨hk, h1n⟩
  refine ⟨c1, ⟨_, rfl⟩, x, _, p1, q1, k0, 1, n, rfl, R1, .int k0, z1, z2, n0, by omega, fun r p q H' sm R nf => k r H' sm ⟨p, q, R, ?_, u1, ⟨Nat.lt_of_le_of_lt nf.le1 (sz_add z1.1 z2.2 z2.1 z1.2), Nat.lt_of_le_of_lt nf.le2 (Nat.lt_of_lt_of_le (wide_lt z1.2 z2.2) (Nat.pow_le_pow_right (by decide) (by omega)))⟩, by omega⟩⟩
  have e3 := nf.eq
  exact Int.eq_of_mul_eq_mul_right hq1 (by grind)
theorem st_sub (R1 : Rp C H x O1 U1 n) (R2 : Rp C H y O2 U2 n) (hn : n ≤ 2000) (k : ∀ r H', Same H H' → Rp C H' r (O1 * U2 - O2 * U1) (U1 * U2) (n + n + 1) → Q r H') : rOwnB C (spArith C (fun p1 q1 p2 q2 => p1 * q2 - p2 * q1) (fun p1 q1 p2 q2 => q1 * q2)) E0 x y H Q := by
  have c1 := R1.isC
  have c2 := R2.isC
  obtain ⟨p1, q1, R1, e1, u1, z1, n0⟩ := R1
  obtain ⟨p2, q2, R2, e2, u2, z2, _⟩ := R2
  have hq1 : q1 ≠ 0 := by have := R1.pos; omega
  have hq2 : q2 ≠ 0 := by have := R2.pos; omega
  refine ⟨c1, c2, x, y, p1, q1, p2, q2, n, rfl, R1, .rat R2, z1, z2, n0, by omega, fun r p q H' sm R nf => k r H' sm ⟨p, q, R, ?_, Int.mul_ne_zero u1 u2, ⟨Nat.lt_of_le_of_lt nf.le1 (sz_sub z1.1 z2.2 z2.1 z1.2), Nat.lt_of_le_of_lt nf.le2 (Nat.lt_of_lt_of_le (wide_lt z1.2 z2.2) (Nat.pow_le_pow_right (by decide) (by omega)))⟩, by omega⟩⟩
  have e3 := nf.eq
  exact Int.eq_of_mul_eq_mul_right (Int.mul_ne_zero hq1 hq2) (by grind)
theorem st_subI {k0 : Int} (R1 : Rp C H x O1 U1 n) (hk : k0.natAbs < 2 ^ n) (hn : n ≤ 2000) (k : ∀ r H', Same H H' → Rp C H' r (O1 - k0 * U1) U1 (n + n + 1) → Q r H') : rOwnI C (spArith C (fun p1 q1 p2 q2 => p1 * q2 - p2 * q1) (fun p1 q1 p2 q2 => q1 * q2)) E0 x (.int k0) H Q := by
  have c1 := R1.isC
  obtain ⟨p1, q1, R1, e1, u1, z1, n0⟩ := R1
  have hq1 : q1 ≠ 0 := by have := R1.pos; omega
  have h1n : (1 : Int).natAbs < 2 ^ n := Nat.one_lt_two_pow (by omega)
  have z2 : Sz n k0 1 := ⟨hk, h1n⟩
  refine ⟨c1, ⟨_, rfl⟩, x, _, p1, q1, k0, 1, n, rfl, R1, .int k0, z1, z2, n0, by omega, fun r p q H' sm R nf => k r H' sm ⟨p, q, R, ?_, u1, ⟨Nat.lt_of_le_of_lt nf.le1 (sz_sub z1.1 z2.2 z2.1 z1.2), Nat.lt_of_le_of_lt nf.le2 (Nat.lt_of_lt_of_le (wide_lt z1.2 z2.2) (Nat.pow_le_pow_right (by decide) (by omega)))⟩, by omega⟩⟩
  have e3 := nf.eq
  exact Int.eq_of_mul_eq_mul_right hq1 (by grind)
theorem st_mul (R1 : Rp C H x O1 U1 n) (R2 : Rp C H y O2 U2 n) (hn : n ≤ 2000) (k : ∀ r H', Same H H' → Rp C H' r (O1 * O2) (U1 * U2) (n + n + 1) → Q r H') : rOwnB C (spArith C (fun p1 q1 p2 q2 => p1 * p2) (fun p1 q1 p2 q2 => q1 * q2)) E0 x y H Q := by
  have c1 := R1.isC
  have c2 := R2.isC
  obtain ⟨p1, q1, R1, e1, u1, z1, n0⟩ := R1
  obtain ⟨p2, q2, R2, e2, u2, z2, _⟩ := R2
  have hq1 : q1 ≠ 0 := by have := R1.pos; omega
  have hq2 : q2 ≠ 0 := by have := R2.pos; omega
  refine ⟨c1, c2, x, y, p1, q1, p2, q2, n, rfl, R1, .rat R2, z1, z2, n0, by omega, fun r p q H' sm R nf => k r H' sm ⟨p, q, R, ?_, Int.mul_ne_zero u1 u2, ⟨Nat.lt_of_le_of_lt nf.le1 (Nat.lt_of_lt_of_le (wide_lt z1.1 z2.1) (Nat.pow_le_pow_right (by decide) (by omega))), Nat.lt_of_le_of_lt nf.le2 (Nat.lt_of_lt_of_le (wide_lt z1.2 z2.2) (Nat.pow_le_pow_right (by decide) (by omega)))⟩, by omega⟩⟩
  have e3 := nf.eq
  exact Int.eq_of_mul_eq_mul_right (Int.mul_ne_zero hq1 hq2) (by grind)
theorem st_mulI {k0 : Int} (R1 : Rp C H x O1 U1 n) (hk : k0.natAbs < 2 ^ n) (hn : n ≤ 2000) (k : ∀ r H', Same H H' → Rp C H' r (O1 * k0) U1 (n + n + 1) → Q r H') : rOwnI C (spArith C (fun p1 q1 p2 q2 => p1 * p2) (fun p1 q1 p2 q2 => q1 * q2)) E0 x (.int k0) H Q := by
  have c1 := R1.isC
  obtain ⟨p1, q1, R1, e1, u1, z1, n0⟩ := R1
  have hq1 : q1 ≠ 0 := by have := R1.pos; omega
  have h1n : (1 : Int).natAbs < 2 ^ n := Nat.one_lt_two_pow (by omega)
  have z2 : Sz n k0 1 := ⟨hk, h1n⟩
  refine ⟨c1, ⟨_, rfl⟩, x, _, p1, q1, k0, 1, n, rfl, R1, .int k0, z1, z2, n0, by omega, fun r p q H' sm R nf => k r H' sm ⟨p, q, R, ?_, u1, ⟨Nat.lt_of_le_of_lt nf.le1 (Nat.lt_of_lt_of_le (wide_lt z1.1 z2.1) (Nat.pow_le_pow_right (by decide) (by omega))), Nat.lt_of_le_of_lt nf.le2 (Nat.lt_of_lt_of_le (wide_lt z1.2 z2.2) (Nat.pow_le_pow_right (by decide) (by omega)))⟩, by omega⟩⟩
  have e3 := nf.eq
  exact Int.eq_of_mul_eq_mul_right hq1 (by grind)
theorem st_addR {k0 : Int} (R1 : Rp C H x O1 U1 n) (hk : k0.natAbs < 2 ^ n) (hn : n ≤ 2000) (k : ∀ r H', Same H H' → Rp C H' r (O1 + k0 * U1) U1 (n + n + 1) → Q r H') : rOwnR C (spArithI C (fun p1 q1 p2 q2 => p1 * q2 + p2 * q1) (fun p1 q1 p2 q2 => q1 * q2)) E0 (.int k0) x H Q := by
  have c1 := R1.isC
  obtain ⟨p1, q1, R1, e1, u1, z1, n0⟩ := R1
  have hq1 : q1 ≠ 0 := by have := R1.pos; omega
  have h1n : (1 : Int).natAbs < 2 ^ n := Nat.one_lt_two_pow (by omega)
  have z2 : Sz n k0 1 := ⟨hk, h1n⟩
  refine ⟨⟨_, rfl⟩, c1, k0, rfl, x, _, p1, q1, k0, 1, n, rfl, R1, .int k0, z1, z2, n0, by omega, fun r p q H' sm R nf => k r H' sm ⟨p, q, R, ?_, u1, ⟨Nat.lt_of_le_of_lt nf.le1 (sz_add z1.1 z2.2 z2.1 z1.2), Nat.lt_of_le_of_lt nf.le2 (Nat.lt_of_lt_of_le (wide_lt z1.2 z2.2) (Nat.pow_le_pow_right (by decide) (by omega)))⟩, by omega⟩⟩
  have e3 := nf.eq
  exact Int.eq_of_mul_eq_mul_right hq1 (by grind)
theorem st_subR {k0 : Int} (R1 : Rp C H x O1 U1 n) (hk : k0.natAbs < 2 ^ n) (hn : n ≤ 2000) (k : ∀ r H', Same H H' → Rp C H' r (k0 * U1 - O1) U1 (n + n + 1) → Q r H') : rOwnR C (spArithI C (fun p1 q1 p2 q2 => p2 * q1 - p1 * q2) (fun p1 q1 p2 q2 => q2 * q1)) E0 (.int k0) x H Q := by
  have c1 := R1.isC
  obtain ⟨p1, q1, R1, e1, u1, z1, n0⟩ := R1
  have hq1 : q1 ≠ 0 := by have := R1.pos; omega
  have h1n : (1 : Int).natAbs < 2 ^ n := Nat.one_lt_two_pow (by omega)
  have z2 : Sz n k0 1 := ⟨hk, h1n⟩
  refine ⟨⟨_, rfl⟩, c1, k0, rfl, x, _, p1, q1, k0, 1, n, rfl, R1, .int k0, z1, z2, n0, by omega, fun r p q H' sm R nf => k r H' sm ⟨p, q, R, ?_, u1, ⟨Nat.lt_of_le_of_lt nf.le1 (sz_sub z2.1 z1.2 z1.1 z2.2), Nat.lt_of_le_of_lt nf.le2 (Nat.lt_of_lt_of_le (wide_lt z2.2 z1.2) (Nat.pow_le_pow_right (by decide) (by omega)))⟩, by omega⟩⟩
  have e3 := nf.eq
  exact Int.eq_of_mul_eq_mul_right hq1 (by grind)
theorem st_mulR {k0 : Int} (R1 : Rp C H x O1 U1 n) (hk : k0.natAbs < 2 ^ n) (hn : n ≤ 2000) (k : ∀ r H', Same H H' → Rp C H' r (O1 * k0) U1 (n + n + 1) → Q r H') : rOwnR C (spArithI C (fun p1 q1 p2 q2 => p1 * p2) (fun p1 q1 p2 q2 => q1 * q2)) E0 (.int k0) x H Q := by
  have c1 := R1.isC
  obtain ⟨p1, q1, R1, e1, u1, z1, n0⟩ := R1
  have hq1 : q1 ≠ 0 := by have := R1.pos; omega
  have h1n : (1 : Int).natAbs < 2 ^ n := Nat.one_lt_two_pow (by omega)
  have z2 : Sz n k0 1 := ⟨hk, h1n⟩
  refine ⟨⟨_, rfl⟩, c1, k0, rfl, x, _, p1, q1, k0, 1, n, rfl, R1, .int k0, z1, z2, n0, by omega, fun r p q H' sm R nf => k r H' sm ⟨p, q, R, ?_, u1, ⟨Nat.lt_of_le_of_lt nf.le1 (Nat.lt_of_lt_of_le (wide_lt z1.1 z2.1) (Nat.pow_le_pow_right (by decide) (by omega))), Nat.lt_of_le_of_lt nf.le2 (Nat.lt_of_lt_of_le (wide_lt z1.2 z2.2) (Nat.pow_le_pow_right (by decide) (by omega)))⟩, by omega⟩⟩
  have e3 := nf.eq
  exact Int.eq_of_mul_eq_mul_right hq1 (by grind)
end
/-! ### lists and tuples: walks, comprehensions -/
/-- a list or a tuple -/
def iSeq (K : PySem.W.Frag) (tl : TE) : TI := fun σ H R => tl σ H fun x H1 => ∃ a, x = .ref a ∧ (((∃ xs, SqL K H1 a xs) ∧ R (Itl K a) H1) ∨ ((∃ xs, SqT K H1 a xs) ∧ R (Itt K a) H1))
theorem pi_seq {X : Cx} {tg l : Expr} {tl : TE} (hl : PE X l tl) : PI X tg l (iSeq X.K tl) := by
  constructor
  intro pins s σ H R I h
  refine thn (hl.run pins s σ H _ I h) fun v t ⟨x, Hb, J, rx, a, ex, k⟩ => ?_
  subst ex
  cases rx
  rcases k with ⟨⟨xs, hq⟩, k⟩ | ⟨⟨xs, hq⟩, k⟩
  · obtain ⟨its, -, plc, -⟩ := J.list hq
    refine wpAny_pyIter_list plc.isList ⟨t.heap.objs.size, [t.heap.objs.size], _, _, Hb, rfl, J.kept (t' := t.toks) (fun _ _ e => Heap.get?_push_of_some _ e), turn_list a _, ⟨_, Heap.get?_push_size _ rfl, rfl, rfl⟩, ?_, k⟩
    intro b hb
    obtain rfl : b = t.heap.objs.size := by simpa using hb
    exact J.fpOk (Nat.le_refl _) (J.hok.fresh (Nat.le_refl _))
  · obtain ⟨its, -, plc, -⟩ := J.tuple hq
    refine wpAny_pyIter_tuple (show t.heap.IsTuple a its.toArray from plc) ⟨t.heap.objs.size, [t.heap.objs.size], _, _, Hb, rfl, J.kept (t' := t.toks) (fun _ _ e => Heap.get?_push_of_some _ e), turn_tuple a _, ⟨_, Heap.get?_push_size _ rfl, rfl, rfl⟩, ?_, k⟩
    intro b hb
    obtain rfl : b = t.heap.objs.size := by simpa using hb
    exact J.fpOk (Nat.le_refl _) (J.hok.fresh (Nat.le_refl _))
def rListOf (K : PySem.W.Frag) : List V → Hp → VK → Prop := fun xs H Q => ∃ p ys, xs = [.ref p] ∧ (SqL K H p ys ∨ SqT K H p ys) ∧ ∀ l, H l = none → Q (.ref l) (upd H l (.lst ys))
def rTupOf (K : PySem.W.Frag) : List V → Hp → VK → Prop := fun xs H Q => ∃ p ys, xs = [.ref p] ∧ ((SqL K H p ys ∧ ∀ l, H l = none → Q (.ref l) (upd H l (.tup ys))) ∨ (SqT K H p ys ∧ Q (.ref p) H))
/-! rules whose written part is named (within a comprehension) -/
theorem opK {X : Cx} {K : PySem.W.Frag} {f : Value → Value → Sem Value} (h : X.K = K) (r : PySem.W.Frag → R2) (o : OpR X f (r X.K)) : OpR X f (r K) := h ▸ o
theorem crK {X : Cx} {K : PySem.W.Frag} {f : Value} (h : X.K = K) (r : PySem.W.Frag → List V → Hp → VK → Prop) (o : CallR X f (r X.K)) : CallR X f (r K) := h ▸ o
theorem slK {X : Cx} {K : PySem.W.Frag} (h : X.K = K) (r : PySem.W.Frag → V → Option Int → Option Int → Hp → VK → Prop) (o : SlR X (r X.K)) : SlR X (r K) := h ▸ o
/-- a number as a test -/
def tInt (ta : TE) : TT := fun σ H Q => ta σ H fun x H' => ∃ i, x = .int i ∧ Q (i != 0) H'
theorem pt_int {X : Cx} {a : Expr} {ta : TE} (ha : PE X a ta) (he : ∀ whole, isTrue a X.env whole = (do let v ← whole; standAt a.pos; holding [v] (truthy v)) := by intro _; rfl) : PT X a (tInt ta) := by
  constructor
  intro pins s σ H Q I h
  refine isTrue_plain (thn (ha.run pins s σ H _ I h) fun v t ⟨x, Hb, J, rx, i, ex, k⟩ => ?_) (he _)
  subst ex
  exact tru_ok pins t σ Hb (.int i) v Q J rx ⟨_, rfl, k⟩
/-- the answer of a sign, by another name -/
theorem opN {g : Int → Int → V} {i j : Int} {z : V} {H : Hp} {Q : VK} (e : g i j = z) (k : Q z H) : rI0 g (.int i) (.int j) H Q := ⟨i, j, rfl, rfl, by show Q (g i j) H; rw [e]; exact k⟩
/-- all but lists stand -/
def SameT (H H' : Hp) : Prop := ∀ b o, H b = some o → (∀ xs, o ≠ .lst xs) → H' b = some o
theorem SameT.refl {H : Hp} : SameT H H := fun _ _ h _ => h
theorem SameT.trans {H H1 H2 : Hp} (a : SameT H H1) (b : SameT H1 H2) : SameT H H2 := fun c o h n => b c o (a c o h n) n
theorem Same.toT {H H' : Hp} (e : Same H H') : SameT H H' := fun b o h _ => e b o h
theorem sameT_upd {H : Hp} {p : Addr} {xs ys : List V} (h : H p = some (.lst xs)) : SameT H (upd H p (.lst ys)) := fun b o e n => by
  rw [upd_ne (ne_of e h (n xs))]
  exact e
theorem SameT.tup {H H' : Hp} {a : Addr} {xs : List V} (e : SameT H H') (h : H a = some (.tup xs)) : H' a = some (.tup xs) := e _ _ h (fun _ z => nomatch z)
theorem SameT.ins {H H' : Hp} {a C dx : Addr} {fs : List (Str × V)} (e : SameT H H') (h : H a = some (.ins C dx fs)) : H' a = some (.ins C dx fs) := e _ _ h (fun _ z => nomatch z)
theorem SameT.seqT {K : PySem.W.Frag} {H H' : Hp} {a : Addr} {xs : List V} (e : SameT H H') (h : SqT K H a xs) : SqT K H' a xs := by
  rcases h with (h | ⟨o, h⟩) | h
  · exact .inl (.inl (e.tup h))
  · exact .inl (.inr ⟨o, e _ _ h (fun _ z => nomatch z)⟩)
  · exact .inr h
theorem prImp {α β : Type} {F G : α → β → Prop} (h : ∀ a b, F a b → G a b) : ∀ {xs : List α} {ys : List β}, Paired F xs ys → Paired G xs ys
  | _, _, .nil => .nil
  | _, _, .cons a t => .cons (h _ _ a) (prImp h t)
theorem paired_eq {xs ys : List V} (h : Paired (fun a y => y = a) xs ys) : ys = xs := by
  induction h with
  | nil => rfl
  | cons a _ ih => rw [a, ih]
theorem paired_fn {α : Type} {f : α → V} {xs : List α} {ys : List V} (h : Paired (fun a y => y = f a) xs ys) : ys = xs.map f := by
  induction h with
  | nil => rfl
  | cons a _ ih => rw [a, ih, List.map_cons]
theorem prLen {α β : Type} {F : α → β → Prop} {xs : List α} {ys : List β} (h : Paired F xs ys) : ys.length = xs.length := by
  induction h with
  | nil => rfl
  | cons _ _ ih => rw [List.length_cons, List.length_cons, ih]
theorem prAt {α β : Type} {F : α → β → Prop} {xs : List α} {ys : List β} (h : Paired F xs ys) : ∀ {i : Nat} {y : β}, ys[i]? = some y → ∃ x, xs[i]? = some x ∧ F x y := by
  induction h with
  | nil => intro i y e; simp at e
  | cons a _ ih =>
    intro i y e
    cases i with
    | zero =>
      cases e
      exact ⟨_, rfl, a⟩
    | succ i => exact ih (i := i) (by simpa using e)
theorem prAt2 {α β : Type} {F : α → β → Prop} {xs : List α} {ys : List β} (h : Paired F xs ys) : ∀ {i : Nat} {x : α}, xs[i]? = some x → ∃ y, ys[i]? = some y ∧ F x y := by
  induction h with
  | nil => intro i y e; simp at e
  | cons a _ ih =>
    intro i y e
    cases i with
    | zero =>
      cases e
      exact ⟨_, rfl, a⟩
    | succ i => exact ih (i := i) (by simpa using e)
theorem prApp {α β : Type} {F : α → β → Prop} : ∀ {xs : List α} {ys : List β} {xs' : List α} {ys' : List β}, Paired F xs ys → Paired F xs' ys' → Paired F (xs ++ xs') (ys ++ ys')
  | _, _, _, _, .nil, h => h
  | _, _, _, _, .cons a t, h => .cons a (prApp t h)
theorem prMapL {α β γ : Type} {F : α → β → Prop} {f : γ → α} : ∀ {xs : List γ} {ys : List β}, Paired (fun c b => F (f c) b) xs ys → Paired F (xs.map f) ys
  | _, _, .nil => .nil
  | _, _, .cons a t => .cons a (prMapL t)
theorem prUnmapL {α β γ : Type} {F : α → β → Prop} {f : γ → α} : ∀ {xs : List γ} {ys : List β}, Paired F (xs.map f) ys → Paired (fun c b => F (f c) b) xs ys
  | [], _, .nil => .nil
  | _ :: _, _, .cons a t => .cons a (prUnmapL t)
theorem paired_dp {K : PySem.W.Frag} {H : Hp} {α : Type} {f : α → PyData} : ∀ {xs : List α} {ys : List V}, Paired (fun a y => Dp K H y (f a)) xs ys → DpAll K H ys (xs.map f)
  | _, _, .nil => .nil
  | _, _, .cons a t => .cons a (paired_dp t)
theorem dps_paired {K : PySem.W.Frag} {H : Hp} {α : Type} {f : α → PyData} : ∀ {xs : List α} {ys : List V}, DpAll K H ys (xs.map f) → Paired (fun a y => Dp K H y (f a)) xs ys
  | [], _, .nil => .nil
  | _ :: _, _, .cons a t => .cons a (dps_paired t)
/-- a comprehension: f tells what each turn gives (none: nothing), R how it is told by a value -/
theorem lc_itM {J : It} {n : Nat} {G : Hp → Prop} {Y : Nat → Hp → V → Hp → Prop} (w : Walk J n G Y) {α : Type} (f : Nat → Option α) (R : α → V → Hp → Prop) (st : ∀ a y H H', SameT H H' → R a y H → R a y H')
    {g : TG} {tt : TT} {te : TE} {vs : List Nat} {σ : L2.St} {H1 : Hp} {D : Addr} {Qd : Hp → Prop} (nD : H1 D = none) (hG : ∀ H, Same H1 H → G H) (hn : n ≤ 100000)
    (hs : ∀ i x H H' (k : V → Hp → Prop) (N : Hp → Prop), i < n → Same H1 H → Y i H x H' → (∀ y H4 a, Same H H4 → f i = some a → R a y H4 → k y H4) → (∀ H3, Same H H3 → f i = none → N H3) →
      g x (wipe σ vs) H' fun σ2 H2 => wipe σ2 vs = wipe σ vs ∧ tt σ2 H2 fun b H3 => if b = true then te σ2 H3 k else N H3)
    (hd : ∀ H' ys, Same H1 H' → H' D = some (.lst ys) → Paired (fun a y => R a y H') ((List.range n).filterMap f) ys → Qd H') :
    ∃ W : Nat → Nat → Hp → Prop, (∃ m, W 0 m (upd H1 D (.lst []))) ∧ ∀ i m H, W i m H →
      (J.stop i H ∧ Qd H) ∨ (J.go i H ∧ ∃ Nx : Hp → Prop, (∀ H', Nx H' → ∃ m', m' < m ∧ W (i + 1) m' H') ∧ ∀ x H', J.yld i H x H' → g x (wipe σ vs) H' fun σ2 H2 => wipe σ2 vs = wipe σ vs ∧ tt σ2 H2 fun b H3 =>
        if b = true then te σ2 H3 fun y H4 => ∃ acc, H4 D = some (.lst acc) ∧ acc.length < sizeLine ∧ Nx (upd H4 D (.lst (acc ++ [y]))) else Nx H3) := by
  have e100 : (100000 : Nat) < sizeLine := by decide
  refine lc_it w (fun i H => i ≤ n ∧ Same H1 H ∧ ∃ ys, H D = some (.lst ys) ∧ ys.length ≤ i ∧ Paired (fun a y => R a y H) ((List.range i).filterMap f) ys)
    ⟨Nat.zero_le _, same_upd nD, [], upd_same, Nat.le_refl _, .nil⟩ (fun i H _ h => hG H h.2.1) ?_ fun H h => by
      obtain ⟨_, sm, ys, hD, _, p⟩ := h
      exact hd H ys sm hD p
  rintro i x H H' hi ⟨_, sm, ys, hD, hl, p⟩ y
  refine hs i x H H' _ _ hi sm y (fun z H4 a s4 hf hr => ?_) fun H3 s3 hf => ?_
  · have h4 := s4 _ _ hD
    refine ⟨ys, h4, by omega, hi, same_upd2 (sm.trans s4) nD, _, upd_same, by rw [List.length_append, List.length_singleton]; omega, ?_⟩
    rw [List.range_succ, List.filterMap_append]
    have t4 : SameT H4 (upd H4 D (.lst (ys ++ [z]))) := sameT_upd h4
    refine prApp (prImp (fun a y' h => st a y' _ _ ((Same.toT s4).trans t4) h) p) ?_
    rw [List.filterMap_cons, hf]
    exact .cons (st a z _ _ t4 hr) .nil
  · refine ⟨hi, sm.trans s3, ys, s3 _ _ hD, by omega, ?_⟩
    rw [List.range_succ, List.filterMap_append, List.filterMap_cons, hf]
    rw [← List.append_nil ys]
    exact prApp (prImp (fun a y' h => st a y' _ _ (Same.toT s3) h) p) .nil
/-- .. where each turn gives something -/
theorem lc_itA {J : It} {n : Nat} {G : Hp → Prop} {Y : Nat → Hp → V → Hp → Prop} (w : Walk J n G Y) {α : Type} (f : Nat → α) (R : α → V → Hp → Prop) (st : ∀ a y H H', SameT H H' → R a y H → R a y H')
    {g : TG} {te : TE} {vs : List Nat} {σ : L2.St} {H1 : Hp} {D : Addr} {Qd : Hp → Prop} (nD : H1 D = none) (hG : ∀ H, Same H1 H → G H) (hn : n ≤ 100000)
    (hs : ∀ i x H H' (k : V → Hp → Prop), i < n → Same H1 H → Y i H x H' → (∀ y H4, Same H H4 → R (f i) y H4 → k y H4) → g x (wipe σ vs) H' fun σ2 H2 => wipe σ2 vs = wipe σ vs ∧ te σ2 H2 k)
    (hd : ∀ H' ys, Same H1 H' → H' D = some (.lst ys) → Paired (fun a y => R a y H') ((List.range n).map f) ys → Qd H') :
    ∃ W : Nat → Nat → Hp → Prop, (∃ m, W 0 m (upd H1 D (.lst []))) ∧ ∀ i m H, W i m H →
      (J.stop i H ∧ Qd H) ∨ (J.go i H ∧ ∃ Nx : Hp → Prop, (∀ H', Nx H' → ∃ m', m' < m ∧ W (i + 1) m' H') ∧ ∀ x H', J.yld i H x H' → g x (wipe σ vs) H' fun σ2 H2 => wipe σ2 vs = wipe σ vs ∧ tYes σ2 H2 fun b H3 =>
        if b = true then te σ2 H3 fun y H4 => ∃ acc, H4 D = some (.lst acc) ∧ acc.length < sizeLine ∧ Nx (upd H4 D (.lst (acc ++ [y]))) else Nx H3) := by
  refine lc_itM w (fun i => some (f i)) R st nD hG hn (fun i x H H' k N hi sm y hk _ => ?_) fun H' ys sm hD p => hd H' ys sm hD ?_
  · have := hs i x H H' k hi sm y fun y H4 s4 hr => hk y H4 _ s4 rfl hr
    exact this
  · rw [← List.filterMap_eq_map]
    exact p
theorem range_get {α β : Type} (g : α → β) (d : α) (xs : List α) : (List.range xs.length).map (fun i => g (xs.getD i d)) = xs.map g := by
  refine List.ext_getElem (by simp) fun i h1 h2 => ?_
  simp at h1
  simp [h1]
theorem range_getM {α β : Type} (g : α → Option β) (d : α) : ∀ (xs : List α), (List.range xs.length).filterMap (fun i => g (xs.getD i d)) = xs.filterMap g := fun xs => by
  have := congrArg (List.filterMap id) (range_get g d xs)
  rw [List.filterMap_map, List.filterMap_map] at this
  exact this
/-- a comprehension over what a list, a tuple holds -/
theorem lc_xsM {J : It} {xs : List V} {G : Hp → Prop} (w : Walk J xs.length G (YAt xs)) {α : Type} (f : V → Option α) (R : α → V → Hp → Prop) (st : ∀ a y H H', SameT H H' → R a y H → R a y H')
    {g : TG} {tt : TT} {te : TE} {vs : List Nat} {σ : L2.St} {H1 : Hp} {D : Addr} {Qd : Hp → Prop} (nD : H1 D = none) (hG : ∀ H, Same H1 H → G H) (hn : xs.length ≤ 100000)
    (hs : ∀ (i : Nat) (x : V) (H : Hp) (k : V → Hp → Prop) (N : Hp → Prop), xs[i]? = some x → Same H1 H → (∀ y H4 a, Same H H4 → f x = some a → R a y H4 → k y H4) → (∀ H3, Same H H3 → f x = none → N H3) →
      g x (wipe σ vs) H fun σ2 H2 => wipe σ2 vs = wipe σ vs ∧ tt σ2 H2 fun b H3 => if b = true then te σ2 H3 k else N H3)
    (hd : ∀ H' ys, Same H1 H' → H' D = some (.lst ys) → Paired (fun a y => R a y H') (xs.filterMap f) ys → Qd H') :
    ∃ W : Nat → Nat → Hp → Prop, (∃ m, W 0 m (upd H1 D (.lst []))) ∧ ∀ i m H, W i m H →
      (J.stop i H ∧ Qd H) ∨ (J.go i H ∧ ∃ Nx : Hp → Prop, (∀ H', Nx H' → ∃ m', m' < m ∧ W (i + 1) m' H') ∧ ∀ x H', J.yld i H x H' → g x (wipe σ vs) H' fun σ2 H2 => wipe σ2 vs = wipe σ vs ∧ tt σ2 H2 fun b H3 =>
        if b = true then te σ2 H3 fun y H4 => ∃ acc, H4 D = some (.lst acc) ∧ acc.length < sizeLine ∧ Nx (upd H4 D (.lst (acc ++ [y]))) else Nx H3) := by
  refine lc_itM w (fun i => f (xs.getD i .non)) R st nD hG hn (fun i x H H' k N hi sm y h1 h2 => ?_) fun H' ys sm hD p => hd H' ys sm hD ?_
  · obtain ⟨rfl, hx⟩ := y
    have e : xs.getD i .non = x := by rw [List.getD_eq_getElem?_getD, hx] <;> rfl
    rw [e] at h1 h2
    exact hs i x _ k N hx sm h1 h2
  · rw [← range_getM f .non xs]
    exact p
theorem lc_xsA {J : It} {xs : List V} {G : Hp → Prop} (w : Walk J xs.length G (YAt xs)) {α : Type} (f : V → α) (R : α → V → Hp → Prop) (st : ∀ a y H H', SameT H H' → R a y H → R a y H')
    {g : TG} {te : TE} {vs : List Nat} {σ : L2.St} {H1 : Hp} {D : Addr} {Qd : Hp → Prop} (nD : H1 D = none) (hG : ∀ H, Same H1 H → G H) (hn : xs.length ≤ 100000)
    (hs : ∀ (i : Nat) (x : V) (H : Hp) (k : V → Hp → Prop), xs[i]? = some x → Same H1 H → (∀ y H4, Same H H4 → R (f x) y H4 → k y H4) → g x (wipe σ vs) H fun σ2 H2 => wipe σ2 vs = wipe σ vs ∧ te σ2 H2 k)
    (hd : ∀ H' ys, Same H1 H' → H' D = some (.lst ys) → Paired (fun a y => R a y H') (xs.map f) ys → Qd H') :
    ∃ W : Nat → Nat → Hp → Prop, (∃ m, W 0 m (upd H1 D (.lst []))) ∧ ∀ i m H, W i m H →
      (J.stop i H ∧ Qd H) ∨ (J.go i H ∧ ∃ Nx : Hp → Prop, (∀ H', Nx H' → ∃ m', m' < m ∧ W (i + 1) m' H') ∧ ∀ x H', J.yld i H x H' → g x (wipe σ vs) H' fun σ2 H2 => wipe σ2 vs = wipe σ vs ∧ tYes σ2 H2 fun b H3 =>
        if b = true then te σ2 H3 fun y H4 => ∃ acc, H4 D = some (.lst acc) ∧ acc.length < sizeLine ∧ Nx (upd H4 D (.lst (acc ++ [y]))) else Nx H3) := by
  refine lc_itA w (fun i => f (xs.getD i .non)) R st nD hG hn (fun i x H H' k hi sm y h1 => ?_) fun H' ys sm hD p => hd H' ys sm hD ?_
  · obtain ⟨rfl, hx⟩ := y
    have e : xs.getD i .non = x := by rw [List.getD_eq_getElem?_getD, hx] <;> rfl
    rw [e] at h1
    exact hs i x _ k hx sm h1
  · rw [← range_get f .non xs]
    exact p
/-- all that stands but what is at t -/
def Exc (t : Addr) (H H' : Hp) : Prop := ∀ b o, b ≠ t → H b = some o → H' b = some o
theorem Exc.refl {t : Addr} {H : Hp} : Exc t H H := fun _ _ _ h => h
theorem Exc.trans {t : Addr} {H H1 H2 : Hp} (a : Exc t H H1) (b : Exc t H1 H2) : Exc t H H2 := fun c o n h => b c o n (a c o n h)
theorem But.exc {t : Addr} {H H' : Hp} (b : But t H H') : Exc t H H' := fun c o n h => (b c n).trans h
theorem exc_same {t : Addr} {H H' : Hp} (e : Same H H') : Exc t H H' := fun c o _ h => e c o h
theorem exc_upd {t p : Addr} {H : Hp} {o : HO} (h : H p = none) : Exc t H (upd H p o) := exc_same (same_upd h)
theorem Drw.exc {K : PySem.W.Frag} {H0 H H' : Hp} {l t : Addr} (D : Drw K H0 l t H) (e : Same H H') : Drw K H0 l t H' := D.mono e
theorem Drw.ne {K : PySem.W.Frag} {H0 H : Hp} {l t p : Addr} (D : Drw K H0 l t H) (h : H p = none) : p ≠ t := fun z => by
  obtain ⟨a, b, c, d, e⟩ := D.st
  rw [← z, h] at e
  cases e
theorem Drw.updN {K : PySem.W.Frag} {H0 H H' : Hp} {l t p : Addr} {o : HO} (D : Drw K H0 l t H') (h : H0 p = none) (n : p ≠ t) : Drw K H0 l t (L2.upd H' p o) := by
  obtain ⟨a, b, c, d, e⟩ := D.st
  exact ⟨D.scr, D.new, same_upd2 D.same h, ⟨a, b, c, d, by rw [upd_ne (Ne.symm n)]; exact e⟩⟩
/-- a list of draws -/
theorem lc_draws {K : PySem.W.Frag} {g : TG} {te : TE} {vs : List Nat} {σ : L2.St} {H H1 : Hp} {D l t : Addr} {Qd : Hp → Prop} {lo : Int} (m : Int) (n : Nat) (D1 : Drw K H l t H1) (nD : H1 D = none) (hn : n ≤ 100000)
    (hs : ∀ (i : Nat) (H2 : Hp) (k : V → Hp → Prop), i < n → Drw K H l t H2 → Exc t H1 H2 → (∀ (v : Int) H', 0 ≤ v → v < m → But t H2 H' → Drw K H l t H' → k (.int v) H') → g (.int (lo + i)) (wipe σ vs) H2 fun σ2 H3 => wipe σ2 vs = wipe σ vs ∧ te σ2 H3 k)
    (hd : ∀ H' (cs : List Int), Exc t H1 H' → Drw K H l t H' → H' D = some (.lst (cs.map V.int)) → cs.length = n → (∀ c ∈ cs, 0 ≤ c ∧ c < m) → Qd H') :
    ∃ W : Nat → Nat → Hp → Prop, (∃ m, W 0 m (upd H1 D (.lst []))) ∧ ∀ i m H, W i m H →
      ((Itr lo n).stop i H ∧ Qd H) ∨ ((Itr lo n).go i H ∧ ∃ Nx : Hp → Prop, (∀ H', Nx H' → ∃ m', m' < m ∧ W (i + 1) m' H') ∧ ∀ x H', (Itr lo n).yld i H x H' → g x (wipe σ vs) H' fun σ2 H2 => wipe σ2 vs = wipe σ vs ∧ tYes σ2 H2 fun b H3 =>
        if b = true then te σ2 H3 fun y H4 => ∃ acc, H4 D = some (.lst acc) ∧ acc.length < sizeLine ∧ Nx (upd H4 D (.lst (acc ++ [y]))) else Nx H3) := by
  have e100 : (100000 : Nat) < sizeLine := by decide
  have nt := D1.ne nD
  have n0 : H D = none := D1.same.free nD
  refine lc_range (lo := lo) (n := n) (fun i H' => Exc t H1 H' ∧ Drw K H l t H' ∧ ∃ cs : List Int, H' D = some (.lst (cs.map V.int)) ∧ cs.length = i ∧ ∀ c ∈ cs, 0 ≤ c ∧ c < m)
    ⟨exc_upd nD, D1.updN (H := H) n0 nt, [], upd_same, rfl, fun c hc => by cases hc⟩ ?_ fun H' ⟨e, D2, cs, hD, hl, hc⟩ => hd H' cs e D2 hD hl hc
  rintro i H2 hi ⟨e, D2, cs, hD, hl, hc⟩
  have z := hs i H2 (fun y H4 => ∃ acc, H4 D = some (.lst acc) ∧ acc.length < sizeLine ∧ (Exc t H1 (upd H4 D (.lst (acc ++ [y]))) ∧ Drw K H l t (upd H4 D (.lst (acc ++ [y]))) ∧ ∃ cs : List Int, upd H4 D (.lst (acc ++ [y])) D = some (.lst (cs.map V.int)) ∧ cs.length = i + 1 ∧ ∀ c ∈ cs, 0 ≤ c ∧ c < m)) hi D2 e fun v H' h0 h1 b D3 => by
    have hD' : H' D = some (.lst (cs.map V.int)) := by rw [b D nt]; exact hD
    refine ⟨_, hD', by rw [List.length_map, hl]; omega, fun c o nc hc => ?_, D3.updN (H := H) n0 nt, cs ++ [v], ?_, by rw [List.length_append, hl] <;> rfl, fun c hc' => ?_⟩
    · rw [upd_ne (ne_of_none hc nD)]
      exact (e.trans b.exc) c o nc hc
    · rw [upd_same, List.map_append] <;> rfl
    · rcases List.mem_append.mp hc' with h | h
      · exact hc c h
      · rw [List.mem_singleton.mp h]
        exact ⟨h0, h1⟩
  exact z
theorem But.t {K : PySem.W.Frag} {H0 H H' : Hp} {l t : Addr} (D : Drw K H0 l t H) (b : But t H H') : SameT H H' := fun c o h n => by
  obtain ⟨x, y, z, u, e⟩ := D.st
  rw [b c (fun q => by rw [q, e] at h; cases h; exact n _ rfl)]
  exact h
theorem excT {K : PySem.W.Frag} {H0 H H' : Hp} {l t : Addr} (D : Drw K H0 l t H) (b : Exc t H H') : SameT H H' := fun c o h n => by
  obtain ⟨x, y, z, u, e⟩ := D.st
  exact b c o (fun q => by rw [q, e] at h; cases h; exact n _ rfl) h
theorem bl_ne {a b : Bool} {H : Hp} {Q : VK} (c : Bool) (e : (a != b) = c) (k : Q (.bl c) H) : rNe (.bl a) (.bl b) H Q := by
  refine ⟨rfl, ?_⟩
  rw [← e] at k
  have : (!decide (V.bl a = V.bl b)) = (a != b) := by cases a <;> cases b <;> rfl
  rw [this]
  exact k
theorem bl_eq {a b : Bool} {H : Hp} {Q : VK} (c : Bool) (e : (a == b) = c) (k : Q (.bl c) H) : rEq (.bl a) (.bl b) H Q := by
  refine ⟨rfl, ?_⟩
  rw [← e] at k
  have : decide (V.bl a = V.bl b) = (a == b) := by cases a <;> cases b <;> rfl
  rw [this]
  exact k
theorem int_ne {a b : Int} {H : Hp} {Q : VK} (e : a = b) (k : Q (.bl false) H) : rNe (.int a) (.int b) H Q := by
  refine ⟨rfl, ?_⟩
  rw [decide_eq_true (by rw [e])]
  exact k
/-- a list of things made of draws -/
theorem lc_drawsR {K : PySem.W.Frag} {α : Type} (R : α → V → Hp → Prop) (st : ∀ a y H H', SameT H H' → R a y H → R a y H') (ok : α → Prop) {g : TG} {te : TE} {vs : List Nat} {σ : L2.St} {H H1 : Hp} {D l t : Addr} {Qd : Hp → Prop} {lo : Int} (n : Nat) (D1 : Drw K H l t H1) (nD : H1 D = none) (hn : n ≤ 100000)
    (hs : ∀ (i : Nat) (H2 : Hp) (k : V → Hp → Prop), i < n → Drw K H l t H2 → Exc t H1 H2 → SameT H1 H2 → (∀ (y : V) (a : α) H', Exc t H2 H' → SameT H2 H' → Drw K H l t H' → R a y H' → ok a → k y H') → g (.int (lo + i)) (wipe σ vs) H2 fun σ2 H3 => wipe σ2 vs = wipe σ vs ∧ te σ2 H3 k)
    (hd : ∀ H' (as : List α) (ys : List V), Exc t H1 H' → Drw K H l t H' → H' D = some (.lst ys) → Paired (fun a y => R a y H') as ys → as.length = n → (∀ a ∈ as, ok a) → Qd H') :
    ∃ W : Nat → Nat → Hp → Prop, (∃ m, W 0 m (upd H1 D (.lst []))) ∧ ∀ i m H, W i m H →
      ((Itr lo n).stop i H ∧ Qd H) ∨ ((Itr lo n).go i H ∧ ∃ Nx : Hp → Prop, (∀ H', Nx H' → ∃ m', m' < m ∧ W (i + 1) m' H') ∧ ∀ x H', (Itr lo n).yld i H x H' → g x (wipe σ vs) H' fun σ2 H2 => wipe σ2 vs = wipe σ vs ∧ tYes σ2 H2 fun b H3 =>
        if b = true then te σ2 H3 fun y H4 => ∃ acc, H4 D = some (.lst acc) ∧ acc.length < sizeLine ∧ Nx (upd H4 D (.lst (acc ++ [y]))) else Nx H3) := by
  have e100 : (100000 : Nat) < sizeLine := by decide
  have nt := D1.ne nD
  have n0 : H D = none := D1.same.free nD
  refine lc_range (lo := lo) (n := n) (fun i H' => Exc t H1 H' ∧ SameT H1 H' ∧ Drw K H l t H' ∧ ∃ (as : List α) (ys : List V), H' D = some (.lst ys) ∧ Paired (fun a y => R a y H') as ys ∧ as.length = i ∧ ∀ a ∈ as, ok a)
    ⟨exc_upd nD, Same.toT (same_upd nD), D1.updN (H := H) n0 nt, [], [], upd_same, .nil, rfl, fun c hc => by cases hc⟩ ?_ fun H' ⟨e, _, D2, as, ys, hD, p, hl, hc⟩ => hd H' as ys e D2 hD p hl hc
  rintro i H2 hi ⟨e, e5, D2, as, ys, hD, p, hl, hc⟩
  have z := hs i H2 (fun y H4 => ∃ acc, H4 D = some (.lst acc) ∧ acc.length < sizeLine ∧ (Exc t H1 (upd H4 D (.lst (acc ++ [y]))) ∧ SameT H1 (upd H4 D (.lst (acc ++ [y]))) ∧ Drw K H l t (upd H4 D (.lst (acc ++ [y]))) ∧ ∃ (as : List α) (ys : List V), upd H4 D (.lst (acc ++ [y])) D = some (.lst ys) ∧ Paired (fun a z => R a z (upd H4 D (.lst (acc ++ [y])))) as ys ∧ as.length = i + 1 ∧ ∀ a ∈ as, ok a)) hi D2 e e5 fun y a H' e2 t2 D3 hr ha => by
    have hD' : H' D = some (.lst ys) := e2 D _ nt hD
    have ly := prLen p
    have t4 : SameT H' (upd H' D (.lst (ys ++ [y]))) := sameT_upd hD'
    refine ⟨_, hD', by omega, fun c o nc hc => ?_, e5.trans (t2.trans t4), D3.updN (H := H) n0 nt, as ++ [a], ys ++ [y], upd_same, ?_, by rw [List.length_append, hl] <;> rfl, fun c hc' => ?_⟩
    · rw [upd_ne (ne_of_none hc nD)]
      exact (e.trans e2) c o nc hc
    · exact prApp (prImp (fun b u h => st b u _ _ (t2.trans t4) h) p) (.cons (st a y _ _ t4 hr) .nil)
    · rcases List.mem_append.mp hc' with h | h
      · exact hc c h
      · rw [List.mem_singleton.mp h]
        exact ha
  exact z
theorem rep_one {α : Type} (x : α) : ∀ n : Nat, (List.replicate n [x]).flatten = List.replicate n x
  | 0 => rfl
  | n + 1 => by rw [List.replicate_succ, List.flatten_cons, rep_one x n, List.replicate_succ] <;> rfl
theorem cut_at {α : Type} {xs : List α} {i : Nat} {x : α} (h : xs[i]? = some x) : xs.take i ++ x :: xs.drop (i + 1) = xs := by
  obtain ⟨hi, e⟩ := List.getElem?_eq_some_iff.mp h
  rw [← e, ← List.drop_eq_getElem_cons hi, List.take_append_drop]
/-! ### data: what is shaped -/
theorem canAll_iff : ∀ {ds : List PyData}, (∀ d ∈ ds, d.canLay0 = true) → PyData.canLayAll0 ds = true
  | [], _ => by simp only [PyData.canLayAll0]
  | d :: r, h => by
    simp only [PyData.canLayAll0]
    rw [h d List.mem_cons_self, canAll_iff fun x hx => h x (List.mem_cons_of_mem _ hx)] <;> rfl
theorem depAll_le {k : Nat} : ∀ {ds : List PyData}, (∀ d ∈ ds, d.depth ≤ k) → PyData.depthAll ds ≤ k
  | [], _ => by simp only [PyData.depthAll]; omega
  | d :: r, h => by
    simp only [PyData.depthAll]
    have h1 := h d List.mem_cons_self
    have h2 := depAll_le fun x hx => h x (List.mem_cons_of_mem d hx)
    omega
/-- data of at most k levels -/
def Fit (k : Nat) (d : PyData) : Prop := d.canLay0 = true ∧ d.depth ≤ k
theorem fit_int {k : Nat} (i : Int) : Fit k (.int i) := ⟨by simp only [PyData.canLay0], by simp only [PyData.depth]; omega⟩
theorem fit_bl {k : Nat} (i : Bool) : Fit k (.bool i) := ⟨by simp only [PyData.canLay0], by simp only [PyData.depth]; omega⟩
theorem fit_non {k : Nat} : Fit k .none := ⟨by simp only [PyData.canLay0], by simp only [PyData.depth]; omega⟩
theorem fit_str {k : Nat} {x : Str} (h : PyData.strOk x = true) : Fit k (.str x) := ⟨by simp only [PyData.canLay0]; exact h, by simp only [PyData.depth]; omega⟩
theorem fit_tup {k : Nat} {ds : List PyData} (h : ∀ d ∈ ds, Fit k d) : Fit (k + 1) (.tuple ds) :=
  ⟨by simp only [PyData.canLay0]; exact canAll_iff fun d hd => (h d hd).1, by simp only [PyData.depth]; have := depAll_le fun d hd => (h d hd).2; omega⟩
theorem fit_lst {k : Nat} {ds : List PyData} (h : ∀ d ∈ ds, Fit k d) : Fit (k + 1) (.list ds) :=
  ⟨by simp only [PyData.canLay0]; exact canAll_iff fun d hd => (h d hd).1, by simp only [PyData.depth]; have := depAll_le fun d hd => (h d hd).2; omega⟩
theorem Fit.shaped {k : Nat} {d : PyData} (h : Fit k d) (hk : k ≤ 64) : SeqAt.shaped d = true := by
  unfold SeqAt.shaped
  rw [h.1, decide_eq_true (Nat.le_trans h.2 hk)] <;> rfl
theorem Fit.mono {k m : Nat} {d : PyData} (h : Fit k d) (hk : k ≤ m) : Fit m d := ⟨h.1, Nat.le_trans h.2 hk⟩
/-! ### scalars -/
def scalV : V → Bool
  | .non => true
  | .bl _ => true
  | .int _ => true
  | .str x => PyData.strOk x
  | _ => false
def datV : V → PyData
  | .bl b => .bool b
  | .int i => .int i
  | .str x => .str x
  | _ => .none
theorem kn_scal {K : PySem.W.Frag} {H : Hp} {x : V} (h : scalV x = true) : Kn K H x := by
  cases x with
  | non => exact kn_non
  | bl b => exact kn_bl b
  | int i => exact kn_int i
  | str x => exact kn_str x
  | _ => cases h
theorem dp_scal {K : PySem.W.Frag} {H : Hp} {x : V} (h : scalV x = true) : Dp K H x (datV x) := by
  cases x with
  | non => exact .non
  | bl b => exact .bl b
  | int i => exact .int i
  | str x => exact .str x
  | _ => cases h
theorem fit_scal {k : Nat} {x : V} (h : scalV x = true) : Fit k (datV x) := by
  cases x with
  | non => exact fit_non
  | bl b => exact fit_bl b
  | int i => exact fit_int i
  | str x => exact fit_str h
  | _ => cases h
theorem flat_scal {x : V} (h : scalV x = true) : flatV x = true := by
  cases x with
  | non => rfl
  | bl b => rfl
  | int i => rfl
  | str x => rfl
  | _ => cases h
/-! ### lots: the mathematics -/
def oneL (m : Nat) : List Nat := (List.range 8).filter fun c => m.testBit c
/-- the lot of a mask -/
def lotL (m : Nat) : List Int := (oneL m).map fun (c : Nat) => (c : Int)
def lotV (m : Nat) : List V := (lotL m).map V.int
def lotD (m : Nat) : PyData := .tuple ((lotL m).map PyData.int)
/-- v is the lot of mask m -/
def Lot (K : PySem.W.Frag) (H : Hp) (m : Nat) (v : V) : Prop := ∃ a, v = .ref a ∧ SqT K H a (lotV m)
theorem Lot.sameT {K : PySem.W.Frag} {H H' : Hp} {m : Nat} {v : V} (h : Lot K H m v) (e : SameT H H') : Lot K H' m v := by
  obtain ⟨a, rfl, h⟩ := h
  exact ⟨a, rfl, e.seqT h⟩
theorem Lot.same {K : PySem.W.Frag} {H H' : Hp} {m : Nat} {v : V} (h : Lot K H m v) (e : Same H H') : Lot K H' m v := h.sameT (Same.toT e)
theorem dps_ints {K : PySem.W.Frag} {H : Hp} : ∀ (ns : List Int), DpAll K H (ns.map V.int) (ns.map PyData.int)
  | [] => .nil
  | n :: r => .cons (.int n) (dps_ints r)
theorem Lot.dp {K : PySem.W.Frag} {H : Hp} {m : Nat} {v : V} (h : Lot K H m v) : Dp K H v (lotD m) := by
  obtain ⟨a, rfl, h⟩ := h
  exact .tup h (dps_ints _)
theorem fit_lot (m : Nat) : Fit 1 (lotD m) := fit_tup fun d hd => by
  obtain ⟨i, _, rfl⟩ := List.mem_map.mp hd
  exact fit_int i
/-- the copy that a value names -/
def idx : V → Nat
  | .int i => i.toNat
  | _ => 0
def copyOk (n : Nat) (x : V) : Bool := good x (some 0) (some ((n : Int) - 1))
theorem copyOk_iff {n : Nat} {x : V} (h : copyOk n x = true) : ∃ c : Nat, x = .int c ∧ c < n := by
  unfold copyOk good at h
  cases x with
  | int i =>
    simp at h
    refine ⟨i.toNat, by congr 1; omega, by omega⟩
  | _ => cases h
theorem copyOk_nat {n c : Nat} (h : c < n) : copyOk n (.int c) = true := by
  unfold copyOk good
  simp
  omega
def maskV (xs : List V) : Nat := xs.foldl (fun m x => m ||| 1 <<< idx x) 0
theorem maskV_snoc (xs : List V) (x : V) : maskV (xs ++ [x]) = maskV xs ||| 1 <<< idx x := by
  unfold maskV
  rw [List.foldl_append] <;> rfl
theorem one_bit (i c : Nat) : (1 <<< i).testBit c = decide (i = c) := by
  rw [Nat.one_shiftLeft, Nat.testBit_two_pow]
theorem maskV_bit (c : Nat) : ∀ (xs : List V) (m : Nat), (xs.foldl (fun m x => m ||| 1 <<< idx x) m).testBit c = (m.testBit c || xs.any fun x => decide (idx x = c))
  | [], m => by simp
  | x :: r, m => by
    rw [List.foldl_cons, maskV_bit c r, Nat.testBit_or, one_bit, List.any_cons, Bool.or_assoc]
theorem mask_bit (c : Nat) (xs : List V) : (maskV xs).testBit c = xs.any fun x => decide (idx x = c) := by
  unfold maskV
  rw [maskV_bit]
  simp
theorem maskV_lt {n : Nat} : ∀ (xs : List V) (m : Nat), m < 2 ^ n → (∀ x ∈ xs, idx x < n) → xs.foldl (fun m x => m ||| 1 <<< idx x) m < 2 ^ n
  | [], m, h, _ => h
  | x :: r, m, h, k => by
    rw [List.foldl_cons]
    refine maskV_lt r _ (Nat.or_lt_two_pow h ?_) fun y hy => k y (List.mem_cons_of_mem _ hy)
    rw [Nat.one_shiftLeft]
    exact Nat.pow_lt_pow_right (by decide) (k x List.mem_cons_self)
theorem mask_lt {n : Nat} {xs : List V} (h : ∀ x ∈ xs, copyOk n x = true) : maskV xs < 2 ^ n := by
  refine maskV_lt xs 0 (Nat.two_pow_pos n) fun x hx => ?_
  obtain ⟨c, rfl, hc⟩ := copyOk_iff (h x hx)
  exact hc
theorem pow_le8 {n : Nat} (h : n ≤ 8) : 2 ^ n ≤ 256 := Nat.pow_le_pow_right (by decide) h
theorem range_cut {n m : Nat} {p : Nat → Bool} (h : n ≤ m) (k : ∀ c, n ≤ c → p c = false) : (List.range m).filter p = (List.range n).filter p := by
  obtain ⟨d, rfl⟩ := Nat.exists_eq_add_of_le h
  rw [List.range_add, List.filter_append]
  have : ((List.range d).map (n + ·)).filter p = [] := by
    rw [List.filter_eq_nil_iff]
    intro c hc
    obtain ⟨e, _, rfl⟩ := List.mem_map.mp hc
    rw [k _ (Nat.le_add_right _ _)]
    simp
  rw [this, List.append_nil]
/-- a lot of n copies, copy by copy -/
theorem oneL_n {n m : Nat} (hn : n ≤ 8) (h : m < 2 ^ n) : oneL m = (List.range n).filter fun c => m.testBit c := by
  refine range_cut hn fun c hc => ?_
  exact Nat.testBit_lt_two_pow (Nat.lt_of_lt_of_le h (Nat.pow_le_pow_right (by decide) hc))
theorem other_bit {n m : Nat} (h : m < 2 ^ n) (c : Nat) : (2 ^ n - 1 - m).testBit c = (decide (c < n) && !m.testBit c) := by
  rw [Nat.sub_sub, Nat.add_comm 1 m]
  exact Nat.testBit_two_pow_sub_succ h c
theorem lotV_at {m i : Nat} {x : V} (h : (lotV m)[i]? = some x) : ∃ c : Nat, x = .int c ∧ c < 8 ∧ m.testBit c = true := by
  have h := List.mem_of_getElem? h
  unfold lotV lotL oneL at h
  rw [List.map_map] at h
  obtain ⟨c, hc, rfl⟩ := List.mem_map.mp h
  obtain ⟨h1, h2⟩ := List.mem_filter.mp hc
  exact ⟨c, rfl, List.mem_range.mp h1, h2⟩
theorem lotV_mem {m : Nat} {x : V} (h : x ∈ lotV m) : ∃ c : Nat, x = .int c ∧ c < 8 ∧ m.testBit c = true := by
  obtain ⟨i, hi, e⟩ := List.mem_iff_getElem.mp h
  exact lotV_at (i := i) (by rw [List.getElem?_eq_getElem hi, e])
theorem lotV_ok {n m : Nat} (h : m < 2 ^ n) {x : V} (hx : x ∈ lotV m) : copyOk n x = true := by
  obtain ⟨c, rfl, _, hb⟩ := lotV_mem hx
  refine copyOk_nat ?_
  rcases Nat.lt_or_ge c n with k | k
  · exact k
  · rw [Nat.testBit_lt_two_pow (Nat.lt_of_lt_of_le h (Nat.pow_le_pow_right (by decide) k))] at hb
    cases hb
theorem mask_lotV {m : Nat} (h : m < 256) : maskV (lotV m) = m := by
  refine Nat.eq_of_testBit_eq fun c => ?_
  rw [mask_bit]
  cases e : m.testBit c with
  | true =>
    rw [List.any_eq_true]
    refine ⟨.int (c : Nat), ?_, by unfold idx; simp⟩
    unfold lotV lotL oneL
    rw [List.map_map]
    refine List.mem_map.mpr ⟨c, List.mem_filter.mpr ⟨List.mem_range.mpr ?_, e⟩, rfl⟩
    rcases Nat.lt_or_ge c 8 with k | k
    · exact k
    · rw [Nat.testBit_lt_two_pow (Nat.lt_of_lt_of_le h (Nat.pow_le_pow_right (by decide) k : 2 ^ 8 ≤ 2 ^ c))] at e
      cases e
  | false =>
    rw [List.any_eq_false]
    intro x hx
    obtain ⟨d, rfl, _, hd⟩ := lotV_mem hx
    unfold idx
    simp
    intro z
    subst z
    rw [hd] at e
    cases e
theorem lotV_filter {n m : Nat} (hn : n ≤ 8) (hm : m < 2 ^ n) : lotV m = (List.range n).filterMap (fun i => if m.testBit i = true then some (V.int i) else none) := by
  unfold lotV lotL
  rw [oneL_n hn hm, List.map_map, ← List.filterMap_eq_map, List.filterMap_filter]
  rfl
theorem fm_congr {α β : Type} {f g : α → Option β} : ∀ {l : List α}, (∀ x ∈ l, f x = g x) → l.filterMap f = l.filterMap g
  | [], _ => rfl
  | a :: r, h => by
    rw [List.filterMap_cons, List.filterMap_cons, h a List.mem_cons_self, fm_congr fun x hx => h x (List.mem_cons_of_mem _ hx)]
theorem lotV_others {n m : Nat} (hn : n ≤ 8) (hm : m < 2 ^ n) : lotV (2 ^ n - 1 - m) = (List.range n).filterMap (fun i => if m.testBit i = true then none else some (V.int i)) := by
  rw [lotV_filter hn (by omega)]
  refine fm_congr fun i hi => ?_
  rw [other_bit hm, decide_eq_true (List.mem_range.mp hi), Bool.true_and]
  cases m.testBit i <;> rfl
theorem inV_mask {cs : List Int} (h : ∀ c ∈ cs, 0 ≤ c) (i : Nat) : inV (.int i) (cs.map V.int) = (maskV (cs.map V.int)).testBit i := by
  rw [mask_bit]
  unfold inV
  rw [List.any_map, List.any_map]
  induction cs with
  | nil => rfl
  | cons c r ih =>
    rw [List.any_cons, List.any_cons, ih fun x hx => h x (List.mem_cons_of_mem _ hx)]
    congr 1
    have := h c List.mem_cons_self
    show (c == (i : Int)) = decide (c.toNat = i)
    by_cases e : c = i
    · subst e
      simp
    · rw [decide_eq_false (by omega)]
      simpa using e
theorem scal_lotV {m : Nat} {x : V} (hx : x ∈ lotV m) : scalV x = true := by
  obtain ⟨c, rfl, _⟩ := lotV_mem hx
  rfl
theorem scal_int {ns : List Int} {x : V} (hx : x ∈ ns.map V.int) : scalV x = true := by
  obtain ⟨i, _, rfl⟩ := List.mem_map.mp hx
  rfl
/-! ### lots: the promises -/
/-- the list or tuple at a -/
def SqA (K : PySem.W.Frag) (H : Hp) (a : Addr) (xs : List V) : Prop := SqL K H a xs ∨ SqT K H a xs
theorem SqA.same {K : PySem.W.Frag} {H H' : Hp} {a : Addr} {xs : List V} (h : SqA K H a xs) (e : Same H H') : SqA K H' a xs := by
  rcases h with h | h
  · exact .inl (e.seq h)
  · exact .inr (Same.seqT e h)
def Err (C : Addr) (H : Hp) (E : XK) (w : Str) (x : V) : Prop := ∀ d H', H d = none → Same H H' → H' d = some (.xd [("value", x), ("what", .str w)]) → E (.ref C) (some d) H'
theorem Err.of {C : Addr} {H H1 : Hp} {E : XK} {w : Str} {x : V} (h : Err C H E w x) (e : Same H H1) : Err C H1 E w x := fun d H' nd sm hx => h d H' (e.free nd) (e.trans sm) hx
def spCopies (K : PySem.W.Frag) (C : Addr) : Sp := fun vs H Q E => ∃ x, vs = [x] ∧ Kn K H x ∧ (good x (some 1) (some 8) = true → Q x H) ∧ (good x (some 1) (some 8) = false → Err C H E "copies" x)
def spCopy (K : PySem.W.Frag) (C : Addr) : Sp := fun vs H Q E => ∃ (n : Nat) (x : V), vs = [.int n, x] ∧ Kn K H x ∧ (copyOk n x = true → Q x H) ∧ (copyOk n x = false → Err C H E "copy" x)
/-- the first value that is no copy -/
def badOf (n : Nat) (xs : List V) : Option V := xs.find? fun x => !copyOk n x
theorem badOf_none {n : Nat} {xs : List V} (h : badOf n xs = none) {x : V} (hx : x ∈ xs) : copyOk n x = true := by
  have := List.find?_eq_none.mp h x hx
  simpa using this
theorem badOf_ok {n : Nat} {xs : List V} (h : ∀ x ∈ xs, copyOk n x = true) : badOf n xs = none := List.find?_eq_none.mpr fun x hx => by rw [h x hx]; simp
theorem badOf_at {n i : Nat} {xs : List V} {x : V} (hx : xs[i]? = some x) (hok : ∀ y ∈ xs.take i, copyOk n y = true) (h : copyOk n x = false) : badOf n xs = some x := by
  have e : badOf n (xs.take i ++ x :: xs.drop (i + 1)) = some x := by
    unfold badOf
    rw [List.find?_append, List.find?_eq_none.mpr (fun y hy => by rw [hok y hy]; simp), Option.none_or, List.find?_cons, h] <;> rfl
  rwa [cut_at hx] at e
def spMaskOf (K : PySem.W.Frag) (C : Addr) : Sp := fun vs H Q E => ∃ (n : Nat) (a : Addr) (xs : List V), vs = [.int n, .ref a] ∧ n ≤ 8 ∧ SqA K H a xs ∧ (∀ x ∈ xs, scalV x = true) ∧
  (badOf n xs = none → Q (.int (maskV xs)) H) ∧ (∀ x, badOf n xs = some x → Err C H E "copy" x)
def spLotAt (K : PySem.W.Frag) : Sp := fun vs H Q _ => ∃ m : Nat, vs = [.int m] ∧ ∀ p H', Same H H' → H p = none → H' p = some (.tup (lotV m)) → Q (.ref p) H'
/-- lot_of, others: f makes a mask of a mask -/
def spLotOf (K : PySem.W.Frag) (C : Addr) (f : Nat → Nat → Nat) : Sp := fun vs H Q E => ∃ (c : V) (a : Addr) (xs : List V), vs = [c, .ref a] ∧ Kn K H c ∧ SqA K H a xs ∧ (∀ x ∈ xs, scalV x = true) ∧
  (good c (some 1) (some 8) = false → Err C H E "copies" c) ∧
  (∀ n : Nat, c = .int n → 1 ≤ n → n ≤ 8 → (badOf n xs = none → ∀ p H', Same H H' → H p = none → H' p = some (.tup (lotV (f n (maskV xs)))) → Q (.ref p) H') ∧ (∀ x, badOf n xs = some x → Err C H E "copy" x))
def spAllLots (K : PySem.W.Frag) (C : Addr) : Sp := fun vs H Q E => ∃ c : V, vs = [c] ∧ Kn K H c ∧ (good c (some 1) (some 8) = false → Err C H E "copies" c) ∧
  (∀ n : Nat, c = .int n → 1 ≤ n → n ≤ 8 → ∀ p ys H', Same H H' → H p = none → H' p = some (.lst ys) → Paired (fun m y => Lot K H' m y) (List.range (2 ^ n)) ys → Q (.ref p) H')
theorem good_copies {c : V} (h : good c (some 1) (some 8) = true) : ∃ n : Nat, c = .int n ∧ 1 ≤ n ∧ n ≤ 8 := by
  unfold good at h
  cases c with
  | int i =>
    simp at h
    exact ⟨i.toNat, by congr 1; omega, by omega, by omega⟩
  | _ => cases h
theorem copies_good {n : Nat} (h1 : 1 ≤ n) (h2 : n ≤ 8) : good (.int n) (some 1) (some 8) = true := by
  unfold good
  simp
  omega
theorem bitAnd_nat (a b : Nat) : Builtin.bitAnd (a : Int) (b : Int) = ((a &&& b : Nat) : Int) := by rw [PyProof.Rows.bitAnd_pp (by omega) (by omega), Int.toNat_natCast, Int.toNat_natCast]
theorem shl_nat (c : Nat) : (1 : Int) * (2 : Int) ^ ((c : Int)).toNat = ((1 <<< c : Nat) : Int) := by
  rw [Int.toNat_natCast, Int.one_mul, Nat.one_shiftLeft, Int.natCast_pow] <;> rfl
theorem and_bit (m c : Nat) : (((m &&& 1 <<< c : Nat) : Int) != 0) = m.testBit c := by
  have h : m &&& 1 <<< c = if m.testBit c then 1 <<< c else 0 := by
    refine Nat.eq_of_testBit_eq fun d => ?_
    rw [Nat.testBit_and, one_bit]
    by_cases e : c = d
    · subst e
      cases h : m.testBit c with
      | true => simp [one_bit]
      | false => simp
    · rw [decide_eq_false e, Bool.and_false]
      split
      · rw [one_bit, decide_eq_false e]
      · simp
  rw [h]
  have : 0 < 1 <<< c := by rw [Nat.one_shiftLeft]; exact Nat.two_pow_pos c
  cases m.testBit c with
  | true =>
    show (((1 <<< c : Nat) : Int) != 0) = true
    rw [bne_iff_ne]
    omega
  | false => rfl
/-! ### rules for tuples: enumerate(t), zip(t, u), t[::-1], t.count(b) -/
open AutoSeq1 (wpAny_loadPart') in
theorem enumT_new {v : Value} {o : Obj} {G : Heap → Prop} (B : Begins v o G) :
    Meets (Builtin.«enumerate.__new__» ⟨[.type "enumerate", v], []⟩) (fun _ R s => G s.heap ∧
      R (.ok (.ret (.ref (s.heap.push o).objs.size))) { s with heap := (s.heap.push o).push { cls := .type "enumerate", data := .fields #[.none, .bool false, .ref s.heap.objs.size, rawInt 0, .none, .none] } }) :=
  .of_wp fun prog w A R s h => by
    obtain ⟨hp, gl, dp, tk, os⟩ := s; obtain ⟨g1, h⟩ := h
    have sub0 := sub_enumerate
    have it1 : ∀ {A' : Around} {F : Value → Shared → Prop} {Q : Value → Shared → Prop}, Q (.ref hp.objs.size) ⟨hp.push o, gl, dp, tk, os⟩ → wpAny (model prog w) A' (pyIter v) Q F ⟨hp, gl, dp, tk, os⟩ :=
      fun k => B.iter prog w _ _ ⟨hp, gl, dp, tk, os⟩ _ g1 k
    wp_walk using it1
    refine wpAny_stack_any fun st => wpAny_pure ?_
    split
    · rename_i c _ _ _ _ _
      cases (c == Value.type "enumerate") <;> (wp_walk using it1; exact ⟨_, rfl, h⟩)
    · wp_walk using it1
      exact ⟨_, rfl, h⟩
theorem enumT_call {prog : Program} {w : World} {A : Around} {F : Value → Shared → Prop} {s : Shared} {v : Value} {o : Obj} {G : Heap → Prop} {Q : Value → Shared → Prop} (B : Begins v o G) (g1 : G s.heap)
    (h : ∀ h', IsEnum h' (s.heap.objs.size + 1) s.heap.objs.size 0 .none → h'.get? s.heap.objs.size = some o → (∀ b u, s.heap.get? b = some u → h'.get? b = some u) → Q (.ref (s.heap.objs.size + 1)) { s with heap := h' }) :
    wpAny (model prog w) A (call (.type "enumerate") [v]) Q F s := by
  refine callType_new PySem.F.called_enumerate (by decide) (PySem.F.typeCall_enumerate_1 _) (PySem.F.newCall_enumerate_1 _) (fun ob => PySem.F.args_object_init_2 ob _) PySem.F.entry_enumerate_new (enumT_new B) ⟨g1, ?_⟩
  have sz : (s.heap.push o).objs.size = s.heap.objs.size + 1 := Heap.size_push ..
  show _ ∧ _
  rw [sz]
  have en : IsEnum ((s.heap.push o).push { cls := .type "enumerate", data := .fields #[.none, .bool false, .ref s.heap.objs.size, rawInt 0, .none, .none] }) (s.heap.objs.size + 1) s.heap.objs.size 0 .none := by
    have z := Heap.get?_push_size (s.heap.push o) (o := { cls := .type "enumerate", data := .fields #[.none, .bool false, .ref s.heap.objs.size, rawInt 0, .none, .none] }) rfl
    rwa [sz] at z
  exact ⟨⟨_, en, rfl⟩, h _ en (Heap.get?_push_of_some _ (Heap.get?_push_size _ B.free)) fun b u z => Heap.get?_push_of_some _ (Heap.get?_push_of_some _ z)⟩
/-- the tuple at a, each item in a new pair with its place -/
def IteT (K : PySem.W.Frag) (a : Addr) : It :=
  ⟨fun i H => ∃ (xs : List V) (x : V), SqT K H a xs ∧ xs[i]? = some x, fun i H v H' => ∃ T x, v = .ref T ∧ H T = none ∧ H' = upd H T (.tup [.int (i : Nat), x]) ∧ ∀ xs, SqT K H a xs → xs[i]? = some x, fun i H => ∃ xs : List V, SqT K H a xs ∧ xs.length ≤ i⟩
/-- what the iterator of a tuple draws, from a place behind its end -/
theorem Dn {P : Program} {w : World} {A : Around} (its : Array Value) (it a : Addr) (hh : A.handled = none) (i : Nat) (hi : its.size ≤ i) :
    Draws P w A.in1 it [it, a] i (fun _ _ => False) (fun j h => h.IsTupleIter it a j ∧ h.IsTuple a its ∧ j = i) where
  live := fun _ _ st => st.1.elim fun o z => ⟨o, z.1⟩
  frame := fun _ _ _ st hk => ⟨st.1.at fun o e => hk it (by simp) o e, st.2.1.at fun o e => hk a (by simp) o e, st.2.2⟩
  item := fun j s Q E hj st _ => absurd st.2.2 (by omega)
  done := fun s Q E st hE => wpAny_nextOf_tuple_end (A := A.in1) hh st.1 st.2.1 (by simp; omega) hE
theorem turn_enumT {P : Program} {w : World} {K : PySem.W.Frag} {elts : List Expr} {kk : Nat} {tpos : Pos} (a e it : Addr) (hat : a ≠ it) (hae : a ≠ e) (hei : e ≠ it) :
    Turn P w K (.Tuple elts kk tpos) (IteT K a) [e, it] e (fun i h => (∃ old, IsEnum h e it ((i : Nat) : Int) old) ∧ h.IsTupleIter it a i) where
  mem := by simp
  obj := fun i h st b hb => by
    obtain ⟨⟨old, he⟩, ⟨o, ho, hc, hd⟩⟩ := st
    have bb : b = e ∨ b = it := by simpa using hb
    rcases bb with rfl | rfl
    · exact ⟨_, he, fun v q => nomatch q⟩
    · exact ⟨o, ho, fun v q => by rw [hd] at q; cases q⟩
  keep := fun i h h' st k => ⟨st.1.elim fun old he => ⟨old, k e (by simp) _ he⟩, st.2.at fun o q => k it (by simp) o q⟩
  item := by
    intro X hP hw hK hc i pins s σ H E I hf st hg
    subst hP hw hK
    obtain ⟨⟨old, he⟩, hit⟩ := st
    obtain ⟨xs, x, hq, hx⟩ := hg
    obtain ⟨its, rv, plc, hz⟩ := I.tuple hq
    obtain ⟨u, hu, ru⟩ := rv.get hx
    have el : e < s.heap.objs.size := Heap.lt_size he
    have il : it < s.heap.objs.size := by obtain ⟨_, z, _⟩ := hit; exact Heap.lt_size z
    have hlt : i < its.toArray.size := by
      rw [List.size_toArray]
      exact (List.getElem?_eq_some_iff.mp hu).1
    refine wpAny_pyNext_enum_itemD (Draws.tuple (A := X.A.in1) (show X.A.in1.handled = none from I.ok.hd hc) it a hat its.toArray) he ⟨hit, plc⟩ hlt hei (by simp [hei, Ne.symm hae]) fun y h' tk hy ho hst hT hsz hk => ?_
    have ey : y = u := by
      rw [show its.toArray[i]? = some u by simpa using hu] at hy
      exact (Option.some.inj hy).symm
    subst ey
    refine ⟨_, rfl, wpAny_letOwnedTupleGo_enum (s := { s with heap := h', toks := tk + 1 }) ho fun h'' he' sb => ?_⟩
    have t2 : h''.get? s.heap.objs.size = some { cls := .type "tuple", data := .seq #[.int i tk, y] } := (sb.2 _ (Nat.ne_of_gt el)).trans hT
    have new : ObjOk X.prog X.w (upd H s.heap.objs.size (.tup [.int (i : Nat), x])) h'' s.heap.objs.size (.tup [.int (i : Nat), x]) :=
      ⟨by show 2 ≤ sizeLine; decide, [.int i tk, y], .cons ⟨_, rfl⟩ (.cons ru .nil), ⟨_, t2, rfl, _, rfl⟩⟩
    have J : Inv X pins σ (upd H s.heap.objs.size (.tup [.int (i : Nat), x])) { s with heap := h'', toks := tk + 1 } :=
      I.turnedNew (t' := tk + 1) (ch := [e, it]) (fun b ob nb q => (sb.2 b (fun z => nb (by simp [z]))).trans (hk b ob (fun z => nb (by simp [z])) (fun z => nb (by simp [z])) q)) hf (Nat.le_refl _) new
    refine ⟨.ref s.heap.objs.size, _, J, rfl, ⟨_, x, rfl, I.hok.fresh (Nat.le_refl _), rfl, fun ys hys => by rw [I.tuple_inj hys hq]; exact hx⟩, ⟨⟨y, ?_⟩, hst.1.at fun o q => (sb.2 it (Ne.symm hei)).trans q⟩, fun b hb => ?_⟩
    · rw [show ((i + 1 : Nat) : Int) = (i : Int) + 1 by omega]
      exact he'
    · have bb : b = e ∨ b = it := by simpa using hb
      have bl : b < s.heap.objs.size := by
        rcases bb with z | z
        · rw [z]; exact el
        · rw [z]; exact il
      rw [upd_ne (Nat.ne_of_lt bl)]
      exact (hf b hb).1
  done := by
    intro X hP hw hK hc i pins s σ H E I hf st hg
    subst hP hw hK
    obtain ⟨⟨old, he⟩, hit⟩ := st
    obtain ⟨xs, hq, hx⟩ := hg
    obtain ⟨its, rv, plc, hz⟩ := I.tuple hq
    obtain ⟨f0, f1, f2, f3, f4, f5⟩ := hf it (by simp)
    have hn : its.toArray.size ≤ i := by rw [List.size_toArray, ← rv.length]; exact hx
    refine wpAny_pyNext_enum_endD (Dn its.toArray it a (I.ok.hd hc) i hn) he ⟨hit, plc, rfl⟩ fun h' eb => ⟨rfl, I.turned (t' := s.toks) (fun b o hb q => eb b o hb q) f0 f1 f3 f4 f5⟩
  self := fun A i s Q E st h => st.1.elim fun _ he => wpAny_pyIter_enum he h
def iEnumA (K : PySem.W.Frag) (ta : TA) : TI := fun σ H R => ta σ H fun vs H1 => ∃ a xs, vs = [.ref a] ∧ ((SqL K H1 a xs ∧ R (Ite K a) H1) ∨ (SqT K H1 a xs ∧ R (IteT K a) H1))
theorem pi_enumA {X : Cx} {e : Expr} {ta : TA} {p pos tpos : Pos} {elts : List Expr} {kk : Nat} (hg : Gl X "enumerate") (hm : X.mg "enumerate" = none) (ha : PA X [e] ta) (hs : starEach [e] X.env = [(false, eval e X.env)] := by rfl) :
    PI X (.Tuple elts kk tpos) (.Call (.Name "enumerate" p) [e] [] pos) (iEnumA X.K ta) := by
  constructor
  intro pins s σ H R I h
  refine Call_ (ld_blt I hg hm boot_enumerate (PyProof.Rows.callWith_type1 (thn (ha.run pos pins s σ H _ I h) fun us t ⟨vs, Hb, J, rr, a, xs, ex, k⟩ => ?_) hs rfl))
  subst ex
  obtain ⟨u, rfl, ru⟩ := vals1 rr
  cases (show u = Value.ref a from ru)
  rcases k with ⟨hq, k⟩ | ⟨hq, k⟩
  · obtain ⟨its, rv, plc, hz⟩ := J.list hq
    refine call_enumerate_list plc.isList fun h' he hit hsz hk => wpAny_pyIter_enum he ?_
    refine ⟨t.heap.objs.size + 1, [t.heap.objs.size + 1, t.heap.objs.size], _, _, Hb, rfl, J.kept (t' := t.toks) hk, turn_enum a (t.heap.objs.size + 1) t.heap.objs.size, ⟨⟨.none, he⟩, hit, Nat.succ_ne_self _⟩, fun b hb => ?_, k⟩
    have bb : b = t.heap.objs.size + 1 ∨ b = t.heap.objs.size := by simpa using hb
    have le : t.heap.objs.size ≤ b := by
      rcases bb with z | z
      · rw [z]; exact Nat.le_succ _
      · rw [z]; exact Nat.le_refl _
    exact J.fpOk le (J.hok.fresh le)
  · obtain ⟨its, rv, plc, hz⟩ := J.tuple hq
    have al : a < t.heap.objs.size := by obtain ⟨_, z, _⟩ := plc; exact Heap.lt_size z
    refine enumT_call (begins_tuple a its.toArray) plc fun h' he hit hk => wpAny_pyIter_enum he ?_
    refine ⟨t.heap.objs.size + 1, [t.heap.objs.size + 1, t.heap.objs.size], _, _, Hb, rfl, J.kept (t' := t.toks) hk, turn_enumT a (t.heap.objs.size + 1) t.heap.objs.size (Nat.ne_of_lt al) (Nat.ne_of_lt (Nat.lt_succ_of_lt al)) (Nat.succ_ne_self _), ⟨⟨.none, he⟩, ⟨_, hit, rfl, rfl⟩⟩, fun b hb => ?_, k⟩
    have bb : b = t.heap.objs.size + 1 ∨ b = t.heap.objs.size := by simpa using hb
    have le : t.heap.objs.size ≤ b := by
      rcases bb with z | z
      · rw [z]; exact Nat.le_succ _
      · rw [z]; exact Nat.le_refl _
    exact J.fpOk le (J.hok.fresh le)
theorem walk_enumT {K : PySem.W.Frag} {a : Addr} {xs : List V} : Walk (IteT K a) xs.length (fun H => SqT K H a xs) (YPair (fun i => some (.int (i : Nat))) (fun i => xs[i]?)) := by
  refine ⟨fun i _ hi q => ⟨xs, xs[i], q, by simp [hi]⟩, fun _ q => ⟨xs, q, Nat.le_refl _⟩, fun i H v H' _ q y => ?_⟩
  obtain ⟨T, x, h1, h2, h3, h4⟩ := y
  exact ⟨T, .int (i : Nat), x, h1, h2, h3, rfl, h4 xs q⟩
theorem walk_zipT {K : PySem.W.Frag} {a b : Addr} {xs ys : List V} {n : Nat} (hn : n = min xs.length ys.length) : Walk (RZ.ItzT K a b) n (fun H => SqT K H a xs ∧ SqT K H b ys) (YPair (fun i => xs[i]?) (fun i => ys[i]?)) := by
  subst hn
  refine ⟨fun i _ hi q => ⟨xs, ys, xs[i]'(by omega), ys[i]'(by omega), q.1, q.2, by simp [show i < xs.length by omega], by simp [show i < ys.length by omega]⟩, fun _ q => ⟨xs, ys, q.1, q.2, by omega⟩, fun i H v H' _ q y => ?_⟩
  obtain ⟨T, x, z, h1, h2, h3, h4, h5⟩ := y
  exact ⟨T, x, z, h1, h2, h3, h4 xs q.1, h5 ys q.2⟩
/-! ### t[::-1], t.count(x) of a tuple -/
theorem applied_rev {prog : Program} {w : World} {A : Around} {F : Value → Shared → Prop} {s : Shared} {sl : Addr} {vl vu vs : Value} {n : Nat} {Q : Int × Int × Nat → Shared → Prop} (hs : s.heap.IsSliceOf sl vl vu vs) (pl : IsPart vl none) (pu : IsPart vu none) (ps : IsPart vs (some (-1)))
    (h : Q ((n : Int) - 1, -1, n) s) : wpAny (model prog w) A (Builtin.Slice.sliceApplied (.ref sl) (pure (n : Int))) Q F s := by
  obtain ⟨ob, ho, -, hd⟩ := id hs
  unfold Builtin.Slice.sliceApplied Builtin.Slice.sliceFields
  refine wpAny_bind (wpAny_bind (wpAny_field ho hd (x := vl) rfl (wpAny_bind (wpAny_field ho hd (x := vu) rfl (wpAny_bind (wpAny_field ho hd (x := vs) rfl (wpAny_pure ?_)))))))
  refine wpAny_bind (HT.slicePart_ ps ?_)
  show wpAny _ _ (if ((-1 : Int) == 0) = true then _ else _) _ _ s
  rw [if_neg (by decide)]
  refine wpAny_bind (HT.slicePart_ pl (wpAny_bind (HT.slicePart_ pu (wpAny_bind (wpAny_pure ?_)))))
  have e1 : Builtin.Slice.sliceAdjust none none (-1) (n : Int) = ((n : Int) - 1, -1) := rfl
  have e2 : Builtin.Slice.slicePlaces ((n : Int) - 1) (-1) (-1) = n := by
    unfold Builtin.Slice.slicePlaces
    rw [if_neg (by decide)]
    have e3 : (- -1 : Int) = 1 := by decide
    split
    · rw [e3, Int.ediv_one]
      omega
    · show (0 : Int).toNat = n
      omega
  show wpAny _ _ (match Builtin.Slice.sliceAdjust none none (-1) (n : Int) with | (lo, hi) => pure (lo, (-1 : Int), Builtin.Slice.slicePlaces lo hi (-1))) _ _ s
  rw [e1]
  show wpAny _ _ (pure ((n : Int) - 1, (-1 : Int), Builtin.Slice.slicePlaces ((n : Int) - 1) (-1) (-1))) _ _ s
  rw [e2]
  exact wpAny_pure h
theorem pick_rev (its : Array Value) : (List.range its.size).filterMap (fun (k : Nat) => its[((its.size : Int) - 1 + (k : Int) * -1).toNat]?) = its.toList.reverse := by
  have e : (List.range its.size).filterMap (fun (k : Nat) => its[((its.size : Int) - 1 + (k : Int) * -1).toNat]?) = (List.range its.size).map (fun k => its.toList.reverse.getD k .none) := by
    rw [← List.filterMap_eq_map]
    refine fm_congr fun k hk => ?_
    have hk := List.mem_range.mp hk
    have e1 : ((its.size : Int) - 1 + (k : Int) * -1).toNat = its.size - 1 - k := by omega
    rw [e1]
    simp [List.getD_eq_getElem?_getD, hk]
  rw [e]
  have := range_get id .none its.toList.reverse
  rw [List.length_reverse, Array.length_toList, List.map_id] at this
  exact this
theorem getItem_tuple_rev {prog : Program} {w : World} {A : Around} {F : Value → Shared → Prop} {s : Shared} {t sl : Addr} {its : Array Value} {vl vu vs : Value} {Q : Value → Shared → Prop} (ht : IsTup s.heap t its) (hs : s.heap.IsSliceOf sl vl vu vs) (pl : IsPart vl none) (pu : IsPart vu none) (ps : IsPart vs (some (-1)))
    (h : Q (.ref s.heap.objs.size) { s with heap := s.heap.push { cls := .type "tuple", data := .seq its.toList.reverse.toArray } }) (hz : its.size ≤ sizeLine) : wpAny (model prog w) A (getItem (.ref t) (.ref sl)) Q F s := by
  have hok : sizeOk (.seq its.toList.reverse.toArray) := by
    show its.toList.reverse.toArray.size ≤ sizeLine
    rw [List.size_toArray, List.length_reverse, Array.length_toList]
    exact hz
  obtain ⟨os, hos, hcs, hds⟩ := id hs
  have tsl : s.TypeIs (.ref sl) "slice" := ⟨os, hos, hcs⟩
  unfold getItem
  try with_reducible refine wpAny_holding ?_
  first | refine wpAny_bind (wpAny_pure ?_) | skip
  refine wpAny_bind (wpAny_sequenceKey ht.typeIs (by decide) (wpAny_bind (wpAny_callSpecial?_slot (name := Str.ofString "__getitem__") ht.typeIs PyProof.Rows.slot_tuple_getitem
    (wpAny_call_entry PyProof.Rows.slot_tuple_getitem ht.typeIs entry_tuple_getitem ?_ (args_tuple_getitem _ _)))))
  show wpAny _ _ (Builtin.Tuple.tupleItemsOf (.ref t) >>= _) _ _ s
  refine wpAny_bind (tupleItemsOf_ ht (wpAny_bind (wpAny_typeOf tsl ?_)))
  rw [if_pos (by decide)]
  refine wpAny_bind (applied_rev hs pl pu ps ?_)
  have no : ¬ (((its.size : Int) - 1 == 0 && (-1 : Int) == 1 && its.size == its.size) = true) := by simp
  show wpAny _ _ (if ((its.size : Int) - 1 == 0 && (-1 : Int) == 1 && its.size == its.size) = true then _ else _) _ _ s
  rw [if_neg no, pick_rev]
  first
    | exact wpAny_bind (m := Builtin.Tuple.tupleExact _) (wpAny_newObj_type (wpAny_pure ⟨_, rfl, wpAny_pure h⟩) hok)
    | exact wpAny_bind (m := Builtin.Tuple.tupleExact _) (wpAny_newObj_type (wpAny_bind (wpAny_pure (wpAny_pure ⟨_, rfl, wpAny_pure h⟩))) hok)
    | exact wpAny_bind (wpAny_bind (m := Builtin.Tuple.tupleExact _) (wpAny_newObj_type (wpAny_pure (wpAny_pure ⟨_, rfl, wpAny_pure h⟩)) hok))
    | exact wpAny_bind (wpAny_bind (m := Builtin.Tuple.tupleExact _) (wpAny_newObj_type (wpAny_pure ⟨_, rfl, wpAny_pure h⟩) hok))
/-- t[::-1] -/
def tRevT (K : PySem.W.Frag) (te : TE) : TE := fun σ H Q => te σ H fun x H1 => ∃ a xs, x = .ref a ∧ SqT K H1 a xs ∧ ∀ p, H1 p = none → Q (.ref p) (upd H1 p (.tup xs.reverse))
theorem pe_revT {X : Cx} {e : Expr} {te : TE} {k : Nat} {p1 p2 p3 pos : Pos} (he : PE X e te) : PE X (.Subscript e (.Slice none none (some (.UnaryOp .USub (.Constant (.int 1) k p1) p2)) p3) pos) (tRevT X.K te) := by
  constructor
  intro pins s σ H Q I h
  refine Subscript_ (thn (he.run pins s σ H _ I h) fun v s1 ⟨x, G1, I1, r1, a, xs, ex, hx, k1⟩ => ?_)
  subst ex
  cases r1
  have st : PO X (some (.UnaryOp .USub (.Constant (.int 1) k p1) p2)) (tPart (tUn (rU fun i => .int (-i)) (tC (.int 1)))) := po_some (pe_un un_neg pe_int)
  refine wpAny_Slice (thn (po_none.run pins s1 σ G1 (fun o G => o = none ∧ G = G1) I1 ⟨rfl, rfl⟩) fun vl s2 ⟨l, G2, I2, pl, el, g2⟩ => ?_)
  subst el g2
  refine thn (po_none.run pins s2 σ G2 (fun o G => o = none ∧ G = G2) I2 ⟨rfl, rfl⟩) fun vu s3 ⟨u, G3, I3, pu, eu, g3⟩ => ?_
  subst eu g3
  refine thn (st.run pins s3 σ G3 (fun o G => o = some (-1) ∧ G = G3) I3 ⟨1, rfl, -1, rfl, rfl, rfl⟩) fun vs s4 ⟨o, G4, I4, ps, eo, g4⟩ => ?_
  subst eo g4
  have I5 : Inv X pins σ G4 { s4 with heap := s4.heap.push { cls := .type "slice", data := .fields #[vl, vu, vs] } } := I4.kept (t' := s4.toks) fun b ob q => Heap.get?_push_of_some _ q
  obtain ⟨its, r, ht, hz⟩ := I5.tuple hx
  have hlen := r.length
  show wpAny (model X.prog X.w) X.A (subscriptTail e (.Slice none none (some (.UnaryOp .USub (.Constant (.int 1) k p1) p2)) p3) (.ref a) (.ref s4.heap.objs.size)) (EP X pins σ Q) X.xe { s4 with heap := s4.heap.push { cls := .type "slice", data := .fields #[vl, vu, vs] } }
  refine tail_any (ops := [.ref a, .ref s4.heap.objs.size]) ht.typeIs (PyProof.Rows.slot_tuple_getitem.lookup) ?_ (by with_unfolding_all rfl)
  refine getItem_tuple_rev ht (Heap.IsSliceOf.new _ vl vu vs) pl pu ps ?_ (by rw [List.size_toArray]; omega)
  refine ⟨.ref _, _, I5.laid (t' := s4.toks) (o := .tup xs.reverse) (fun b ob q => Heap.get?_push_of_some _ q) (Nat.le_refl _) ?_, rfl, k1 _ (I5.hok.fresh (Nat.le_refl _))⟩
  exact ⟨by rw [List.length_reverse]; exact hz, _, r.reverse, IsTup.new _ _⟩
/-- t.count(c), a tuple of bools -/
def rCntT (K : PySem.W.Frag) : V → List V → Hp → VK → Prop := fun x xs H Q => ∃ (p : Addr) (bs : List Bool) (c : Bool), x = .ref p ∧ xs = [.bl c] ∧ SqT K H p (bs.map V.bl) ∧ Q (.int (bs.count c : Nat)) H
def isB (c : Bool) (u : Value) : Bool := match u with
  | .bool b => b == c
  | _ => false
theorem isB_all {c : Bool} : ∀ {bs : List Bool} {its : List Value}, Vals (bs.map V.bl) its → (∀ z ∈ its, ∃ b, z = .bool b) ∧ its.countP (isB c) = bs.count c
  | [], _, .nil => ⟨fun z hz => (nomatch hz), rfl⟩
  | b :: r, _, .cons h t => by
    obtain ⟨h1, h2⟩ := isB_all (c := c) t
    cases h
    refine ⟨fun z hz => ?_, ?_⟩
    · rcases List.mem_cons.mp hz with rfl | hz
      · exact ⟨b, rfl⟩
      · exact h1 z hz
    · rw [List.countP_cons, List.count_cons, h2] <;> rfl
theorem mt_tcount {X : Cx} : MtR X "tuple.count" (rCntT X.K) := by
  intro pins s σ H x xs v us Q I rx rxs h
  obtain ⟨p, bs, c, rfl, rfl, hs, q⟩ := h
  cases rx
  obtain ⟨u, rfl, ru⟩ := Vals.one rxs
  obtain ⟨its, rv, ⟨⟨cls, dd, data, sl⟩, ho, hc, n, hd⟩, hlen⟩ := I.tuple hs
  simp only at hc hd
  subst hc hd
  obtain ⟨h1, h2⟩ := isB_all (c := c) rv
  refine call_meets PySem.F.slot_tuple_count ⟨_, ho, rfl⟩ PySem.F.entry_tuple_count (PySem.F.args_tuple_count_2 _ _) (SeqAt.tuple_countAt p its.toArray n dd sl u (isB c)) ⟨ho, fun z hz => ?_, ?_⟩
  · obtain ⟨b, rfl⟩ := h1 z (by simpa using hz)
    exact eqAt_V (y := .bl b) (x := .bl c) rfl ru rfl rfl
  · refine ⟨.int (bs.count c : Nat), H, I.tok _, ⟨s.toks, ?_⟩, q⟩
    show Value.int ((its.toArray.toList.countP (isB c) : Nat) : Int) s.toks = _
    rw [show its.toArray.toList = its from rfl, h2]
/-- tuple(list), the new object known as it is -/
def rTupZ (K : PySem.W.Frag) : List V → Hp → VK → Prop := fun xs H Q => ∃ p ys, xs = [.ref p] ∧ SqL K H p ys ∧ ∀ l (ob : Obj), H l = none → ob.dict = none → Q (.ref l) (upd H l (.frz ob (.tup ys)))
theorem call_tuple_ofZ {X : Cx} : CallR X (.type "tuple") (rTupZ X.K) := by
  intro pins s σ H xs us Q I r h
  obtain ⟨p, ys, rfl, hq, q⟩ := h
  obtain ⟨u, rfl, ru⟩ := vals1 r
  cases ru
  obtain ⟨its, rv, plc, hz⟩ := I.list hq
  have ln := rv.length
  refine call_tuple_list plc.isList (fun g kp => ?_) (by simp only [List.size_toArray] <;> omega)
  have J : Inv X pins σ H { s with heap := g } := I.kept (t' := s.toks) kp
  have J2 : Inv X pins σ (upd H g.objs.size (.frz { cls := .type "tuple", data := .seq its.toArray } (.tup ys))) { s with heap := g.push { cls := .type "tuple", data := .seq its.toArray } } :=
    J.laid (t' := s.toks) (fun b o e => Heap.get?_push_of_some _ e) (Nat.le_refl _) (show ObjOk X.prog X.w _ _ _ (.frz { cls := .type "tuple", data := .seq its.toArray } (.tup ys)) from ⟨Heap.get?_push_size _ rfl, hz, its, rv, IsTup.new _ _⟩)
  exact ⟨.ref g.objs.size, _, J2, rfl, q _ _ (J.hok.fresh (Nat.le_refl _)) rfl⟩
/-- t.count(c), t a tuple of bools known as it is -/
def tCntZ (to : TE) (ts : TA) : TE := fun σ H Q => to σ H fun x H1 => ∃ (p : Addr) (ob : Obj) (bs : List Bool), x = .ref p ∧ H1 p = some (.frz ob (.tup (bs.map V.bl))) ∧ ob.dict = none ∧ ts σ H1 fun ys H2 => ∃ c, ys = [.bl c] ∧ H2 p = some (.frz ob (.tup (bs.map V.bl))) ∧ Q (.int (bs.count c : Nat)) H2
theorem pe_tcount {X : Cx} {o e : Expr} {to : TE} {ts : TA} {apos cpos : Pos} (ho : PE X o to) (ha : PA X [e] ts) (hbase : attributeBase o "count" X.env (eval o X.env) = eval o X.env := by rfl)
    (hfew : ((backTo cpos (starEach [e] X.env)).all (fun x => !x.1) && (backToKw cpos (keywordEach [] X.env)).all (fun x => x.1.isSome)
      && decide ([e].length + ([] : List Keyword).length + (if ([] : List Keyword).isEmpty then 0 else 1) < 30)) = true := by rfl)
    (hline : (apos.endLine == cpos.line) = true := by rfl) (hs : starEach [e] X.env = (false, eval e X.env) :: starEach [] X.env := by rfl) (hplain : (backTo cpos (starEach [] X.env)).any (·.1) = false := by rfl) :
    PE X (.Call (.Attribute o "count" apos) [e] [] cpos) (tCntZ to ts) := by
  constructor
  intro pins s σ H Q I h
  refine wpAny_Call_method_late hbase hfew hline rfl (thn (ho.run pins s σ H _ I h) fun v t ⟨x, H1, J, rx, p, ob, bs, ex, hp, hdn, q⟩ => ?_)
  subst ex
  obtain rfl : v = Value.ref p := rx
  obtain ⟨hg, hlen, its, rv, ⟨ob2, hg2, hc, -⟩⟩ := J.hok p _ hp
  obtain rfl : ob2 = ob := by
    rw [hg] at hg2
    exact (Option.some.inj hg2).symm
  refine ⟨"tuple", "tuple.count", PySem.F.plainAttrs_tuple, PySem.F.slot_tuple_count, PySem.F.type_tuple_count, ⟨_, hg, hc⟩, fun a ea => by cases ea; exact ⟨_, hg, hdn⟩, ?_⟩
  have hA := ha.run cpos pins t σ H1 _ J q
  rw [hs] at hA ⊢
  refine Calls.callWith_builtin (by show (false || (backTo cpos (starEach [] X.env)).any (·.1)) = false; rw [hplain] <;> rfl) (Calls.evalArgs_plain ?_)
  refine thn hA fun us t2 ⟨vs, H2, J2, r2, c, e1, h2, q2⟩ => ?_
  subst e1
  exact mt_tcount pins t2 σ H2 (.ref p) [.bl c] (.ref p) us Q J2 rfl r2 ⟨p, bs, c, rfl, rfl, .inl (.inr ⟨_, h2⟩), q2⟩
/-! ### own classes: x in o, C(a, *b), C(*b), defs with *b, C.m(a) -/
section
variable {X : Cx} {CX : CXT} {k : Nat} {f C : Addr} {fd : FuncData} {ps : List Str} {sp : Sp} {E : XK}
def rInOwn (C : Addr) (sp : Sp) (E : XK) (g : Bool → Bool) : R2 := fun x y H Q => IsC C H y ∧ sp [y, x] H (fun z H' => ∃ b, z = .bl b ∧ Q (.bl (g b)) H') E
theorem contains_own {pins : List (Addr × Obj)} {σ : L2.St} {H : Hp} {s : Shared} {x : V} {v : Value} {a dx : Addr} {fs : List (Str × V)} {Q : Bool → Hp → Prop} (hs : PySem.W.findIn X.K (.ref C) "__contains__" = some (some (.ref f))) (hf : PySem.W.isFn X.K (.ref f) = true)
    (F : FnOk X.prog X.w X.K X.mg X.base CX k f fd ps sp) (hr : Room k X.A) (hb : Binds X.K fd ps []) (hx : Passes CX X E) (I : Inv X pins σ H s) (ha : H a = some (.ins C dx fs)) (rx : RelV x v) (h : sp [.ref a, x] H (fun z H' => ∃ b, z = .bl b ∧ Q b H') E) :
    wpAny (model X.prog X.w) X.A (contains (.ref a) v) (TP X pins σ Q) X.xe s := by
  obtain ⟨oa, J⟩ := inst_of I ha
  unfold contains
  refine wpAny_holding (wpAny_bind (wpAny_bind (J.type.here ((PySem.W.looks_findIn I.kIn hs).here ?_))))
  rw [if_neg (by simp)]
  refine wpAny_bind (PySem.W.unlessNone_K I.kIn J hs hf (wpAny_mono (run_fn (us := [.ref a, v]) (vs := [.ref a, x]) F hr hb .nil hx I (.cons rfl (.cons rx .nil)) (show sp ([V.ref a, x] ++ []) H (fun z H' => ∃ b, z = .bl b ∧ Q b H') E from h)) (fun w t z => ?_) fun _ _ z => z))
  obtain ⟨z', H', I', rz, b, rfl, q⟩ := z
  exact tru_ok pins t σ H' (.bl b) w Q I' rz ⟨b, rfl, q⟩
theorem op_inOwn (hs : PySem.W.findIn X.K (.ref C) "__contains__" = some (some (.ref f))) (hf : PySem.W.isFn X.K (.ref f) = true) (F : FnOk X.prog X.w X.K X.mg X.base CX k f fd ps sp) (hr : Room k X.A) (hb : Binds X.K fd ps []) (hx : Passes CX X E) :
    OpR X (compareOp .In) (rInOwn C sp E id) := by
  intro pins s σ H x y v u Q I rx ry h
  obtain ⟨⟨a, dx, fs, rfl, ha⟩, q⟩ := h
  cases (show u = Value.ref a from ry)
  exact wpAny_bind (wpAny_mono (contains_own (Q := fun b H' => Q (.bl b) H') hs hf F hr hb hx I ha rx q) (fun b t ⟨H', I', q⟩ => wpAny_pure ⟨.bl b, H', I', rfl, q⟩) fun _ _ z => z)
theorem op_notInOwn (hs : PySem.W.findIn X.K (.ref C) "__contains__" = some (some (.ref f))) (hf : PySem.W.isFn X.K (.ref f) = true) (F : FnOk X.prog X.w X.K X.mg X.base CX k f fd ps sp) (hr : Room k X.A) (hb : Binds X.K fd ps []) (hx : Passes CX X E) :
    OpR X (compareOp .NotIn) (rInOwn C sp E not) := by
  intro pins s σ H x y v u Q I rx ry h
  obtain ⟨⟨a, dx, fs, rfl, ha⟩, q⟩ := h
  cases (show u = Value.ref a from ry)
  exact wpAny_bind (wpAny_mono (contains_own (Q := fun b H' => Q (.bl (!b)) H') hs hf F hr hb hx I ha rx q) (fun b t ⟨H', I', q⟩ => wpAny_pure ⟨.bl (!b), H', I', rfl, q⟩) fun _ _ z => z)
open StX in
/-- C(a, .., *b) -/
theorem pe_makeS2 {x : Str} {e : Expr} {es : List Expr} {t : TA} {p pos : Pos} (M : Mk X.K C f) (F : FnR X.prog X.w X.K X.mg X.base CX k f sp) (hr : Room (k + 1) X.A) (hg : Gl X x) (hm : X.mg x = some (.ref C)) (hx : Passes CX X E) (ha : PA X (e :: es) t) (hdb : (x == ("__debug__" : Str)) = false := by decide)
    (he : starEach (e :: es) X.env = (false, eval e X.env) :: starEach es X.env := by rfl) (hst : (backTo pos (starEach es X.env)).any (·.1) = true := by rfl) : PE X (.Call (.Name x p) (e :: es) [] pos) (tMakeR C sp E t) := by
  constructor
  intro pins s σ H Q I h
  exact wpAny_Call_Name_kw (ld_glob I hg hm (PySem.W.callWith_S2 (h₀ := X.base) I.ok.mod.kin M.kp (thn (ha.run pos pins s σ H _ I h) fun us t ⟨vs, H1, I1, r, q⟩ => ⟨I1.kIn, run_makeR M F hr hx I1 r q⟩) he hst) hdb)
open StX in
/-- C(*b) -/
theorem pe_makeS1 {x : Str} {e : Expr} {te : TE} {p sp_ pos : Pos} (M : Mk X.K C f) (F : FnR X.prog X.w X.K X.mg X.base CX k f sp) (hr : Room (k + 1) X.A) (hg : Gl X x) (hm : X.mg x = some (.ref C)) (hx : Passes CX X E) (he : PE X e te) (hdb : (x == ("__debug__" : Str)) = false := by decide)
    (hst : starEach [.Starred e sp_] X.env = [(true, eval e X.env)] := by rfl) :
    PE X (.Call (.Name x p) [.Starred e sp_] [] pos) (fun σ H Q => te σ H fun y H1 => ∃ a xs, y = V.ref a ∧ (SqT X.K H1 a xs ∨ SqL X.K H1 a xs) ∧ ∀ x dx, H1 x = none → H1 dx = none → dx ≠ x → sp (V.ref x :: xs) (upd (upd H1 dx (.own x)) x (.ins C dx [])) (fun v H2 => v = .non ∧ Q (.ref x) H2) E) := by
  constructor
  intro pins s σ H Q I h
  refine wpAny_Call_Name_kw (ld_glob I hg hm (PySem.W.callWith_S (h₀ := X.base) I.ok.mod.kin M.kp (thn (he.run pins s σ H _ I h) fun v t ⟨y, H1, I1, ry, a, xs, ey, hxs, q⟩ => ?_) hst) hdb)
  subst ey
  obtain rfl : v = Value.ref a := ry
  exact star_any I1 hxs fun us t2 I2 rv => ⟨I2.kIn, run_makeR M F hr hx I2 rv q⟩
end
/-- what a def with a star behind its parameters is asked -/
def spStar (n : Nat) (sp : Sp) : Sp := fun vs H Q E => ∃ ws rest, vs = ws ++ rest ∧ ws.length = n ∧ rest.length ≤ sizeLine ∧ ∀ p, H p = none → sp (ws ++ [V.ref p]) (upd H p (.tup rest)) Q E
theorem Fun.okStar {P : Program} {w : World} {K : PySem.W.Frag} {mg : Str → Option Value} {base : Heap} {x qual : Str} {st : Stmt} {f : Addr} {fd : FuncData} {N ps : List Str} {pv : Str} {k : Nat} {sp : Sp} (F : Fun K x qual st f fd) (S : FnScope N (ps ++ [pv]) (defScope st))
    (hb : ∀ (kV doc pm : Value) (an : Option Addr) (cdv ct : Value) (us rest : List Value), us.length = ps.length → bindArgs (PySem.W.fnOf x qual (defArgs st) (defBody st) (defScope st) .none kV doc pm an cdv ct) ⟨us ++ rest, []⟩ = (newTuple rest >>= fun t => pure (ps.zip us ++ [(pv, t)])))
    (hbody : ∀ (cdv : Value) (A : Around) (outer : List Env) (s : Shared) (H : Hp) (vs : List V) (Q : VK) (E : XK), Room k (A.deeper (envOfC qual (defScope st) s.heap.objs.size f cdv)) → sp vs H Q E →
      ∃ t, PSs (cxOf (L2.CX P w) P w K mg base N qual (defScope st) f cdv A outer s H E) (defBody st) t ∧ t { nx := fun _ H' => Q .non H', rt := Q } (start N vs) H) : FnR P w K mg base (L2.CX P w) (k + 1) f (spStar ps.length sp) := by
  obtain ⟨oc, od, kV, doc, pm, an, cdv, ct, osl, rfl, lk, hcd⟩ := F.ex
  exact StX.fn_star lk hcd S StX.cxUp (hb kV doc pm an cdv ct) fun A outer s H vs Q E hr h => hbody cdv A outer s H vs Q E hr h
/-! ### families: the mathematics -/
/-- m without its bit c -/
def cl (m c : Nat) : Nat := m - (m &&& 1 <<< c)
theorem and_one (m c : Nat) : m &&& 1 <<< c = if m.testBit c then 1 <<< c else 0 := by
  refine Nat.eq_of_testBit_eq fun d => ?_
  rw [Nat.testBit_and, one_bit]
  by_cases e : c = d
  · subst e
    cases h : m.testBit c with
    | true => simp [one_bit]
    | false => simp
  · rw [decide_eq_false e, Bool.and_false]
    split
    · rw [one_bit, decide_eq_false e]
    · simp
theorem cl_le (m c : Nat) : cl m c ≤ m := Nat.sub_le _ _
theorem cl_bit8 : ∀ m : Nat, m < 256 → ∀ c : Nat, c < 8 → ∀ i : Nat, i < 8 → (cl m c).testBit i = (m.testBit i && !decide (i = c)) := by decide +kernel
theorem bit_big {m i : Nat} (h : m < 256) (hi : 8 ≤ i) : m.testBit i = false := Nat.testBit_lt_two_pow (Nat.lt_of_lt_of_le h (Nat.pow_le_pow_right (by decide) hi : 2 ^ 8 ≤ 2 ^ i))
theorem cl_bit {m c : Nat} (h : m < 256) (hc : c < 8) (i : Nat) : (cl m c).testBit i = (m.testBit i && !decide (i = c)) := by
  rcases Nat.lt_or_ge i 8 with k | k
  · exact cl_bit8 m h c hc i k
  · rw [bit_big (Nat.lt_of_le_of_lt (cl_le m c) h) k, bit_big h k] <;> rfl
/-- k is within m -/
def Sub (k m : Nat) : Prop := ∀ i, k.testBit i = true → m.testBit i = true
def subB (k m : Nat) : Bool := k &&& m == k
theorem subB_iff {k m : Nat} : subB k m = true ↔ Sub k m := by
  unfold subB Sub
  rw [beq_iff_eq]
  constructor
  · intro e i h
    rw [← e, Nat.testBit_and] at h
    exact (Bool.and_eq_true_iff.mp h).2
  · intro h
    refine Nat.eq_of_testBit_eq fun i => ?_
    rw [Nat.testBit_and]
    cases e : k.testBit i with
    | true => rw [h i e] <;> rfl
    | false => rfl
theorem Sub.refl (k : Nat) : Sub k k := fun _ h => h
theorem Sub.trans {a b c : Nat} (h : Sub a b) (k : Sub b c) : Sub a c := fun i x => k i (h i x)
theorem Sub.le {k m : Nat} (h : Sub k m) : k ≤ m := by
  have e := subB_iff.mpr h
  unfold subB at e
  rw [beq_iff_eq] at e
  rw [← e]
  exact Nat.and_le_right
theorem sub_cl {m c : Nat} (h : m < 256) (hc : c < 8) : Sub (cl m c) m := fun i x => by
  rw [cl_bit h hc] at x
  exact (Bool.and_eq_true_iff.mp x).1
theorem sub_zero {k : Nat} (h : Sub k 0) : k = 0 := Nat.eq_of_testBit_eq fun i => by
  cases e : k.testBit i with
  | true =>
    have := h i e
    simp at this
  | false => simp
theorem sub_top {n k : Nat} (h : k < 2 ^ n) : Sub k (2 ^ n - 1) := fun i x => by
  rw [Nat.testBit_two_pow_sub_one, decide_eq_true_eq]
  rcases Nat.lt_or_ge i n with z | z
  · exact z
  · rw [Nat.testBit_lt_two_pow (Nat.lt_of_lt_of_le h (Nat.pow_le_pow_right (by decide) z))] at x
    cases x
def upB (ms : List Nat) (m : Nat) : Bool := ms.any fun k => subB k m
theorem upB_iff {ms : List Nat} {m : Nat} : upB ms m = true ↔ ∃ k ∈ ms, Sub k m := by
  unfold upB
  rw [List.any_eq_true]
  exact ⟨fun ⟨k, h, e⟩ => ⟨k, h, subB_iff.mp e⟩, fun ⟨k, h, e⟩ => ⟨k, h, subB_iff.mpr e⟩⟩
/-- growing copy by copy -/
def growN : Nat → (Nat → Bool) → Nat → Bool
  | 0, f => f
  | c + 1, f => fun m => growN c f m || growN c f (cl m c)
theorem growN_iff {f : Nat → Bool} : ∀ {c : Nat}, c ≤ 8 → ∀ {m : Nat}, m < 256 → (growN c f m = true ↔ ∃ k, f k = true ∧ Sub k m ∧ ∀ i, c ≤ i → k.testBit i = m.testBit i)
  | 0, _, m, _ => ⟨fun h => ⟨m, h, Sub.refl m, fun _ _ => rfl⟩, fun ⟨k, h, _, e⟩ => by
    have : k = m := Nat.eq_of_testBit_eq fun i => e i (Nat.zero_le i)
    rw [← this]
    exact h⟩
  | c + 1, hc, m, hm => by
    have hm2 := Nat.lt_of_le_of_lt (cl_le m c) hm
    have ih1 := @growN_iff f c (by omega) m hm
    have ih2 := @growN_iff f c (by omega) (cl m c) hm2
    show (growN c f m || growN c f (cl m c)) = true ↔ _
    rw [Bool.or_eq_true, ih1, ih2]
    constructor
    · rintro (⟨k, h, s, e⟩ | ⟨k, h, s, e⟩)
      · exact ⟨k, h, s, fun i hi => e i (by omega)⟩
      · refine ⟨k, h, s.trans (sub_cl hm (by omega)), fun i hi => ?_⟩
        rw [e i (by omega), cl_bit hm (by omega), decide_eq_false (by omega : ¬ i = c)]
        simp
    · rintro ⟨k, h, s, e⟩
      by_cases hb : k.testBit c = m.testBit c
      · refine .inl ⟨k, h, s, fun i hi => ?_⟩
        rcases Nat.eq_or_lt_of_le hi with rfl | hi
        · exact hb
        · exact e i hi
      · have kf : k.testBit c = false := by
          cases q : k.testBit c with
          | true => exact absurd (by rw [q, s c q]) hb
          | false => rfl
        refine .inr ⟨k, h, fun i x => ?_, fun i hi => ?_⟩
        · rw [cl_bit hm (by omega), s i x]
          by_cases z : i = c
          · rw [z, kf] at x
            cases x
          · simp [z]
        · rw [cl_bit hm (by omega)]
          by_cases z : i = c
          · rw [z, kf]
            simp
          · rw [e i (by omega)]
            simp [z]
theorem growN_up {n m : Nat} {ms : List Nat} (hn : n ≤ 8) (hm : m < 2 ^ n) (hk : ∀ k ∈ ms, k < 2 ^ n) : growN n (fun m => decide (m ∈ ms)) m = upB ms m := by
  have h256 : m < 256 := Nat.lt_of_lt_of_le hm (pow_le8 hn)
  have h1 := @growN_iff (fun m => decide (m ∈ ms)) n hn m h256
  rw [Bool.eq_iff_iff, h1, upB_iff]
  constructor
  · rintro ⟨k, h, s, _⟩
    exact ⟨k, of_decide_eq_true h, s⟩
  · rintro ⟨k, h, s⟩
    refine ⟨k, decide_eq_true h, s, fun i hi => ?_⟩
    rw [Nat.testBit_lt_two_pow (Nat.lt_of_lt_of_le (hk k h) (Nat.pow_le_pow_right (by decide) hi)), Nat.testBit_lt_two_pow (Nat.lt_of_lt_of_le hm (Nat.pow_le_pow_right (by decide) hi))]
/-- a family of n copies: which masks it has -/
structure Fm (n : Nat) (f : Nat → Bool) : Prop where
  n1 : 1 ≤ n
  n8 : n ≤ 8
  up : ∀ k m, Sub k m → m < 2 ^ n → f k = true → f m = true
  top : f (2 ^ n - 1) = true
  bot : f 0 = false
theorem fm_upB {n : Nat} {ms : List Nat} (n1 : 1 ≤ n) (n8 : n ≤ 8) (hne : ms ≠ []) (h : ∀ k ∈ ms, k < 2 ^ n ∧ k ≠ 0) : Fm n (upB ms) := by
  refine ⟨n1, n8, fun k m s _ e => ?_, ?_, ?_⟩
  · obtain ⟨j, hj, t⟩ := upB_iff.mp e
    exact upB_iff.mpr ⟨j, hj, t.trans s⟩
  · obtain ⟨k, r, rfl⟩ := List.exists_cons_of_ne_nil hne
    exact upB_iff.mpr ⟨k, List.mem_cons_self, sub_top (h k List.mem_cons_self).1⟩
  · cases e : upB ms 0 with
    | false => rfl
    | true =>
      obtain ⟨k, hk, s⟩ := upB_iff.mp e
      exact absurd (sub_zero s) (h k hk).2
def minB (n : Nat) (f : Nat → Bool) (m : Nat) : Bool := f m && !((List.range n).any fun c => m.testBit c && f (m - 1 <<< c))
def minL (n : Nat) (f : Nat → Bool) : List Nat := (List.range (2 ^ n)).filter (minB n f)
theorem cl_sub {m c : Nat} (h : m.testBit c = true) : m - 1 <<< c = cl m c := by
  unfold cl
  rw [and_one, h] <;> rfl
theorem cl_lt {m c : Nat} (h : m.testBit c = true) : cl m c < m := by
  rw [← cl_sub h]
  have : 0 < 1 <<< c := by rw [Nat.one_shiftLeft]; exact Nat.two_pow_pos c
  have hm : 0 < m := by
    rcases Nat.eq_zero_or_pos m with z | z
    · subst z
      simp at h
    · exact z
  omega
theorem min_below {n : Nat} {f : Nat → Bool} (hn : n ≤ 8) : ∀ {m : Nat}, m < 2 ^ n → f m = true → ∃ k, k < 2 ^ n ∧ minB n f k = true ∧ Sub k m := by
  intro m
  induction m using Nat.strongRecOn with
  | ind m ih =>
    intro hm h
    cases e : (List.range n).any (fun c => m.testBit c && f (m - 1 <<< c)) with
    | false => exact ⟨m, hm, by unfold minB; rw [h, e] <;> rfl, Sub.refl m⟩
    | true =>
      obtain ⟨c, hc, x⟩ := List.any_eq_true.mp e
      obtain ⟨x1, x2⟩ := Bool.and_eq_true_iff.mp x
      have hc8 : c < 8 := Nat.lt_of_lt_of_le (List.mem_range.mp hc) hn
      have hm256 : m < 256 := Nat.lt_of_lt_of_le hm (pow_le8 hn)
      rw [cl_sub x1] at x2
      have lt := cl_lt x1
      obtain ⟨k, h1, h2, h3⟩ := ih (cl m c) lt (Nat.lt_trans lt hm) x2
      exact ⟨k, h1, h2, h3.trans (sub_cl hm256 hc8)⟩
theorem fm_min {n : Nat} {f : Nat → Bool} (F : Fm n f) {m : Nat} (hm : m < 2 ^ n) : upB (minL n f) m = f m := by
  rw [Bool.eq_iff_iff, upB_iff]
  constructor
  · rintro ⟨k, hk, s⟩
    refine F.up k m s hm ?_
    have := (List.mem_filter.mp hk).2
    unfold minB at this
    exact (Bool.and_eq_true_iff.mp this).1
  · intro h
    obtain ⟨k, h1, h2, h3⟩ := min_below F.n8 hm h
    exact ⟨k, List.mem_filter.mpr ⟨List.mem_range.mpr h1, h2⟩, h3⟩
theorem minB_congr {n : Nat} {f g : Nat → Bool} (h : ∀ m, m < 2 ^ n → f m = g m) {m : Nat} (hm : m < 2 ^ n) : minB n f m = minB n g m := by
  unfold minB
  rw [h m hm]
  congr 2
  refine congrArg (List.any (List.range n)) (funext fun c => ?_)
  rw [h _ (Nat.lt_of_le_of_lt (Nat.sub_le _ _) hm)]
theorem minL_congr {n : Nat} {f g : Nat → Bool} (h : ∀ m, m < 2 ^ n → f m = g m) : minL n f = minL n g := by
  unfold minL
  refine List.filter_congr fun m hm => minB_congr h (List.mem_range.mp hm)
theorem minL_inj {n : Nat} {f g : Nat → Bool} (F : Fm n f) (G : Fm n g) (h : minL n f = minL n g) {m : Nat} (hm : m < 2 ^ n) : f m = g m := by
  rw [← fm_min F hm, ← fm_min G hm, h]
theorem minL_lt {n : Nat} {f : Nat → Bool} {m : Nat} (h : m ∈ minL n f) : m < 2 ^ n := List.mem_range.mp (List.mem_filter.mp h).1
theorem minL_f {n : Nat} {f : Nat → Bool} {m : Nat} (h : m ∈ minL n f) : f m = true := by
  have := (List.mem_filter.mp h).2
  unfold minB at this
  exact (Bool.and_eq_true_iff.mp this).1
theorem minL_ne {n : Nat} {f : Nat → Bool} (F : Fm n f) : minL n f ≠ [] := by
  have hp : 2 ^ n - 1 < 2 ^ n := Nat.sub_lt (Nat.two_pow_pos n) Nat.one_pos
  obtain ⟨k, h1, h2, _⟩ := min_below F.n8 hp F.top
  exact List.ne_nil_of_mem (List.mem_filter.mpr ⟨List.mem_range.mpr h1, h2⟩)
/-- families that agree -/
def eqB (n : Nat) (f g : Nat → Bool) : Bool := (List.range (2 ^ n)).all fun m => f m == g m
theorem eqB_iff {n : Nat} {f g : Nat → Bool} : eqB n f g = true ↔ ∀ m, m < 2 ^ n → f m = g m := by
  unfold eqB
  rw [List.all_eq_true]
  exact ⟨fun h m hm => beq_iff_eq.mp (h m (List.mem_range.mpr hm)), fun h m hm => beq_iff_eq.mpr (h m (List.mem_range.mp hm))⟩
theorem minL_eq {n : Nat} {f g : Nat → Bool} (F : Fm n f) (G : Fm n g) : decide (minL n f = minL n g) = eqB n f g := by
  rw [Bool.eq_iff_iff, decide_eq_true_eq, eqB_iff]
  exact ⟨fun h m hm => minL_inj F G h hm, minL_congr⟩
def leB (n : Nat) (f g : Nat → Bool) : Bool := (List.range (2 ^ n)).all fun m => g m || !f m
theorem leB_iff {n : Nat} {f g : Nat → Bool} : leB n f g = true ↔ ∀ m, m < 2 ^ n → f m = true → g m = true := by
  unfold leB
  rw [List.all_eq_true]
  refine ⟨fun h m hm hf => ?_, fun h m hm => ?_⟩
  · have := h m (List.mem_range.mpr hm)
    rw [hf] at this
    simpa using this
  · cases e : f m with
    | true => rw [h m (List.mem_range.mp hm) e] <;> rfl
    | false => simp
/-- the mask of the others -/
def oth (n m : Nat) : Nat := 2 ^ n - 1 - m
theorem oth_lt {n m : Nat} : oth n m < 2 ^ n := by
  unfold oth
  have := Nat.two_pow_pos n
  omega
theorem oth_oth {n m : Nat} (h : m < 2 ^ n) : oth n (oth n m) = m := by
  unfold oth
  omega
theorem oth_bit {n m : Nat} (h : m < 2 ^ n) (c : Nat) : (oth n m).testBit c = (decide (c < n) && !m.testBit c) := other_bit h c
theorem oth_sub {n k m : Nat} (hk : k < 2 ^ n) (hm : m < 2 ^ n) (h : Sub k m) : Sub (oth n m) (oth n k) := fun i x => by
  rw [oth_bit hm] at x
  rw [oth_bit hk]
  obtain ⟨x1, x2⟩ := Bool.and_eq_true_iff.mp x
  rw [x1]
  cases e : k.testBit i with
  | true => rw [h i e] at x2; cases x2
  | false => rfl
theorem oth_top {n : Nat} : oth n (2 ^ n - 1) = 0 := by
  unfold oth
  omega
theorem oth_zero {n : Nat} : oth n 0 = 2 ^ n - 1 := by
  unfold oth
  omega
def dualB (n : Nat) (f : Nat → Bool) (m : Nat) : Bool := !f (oth n m)
theorem Fm.dual {n : Nat} {f : Nat → Bool} (F : Fm n f) : Fm n (dualB n f) := by
  have h0 := Nat.two_pow_pos n
  refine ⟨F.n1, F.n8, fun k m s hm h => ?_, ?_, ?_⟩
  · have hk : k < 2 ^ n := Nat.lt_of_le_of_lt s.le hm
    unfold dualB at h ⊢
    cases e : f (oth n m) with
    | false => rfl
    | true =>
      rw [F.up _ _ (oth_sub hk hm s) oth_lt e] at h
      cases h
  · unfold dualB
    rw [oth_top, F.bot] <;> rfl
  · unfold dualB
    rw [oth_zero, F.top] <;> rfl
theorem Fm.or {n : Nat} {f g : Nat → Bool} (F : Fm n f) (G : Fm n g) : Fm n (fun m => f m || g m) := by
  refine ⟨F.n1, F.n8, fun k m s hm h => ?_, ?_, ?_⟩
  · rw [Bool.or_eq_true] at h ⊢
    exact h.imp (F.up k m s hm) (G.up k m s hm)
  · simp only [F.top, Bool.true_or]
  · simp only [F.bot, G.bot, Bool.or_false]
theorem Fm.and {n : Nat} {f g : Nat → Bool} (F : Fm n f) (G : Fm n g) : Fm n (fun m => f m && g m) := by
  refine ⟨F.n1, F.n8, fun k m s hm h => ?_, ?_, ?_⟩
  · rw [Bool.and_eq_true] at h ⊢
    exact ⟨F.up k m s hm h.1, G.up k m s hm h.2⟩
  · simp only [F.top, G.top, Bool.and_true]
  · simp only [F.bot, Bool.false_and]
/-- each lot of the one meets each of the other -/
def meetB (n : Nat) (f g : Nat → Bool) : Bool := !((List.range (2 ^ n)).any fun m => f m && g (oth n m))
theorem meetB_iff {n : Nat} {f g : Nat → Bool} : meetB n f g = true ↔ ∀ m, m < 2 ^ n → f m = true → g (oth n m) = false := by
  unfold meetB
  rw [Bool.not_eq_true', List.any_eq_false]
  refine ⟨fun h m hm hf => ?_, fun h m hm => ?_⟩
  · have := h m (List.mem_range.mpr hm)
    rw [hf] at this
    simpa using this
  · intro z
    obtain ⟨z1, z2⟩ := Bool.and_eq_true_iff.mp z
    rw [h m (List.mem_range.mp hm) z1] at z2
    cases z2
def sizeF (n : Nat) (f : Nat → Bool) : Nat := ((List.range (2 ^ n)).map f).count true
theorem dd {n m : Nat} {f : Nat → Bool} (h : m < 2 ^ n) : dualB n (dualB n f) m = f m := by
  unfold dualB
  rw [oth_oth h, Bool.not_not]
theorem eqB_of {n : Nat} {f g : Nat → Bool} (h : ∀ m, m < 2 ^ n → f m = g m) : eqB n f g = true := eqB_iff.mpr h
theorem eqB_refl (n : Nat) (f : Nat → Bool) : eqB n f f = true := eqB_of fun _ _ => rfl
theorem eqB_symm (n : Nat) (f g : Nat → Bool) : eqB n f g = eqB n g f := by
  rw [Bool.eq_iff_iff, eqB_iff, eqB_iff]
  exact ⟨fun h m hm => (h m hm).symm, fun h m hm => (h m hm).symm⟩
theorem meet_le (n : Nat) (f g : Nat → Bool) : meetB n f g = leB n f (dualB n g) := by
  rw [Bool.eq_iff_iff, meetB_iff, leB_iff]
  unfold dualB
  exact ⟨fun h m hm hf => by rw [h m hm hf] <;> rfl, fun h m hm hf => by simpa using h m hm hf⟩
theorem le_dual (n : Nat) (f g : Nat → Bool) : leB n (dualB n g) (dualB n f) = leB n f g := by
  rw [Bool.eq_iff_iff, leB_iff, leB_iff]
  unfold dualB
  constructor
  · intro h m hm hf
    cases e : g m with
    | true => rfl
    | false =>
      have := h (oth n m) oth_lt (by rw [oth_oth hm, e] <;> rfl)
      rw [oth_oth hm, hf] at this
      cases this
  · intro h m hm hg
    cases e : f (oth n m) with
    | false => rfl
    | true =>
      rw [h _ oth_lt e] at hg
      cases hg
theorem leB_congr {n : Nat} {f f' g g' : Nat → Bool} (h : ∀ m, m < 2 ^ n → f m = f' m) (k : ∀ m, m < 2 ^ n → g m = g' m) : leB n f g = leB n f' g' := by
  rw [Bool.eq_iff_iff, leB_iff, leB_iff]
  exact ⟨fun z m hm x => by rw [← k m hm]; exact z m hm (by rw [h m hm]; exact x), fun z m hm x => by rw [k m hm]; exact z m hm (by rw [← h m hm]; exact x)⟩
theorem meet_le2 (n : Nat) (f g : Nat → Bool) : meetB n f g = leB n g (dualB n f) := by
  rw [meet_le, ← le_dual, leB_congr (fun m hm => dd hm) fun _ _ => rfl]
theorem meet_comm (n : Nat) (f g : Nat → Bool) : meetB n f g = meetB n g f := by rw [meet_le, meet_le2]
theorem meet_dual (n : Nat) (f : Nat → Bool) : meetB n f (dualB n f) = true := by
  rw [meet_le, leB_iff]
  intro m hm h
  rw [dd hm, h]
theorem sizeF_eq (n : Nat) (f : Nat → Bool) : sizeF n f = (List.range (2 ^ n)).countP f := by
  unfold sizeF
  rw [List.count_eq_countP, List.countP_map]
  congr 1
  funext m
  cases h : f m <;> simp [h]
theorem size_dual (n : Nat) (f : Nat → Bool) : sizeF n f + sizeF n (dualB n f) = 2 ^ n := by
  rw [sizeF_eq, sizeF_eq]
  have e : (List.range (2 ^ n)).countP (dualB n f) = (List.range (2 ^ n)).countP (fun m => !f m) := by
    have h : (List.range (2 ^ n)).map (fun k => 2 ^ n - 1 - k) = (List.range (2 ^ n)).reverse := PySem.W.krv_range (2 ^ n)
    have h2 : ((List.range (2 ^ n)).map (fun k => 2 ^ n - 1 - k)).countP (fun m => !f m) = (List.range (2 ^ n)).countP (dualB n f) := by
      rw [List.countP_map]
      rfl
    rw [← h2, h, List.countP_reverse]
  rw [e]
  have := List.length_eq_countP_add_countP f (l := List.range (2 ^ n))
  rw [List.length_range] at this
  have e2 : (fun a => decide ¬f a = true) = fun m => !f m := funext fun m => by cases f m <;> rfl
  rw [e2] at this
  exact this.symm
theorem meet_mono {n : Nat} {f g : Nat → Bool} (h : meetB n f f = true) (k : leB n g f = true) : meetB n g g = true := by
  rw [meetB_iff] at h ⊢
  rw [leB_iff] at k
  intro m hm hg
  cases e : g (oth n m) with
  | false => rfl
  | true =>
    have z := k _ oth_lt e
    rw [h m hm (k m hm hg)] at z
    cases z
theorem dual_or (n : Nat) (f g : Nat → Bool) : dualB n (fun m => f m || g m) = fun m => dualB n f m && dualB n g m := by
  funext m
  unfold dualB
  rw [Bool.not_or]
theorem dual_and (n : Nat) (f g : Nat → Bool) : dualB n (fun m => f m && g m) = fun m => dualB n f m || dualB n g m := by
  funext m
  unfold dualB
  rw [Bool.not_and]
/-! ### families: the objects -/
def marksV (n : Nat) (f : Nat → Bool) : List V := ((List.range (2 ^ n)).map f).map V.bl
theorem marksV_len (n : Nat) (f : Nat → Bool) : (marksV n f).length = 2 ^ n := by
  unfold marksV
  rw [List.length_map, List.length_map, List.length_range]
theorem marksV_at {n m : Nat} (f : Nat → Bool) (h : m < 2 ^ n) : (marksV n f)[m]? = some (.bl (f m)) := by
  unfold marksV
  rw [List.getElem?_map, List.getElem?_map, List.getElem?_range h] <;> rfl
theorem marksV_get {n m : Nat} {f : Nat → Bool} {x : V} (h : (marksV n f)[m]? = some x) : m < 2 ^ n ∧ x = .bl (f m) := by
  have hm : m < 2 ^ n := by
    rw [← marksV_len n f]
    exact (List.getElem?_eq_some_iff.mp h).1
  rw [marksV_at f hm] at h
  exact ⟨hm, (Option.some.inj h).symm⟩
theorem marksV_congr {n : Nat} {f g : Nat → Bool} (h : ∀ m, m < 2 ^ n → f m = g m) : marksV n f = marksV n g := by
  unfold marksV
  rw [List.map_congr_left fun m hm => h m (List.mem_range.mp hm)]
theorem marksV_fn {n : Nat} {f : Nat → Bool} {ys : List V} (h : ys = (List.range (2 ^ n)).map fun m => V.bl (f m)) : ys = marksV n f := by
  rw [h]
  unfold marksV
  rw [List.map_map]
  rfl
theorem ixN_nat {N m : Nat} (h : m < N) : ixN N (m : Int) = some m := by
  unfold ixN
  rw [if_pos (by omega), if_pos (by omega), Int.toNat_natCast]
theorem marksV_set {n m : Nat} (f : Nat → Bool) (h : m < 2 ^ n) : (marksV n f).set m (.bl true) = marksV n (fun k => if k = m then true else f k) := by
  refine List.ext_getElem? fun i => ?_
  rw [List.getElem?_set]
  by_cases e : m = i
  · subst e
    rw [if_pos rfl, marksV_len, if_pos h, marksV_at _ h, if_pos rfl]
  · rw [if_neg e]
    unfold marksV
    rw [List.getElem?_map, List.getElem?_map, List.getElem?_map, List.getElem?_map]
    cases hi : (List.range (2 ^ n))[i]? with
    | none => rfl
    | some j =>
      have : j = i := by
        have h2 := (List.getElem?_eq_some_iff.mp hi)
        obtain ⟨h3, h4⟩ := h2
        rw [List.getElem_range] at h4
        exact h4.symm
      subst this
      show some (V.bl (f j)) = some (V.bl (if j = m then true else f j))
      rw [if_neg (Ne.symm e)]
theorem and_not (m c : Nat) : Builtin.bitAnd (m : Int) (Builtin.bitNot ((1 : Int) * (2 : Int) ^ ((c : Int)).toNat)) = ((cl m c : Nat) : Int) := by
  rw [PyProof.Rows.bitAnd_not, shl_nat, bitAnd_nat]
  unfold cl
  have : m &&& 1 <<< c ≤ m := Nat.and_le_left
  omega
theorem any_fm {p g : Nat → Bool} : ∀ (l : List Nat), (l.filterMap fun c => if p c = true then some (g c) else none).any id = l.any fun c => p c && g c
  | [] => rfl
  | c :: r => by
    rw [List.filterMap_cons, List.any_cons, ← any_fm r]
    cases p c with
    | true => simp
    | false => simp
/-- what stands but for the instance at a -/
theorem seqT_exc {K : PySem.W.Frag} {H H' : Hp} {a b C dx : Addr} {fs : List (Str × V)} {xs : List V} (ha : H a = some (.ins C dx fs)) (e : Exc a H H') (h : SqT K H b xs) : SqT K H' b xs := by
  rcases h with (h | ⟨o, h⟩) | h
  · exact .inl (.inl (e b _ (fun z => by rw [z, ha] at h; cases h) h))
  · exact .inl (.inr ⟨o, e b _ (fun z => by rw [z, ha] at h; cases h) h⟩)
  · exact .inr h
theorem seqL_exc {K : PySem.W.Frag} {H H' : Hp} {a b C dx : Addr} {fs : List (Str × V)} {xs : List V} (ha : H a = some (.ins C dx fs)) (e : Exc a H H') (h : SqL K H b xs) : SqL K H' b xs := by
  rcases h with (h | ⟨o, h⟩) | h
  · exact .inl (.inl (e b _ (fun z => by rw [z, ha] at h; cases h) h))
  · exact .inl (.inr ⟨o, e b _ (fun z => by rw [z, ha] at h; cases h) h⟩)
  · exact .inr h
theorem Lot.exc {K : PySem.W.Frag} {H H' : Hp} {a C dx m : Nat} {fs : List (Str × V)} {v : V} (ha : H a = some (.ins C dx fs)) (e : Exc a H H') (h : Lot K H m v) : Lot K H' m v := by
  obtain ⟨b, rfl, h⟩ := h
  exact ⟨b, rfl, seqT_exc ha e h⟩
theorem exc_at {a : Addr} {H : Hp} {o : HO} : Exc a H (upd H a o) := fun b u n h => (upd_ne n).trans h
theorem putF_le (x : Str) (v : V) : ∀ fs : List (Str × V), (putF x v fs).length ≤ fs.length + 1
  | [] => by simp [putF]
  | p :: r => by
    unfold putF
    split
    · simp
    · have := putF_le x v r
      simp
      omega
theorem few1 {x : Str} {v : V} : (putF x v []).length < 1000 := Nat.lt_of_le_of_lt (putF_le _ _ _) (by decide)
theorem few2 {x y : Str} {v u : V} : (putF x v (putF y u [])).length < 1000 := by
  have h1 := putF_le x v (putF y u [])
  have h2 := putF_le y u []
  simp at h2
  omega
theorem marksV_rev (n : Nat) (f : Nat → Bool) : (marksV n f).reverse = marksV n fun m => f (oth n m) := by
  refine List.ext_getElem? fun i => ?_
  rcases Nat.lt_or_ge i (2 ^ n) with h | h
  · rw [marksV_at _ h, List.getElem?_reverse (by rw [marksV_len]; exact h), marksV_len]
    have : 2 ^ n - 1 - i < 2 ^ n := by omega
    rw [marksV_at f this]
    rfl
  · rw [List.getElem?_eq_none (by rw [List.length_reverse, marksV_len]; exact h), List.getElem?_eq_none (by rw [marksV_len]; exact h)]
theorem fit_lotsT (l : List Nat) : Fit 2 (.tuple (l.map lotD)) := fit_tup fun d hd => by
  obtain ⟨m, _, rfl⟩ := List.mem_map.mp hd
  exact fit_lot m
theorem eqv_ints : ∀ (xs ys : List Int), PyData.eqvAll (xs.map PyData.int) (ys.map PyData.int) = decide (xs = ys)
  | [], [] => by simp [PyData.eqvAll]
  | [], _ :: _ => by simp [PyData.eqvAll]
  | _ :: _, [] => by simp [PyData.eqvAll]
  | x :: r, y :: t => by
    rw [List.map_cons, List.map_cons, PyData.eqvAll, PyData.eqv, eqv_ints r t]
    by_cases h : x = y
    · subst h
      simp
    · simp [h]
theorem lotL_inj : ∀ m : Nat, m < 256 → maskV (lotV m) = m := fun m h => mask_lotV h
theorem eqv_lot {m k : Nat} (hm : m < 256) (hk : k < 256) : PyData.eqv (lotD m) (lotD k) = decide (m = k) := by
  unfold lotD
  rw [PyData.eqv, eqv_ints]
  by_cases e : m = k
  · subst e
    simp
  · rw [decide_eq_false e, decide_eq_false fun z => e (by rw [← mask_lotV hm, ← mask_lotV hk]; unfold lotV; rw [z])]
theorem eqv_lotsA : ∀ {xs ys : List Nat}, (∀ m ∈ xs, m < 256) → (∀ m ∈ ys, m < 256) → PyData.eqvAll (xs.map lotD) (ys.map lotD) = decide (xs = ys)
  | [], [], _, _ => by simp [PyData.eqvAll]
  | [], _ :: _, _, _ => by simp [PyData.eqvAll]
  | _ :: _, [], _, _ => by simp [PyData.eqvAll]
  | x :: r, y :: t, h1, h2 => by
    rw [List.map_cons, List.map_cons, PyData.eqvAll, eqv_lot (h1 x List.mem_cons_self) (h2 y List.mem_cons_self), eqv_lotsA (fun m hm => h1 m (List.mem_cons_of_mem _ hm)) fun m hm => h2 m (List.mem_cons_of_mem _ hm)]
    by_cases h : x = y
    · subst h
      simp
    · simp [h]
theorem eqv_lots {xs ys : List Nat} (h1 : ∀ m ∈ xs, m < 256) (h2 : ∀ m ∈ ys, m < 256) : PyData.eqv (.tuple (xs.map lotD)) (.tuple (ys.map lotD)) = decide (xs = ys) := by
  rw [PyData.eqv, eqv_lotsA h1 h2]
theorem cut_one (x : V) (r : List V) : cutV (x :: r) (some 1) none = r := by
  unfold cutV HT.sIx
  simp
def famF (n : Nat) (tl tm : Addr) : List (Str × V) := putF "marks" (.ref tm) (putF "lots" (.ref tl) (putF "copies" (.int n) []))
theorem ml0 : ¬ (("marks" : Str) = "lots") := by decide +kernel
theorem mc0 : ¬ (("marks" : Str) = "copies") := by decide +kernel
theorem lc0 : ¬ (("lots" : Str) = "copies") := by decide +kernel
theorem famF_marks (n : Nat) (tl tm : Addr) : (famF n tl tm).lookup ("marks" : Str) = some (.ref tm) := by
  unfold famF
  rw [lookup_putF, if_pos rfl]
theorem famF_lots (n : Nat) (tl tm : Addr) : (famF n tl tm).lookup ("lots" : Str) = some (.ref tl) := by
  unfold famF
  rw [lookup_putF, if_neg (Ne.symm ml0), lookup_putF, if_pos rfl]
theorem famF_copies (n : Nat) (tl tm : Addr) : (famF n tl tm).lookup ("copies" : Str) = some (.int n) := by
  unfold famF
  rw [lookup_putF, if_neg (Ne.symm mc0), lookup_putF, if_neg (Ne.symm lc0), lookup_putF, if_pos rfl]
theorem famF_no (n : Nat) (tl tm : Addr) {x : Str} (h1 : ¬ x = "marks") (h2 : ¬ x = "lots") (h3 : ¬ x = "copies") : (famF n tl tm).lookup x = none := by
  unfold famF
  rw [lookup_putF, if_neg h1, lookup_putF, if_neg h2, lookup_putF, if_neg h3]
  all_goals rfl
/-- v is the family of n copies that f tells -/
structure Fam (K : PySem.W.Frag) (C : Addr) (H : Hp) (v : V) (n : Nat) (f : Nat → Bool) : Prop where
  at_ : ∃ a dx tl tm ls, v = .ref a ∧ H a = some (.ins C dx (famF n tl tm)) ∧ SqT K H tl ls ∧ Paired (fun m y => Lot K H m y) (minL n f) ls ∧ ∃ ob, H tm = some (.frz ob (.tup (marksV n f))) ∧ ob.dict = none
  ok : Fm n f
theorem Fam.sameT {K : PySem.W.Frag} {C : Addr} {H H' : Hp} {v : V} {n : Nat} {f : Nat → Bool} (F : Fam K C H v n f) (e : SameT H H') : Fam K C H' v n f := by
  obtain ⟨⟨a, dx, tl, tm, ls, rfl, h1, h2, h3, ob, h4, h6⟩, h5⟩ := F
  exact ⟨⟨a, dx, tl, tm, ls, rfl, e.ins h1, e.seqT h2, prImp (fun _ _ h => h.sameT e) h3, ob, e _ _ h4 (fun _ z => nomatch z), h6⟩, h5⟩
theorem Fam.same {K : PySem.W.Frag} {C : Addr} {H H' : Hp} {v : V} {n : Nat} {f : Nat → Bool} (F : Fam K C H v n f) (e : Same H H') : Fam K C H' v n f := F.sameT (Same.toT e)
theorem Fam.isC {K : PySem.W.Frag} {C : Addr} {H : Hp} {v : V} {n : Nat} {f : Nat → Bool} (F : Fam K C H v n f) : IsC C H v := by
  obtain ⟨⟨a, dx, tl, tm, ls, rfl, h, _⟩, _⟩ := F
  exact ⟨a, dx, _, rfl, h⟩
theorem Fam.congr {K : PySem.W.Frag} {C : Addr} {H : Hp} {v : V} {n : Nat} {f g : Nat → Bool} (F : Fam K C H v n f) (h : ∀ m, m < 2 ^ n → f m = g m) (G : Fm n g) : Fam K C H v n g := by
  obtain ⟨⟨a, dx, tl, tm, ls, rfl, h1, h2, h3, ob, h4, h6⟩, _⟩ := F
  rw [minL_congr h] at h3
  rw [marksV_congr h] at h4
  exact ⟨⟨a, dx, tl, tm, ls, rfl, h1, h2, h3, ob, h4, h6⟩, G⟩
/-- what is wrong with the lots of a family -/
inductive Bad where
  | ok
  | copy (x : V)
  | empty (i : Nat)
def badFrom (n : Nat) : Nat → List (List V) → Bad
  | _, [] => .ok
  | i, xs :: r => match badOf n xs with
    | some x => .copy x
    | none => if maskV xs = 0 then .empty i else badFrom n (i + 1) r
theorem badFrom_ok {n : Nat} : ∀ {xss : List (List V)} {i : Nat}, badFrom n i xss = .ok → ∀ xs ∈ xss, badOf n xs = none ∧ maskV xs ≠ 0
  | [], _, _, xs, h => by cases h
  | ys :: r, i, e, xs, h => by
    unfold badFrom at e
    cases ho : badOf n ys with
    | some x => rw [ho] at e; cases e
    | none =>
      rw [ho] at e
      simp only at e
      by_cases hz : maskV ys = 0
      · rw [if_pos hz] at e; cases e
      · rw [if_neg hz] at e
        rcases List.mem_cons.mp h with rfl | h
        · exact ⟨ho, hz⟩
        · exact badFrom_ok e xs h
def ErrE (C : Addr) (H : Hp) (E : XK) (i : Nat) : Prop := ∀ d H', H d = none → Same H H' → H' d = some (.xd [("place", .int i)]) → E (.ref C) (some d) H'
theorem ErrE.of {C : Addr} {H H1 : Hp} {E : XK} {i : Nat} (h : ErrE C H E i) (e : Same H H1) : ErrE C H1 E i := fun d H' nd sm hx => h d H' (e.free nd) (e.trans sm) hx
/-- lots as they are handed over -/
def LotArg (K : PySem.W.Frag) (H : Hp) (xs : List V) (v : V) : Prop := ∃ b, v = .ref b ∧ SqA K H b xs ∧ ∀ x ∈ xs, scalV x = true
theorem LotArg.same {K : PySem.W.Frag} {H H' : Hp} {xs : List V} {v : V} (h : LotArg K H xs v) (e : Same H H') : LotArg K H' xs v := by
  obtain ⟨b, rfl, h1, h2⟩ := h
  exact ⟨b, rfl, h1.same e, h2⟩
theorem Lot.arg {K : PySem.W.Frag} {H : Hp} {m : Nat} {v : V} (h : Lot K H m v) : LotArg K H (lotV m) v := by
  obtain ⟨a, rfl, h⟩ := h
  exact ⟨a, rfl, .inr h, fun x hx => scal_lotV hx⟩
theorem badFrom_lots {n : Nat} : ∀ {ms : List Nat} {i : Nat}, (∀ m ∈ ms, m < 2 ^ n ∧ m ≠ 0 ∧ m < 256) → badFrom n i (ms.map lotV) = .ok
  | [], _, _ => rfl
  | m :: r, i, h => by
    obtain ⟨h1, h2, h3⟩ := h m List.mem_cons_self
    rw [List.map_cons]
    unfold badFrom
    rw [badOf_ok fun x hx => lotV_ok h1 hx, mask_lotV h3]
    simp only
    rw [if_neg h2]
    exact badFrom_lots fun x hx => h x (List.mem_cons_of_mem _ hx)
theorem masks_lots {ms : List Nat} (h : ∀ m ∈ ms, m < 256) : (ms.map lotV).map maskV = ms := by
  rw [List.map_map]
  conv => rhs; rw [← List.map_id ms]
  exact List.map_congr_left fun m hm => mask_lotV (h m hm)
/-! ### families: the promises -/
def spMasks (K : PySem.W.Frag) (C CL : Addr) : Sp := fun vs H Q E => ∃ (n : Nat) (p : Addr) (ls : List V) (xss : List (List V)), vs = [.int n, .ref p] ∧ n ≤ 8 ∧ SqT K H p ls ∧ Paired (LotArg K H) xss ls ∧ ls.length ≤ 1000 ∧
  (badFrom n 0 xss = .ok → ∀ q H', Same H H' → H q = none → H' q = some (.lst (xss.map fun xs => .int (maskV xs))) → Q (.ref q) H') ∧
  (∀ x, badFrom n 0 xss = .copy x → Err C H E "copy" x) ∧ (∀ i, badFrom n 0 xss = .empty i → ErrE CL H E i)
def spAbove (K : PySem.W.Frag) : Sp := fun vs H Q _ => ∃ (n : Nat) (p : Addr) (ms : List Nat), vs = [.int n, .ref p] ∧ n ≤ 8 ∧ SqL K H p (ms.map fun (m : Nat) => V.int m) ∧ (∀ m ∈ ms, m < 2 ^ n) ∧
  ∀ q H', Same H H' → H q = none → H' q = some (.lst (marksV n (upB ms))) → Q (.ref q) H'
def spMinimal (K : PySem.W.Frag) : Sp := fun vs H Q _ => ∃ (n : Nat) (p : Addr) (f : Nat → Bool), vs = [.int n, .ref p] ∧ n ≤ 8 ∧ SqL K H p (marksV n f) ∧
  ∀ q ls H', Same H H' → H q = none → H' q = some (.lst ls) → Paired (fun m y => Lot K H' m y) (minL n f) ls → Q (.ref q) H'
def spFam0 (K : PySem.W.Frag) (C CB CL : Addr) : Sp := fun vs H Q E => ∃ (a dx : Addr) (c : V) (p : Addr) (ls : List V) (xss : List (List V)), vs = [.ref a, c, .ref p] ∧ H a = some (.ins C dx []) ∧ Kn K H c ∧ SqT K H p ls ∧ Paired (LotArg K H) xss ls ∧ ls.length ≤ 1000 ∧
  (good c (some 1) (some 8) = false → Err CB H E "copies" c) ∧
  ∀ n : Nat, c = .int n → 1 ≤ n → n ≤ 8 → (xss = [] → Err CB H E "lots" (.int 0)) ∧
    (xss ≠ [] → (∀ x, badFrom n 0 xss = .copy x → Err CB H E "copy" x) ∧ (∀ i, badFrom n 0 xss = .empty i → ErrE CL H E i) ∧
      (badFrom n 0 xss = .ok → ∀ H', (∀ b o, H b = some o → b ≠ a → H' b = some o) → Fam K C H' (.ref a) n (upB (xss.map maskV)) → Q .non H'))
/-- a made family -/
theorem mk_fam {K : PySem.W.Frag} {C CB CL : Addr} {H : Hp} {n : Nat} {rest : List V} {xss : List (List V)} {Q : Addr → Hp → Prop} {E : XK} (n1 : 1 ≤ n) (n8 : n ≤ 8) (hp : Paired (LotArg K H) xss rest) (hl : rest.length ≤ 1000) (hne : xss ≠ []) (hb : badFrom n 0 xss = .ok)
    (h : ∀ a H', Same H H' → Fam K C H' (.ref a) n (upB (xss.map maskV)) → Q a H') :
    ∀ x dx, H x = none → H dx = none → dx ≠ x → spStar 2 (spFam0 K C CB CL) (.ref x :: (.int n :: rest)) (upd (upd H dx (.own x)) x (.ins C dx [])) (fun v H2 => v = .non ∧ Q x H2) E := by
  intro x dx nx nd ne
  have e1000 : (1000 : Nat) ≤ sizeLine := by decide
  refine ⟨[.ref x, .int n], rest, rfl, rfl, by omega, fun p np => ?_⟩
  have s0 : Same H (upd (upd H dx (.own x)) x (.ins C dx [])) := fun b o e => by
    rw [upd_ne (ne_of_none e nx), upd_ne (ne_of_none e nd)]
    exact e
  have sp := s0.trans (same_upd (o := .tup rest) np)
  have hx : upd (upd (upd H dx (.own x)) x (.ins C dx [])) p (.tup rest) x = some (.ins C dx []) := (upd_ne (ne_of_none upd_same np)).trans upd_same
  refine ⟨x, dx, .int n, p, rest, xss, rfl, hx, kn_int _, .inl (.inl upd_same), prImp (fun _ _ z => z.same sp) hp, hl, fun z => absurd (copies_good n1 n8) (by rw [z]; simp), fun n' e _ _ => ?_⟩
  cases (show n = n' from by injection e with e; omega)
  refine ⟨fun z => absurd z hne, fun _ => ⟨fun y z => (by rw [hb] at z; cases z), fun i z => (by rw [hb] at z; cases z), fun _ H' k F => ⟨rfl, h x H' (fun b o e => k b o (sp b o e) (ne_of_none e nx)) F⟩⟩⟩
def spMarked (K : PySem.W.Frag) (C : Addr) : Sp := fun vs H Q _ => ∃ (n : Nat) (p : Addr) (f : Nat → Bool), vs = [.int n, .ref p] ∧ SqL K H p (marksV n f) ∧ Fm n f ∧ ∀ r H', Same H H' → Fam K C H' r n f → Q r H'
def spAlike (K : PySem.W.Frag) (C CU : Addr) : Sp := fun vs H Q E => ∃ (n m : Nat) (v : V) (g : Nat → Bool), vs = [.int n, v] ∧ Fam K C H v m g ∧ (n = m → Q .non H) ∧ (n ≠ m → E (.ref CU) none H)
/-- two families: what is told where both have as many copies -/
def spTwo (K : PySem.W.Frag) (C CU : Addr) (k : Nat → (Nat → Bool) → (Nat → Bool) → Hp → VK → Prop) : Sp := fun vs H Q E => ∃ (x y : V) (n m : Nat) (f g : Nat → Bool), vs = [x, y] ∧ Fam K C H x n f ∧ Fam K C H y m g ∧
  (n = m → k n f g H Q) ∧ (n ≠ m → ∀ H', Same H H' → E (.ref CU) none H')
def tellsB (b : Nat → (Nat → Bool) → (Nat → Bool) → Bool) : Nat → (Nat → Bool) → (Nat → Bool) → Hp → VK → Prop := fun n f g H Q => ∀ H', Same H H' → Q (.bl (b n f g)) H'
def tellsF (K : PySem.W.Frag) (C : Addr) (b : Nat → (Nat → Bool) → (Nat → Bool) → Nat → Bool) : Nat → (Nat → Bool) → (Nat → Bool) → Hp → VK → Prop := fun n f g H Q => ∀ r H', Same H H' → Fam K C H' r n (b n f g) → Q r H'
def spWithin (K : PySem.W.Frag) : Sp := fun vs H Q _ => ∃ (p q : Addr) (n : Nat) (f g : Nat → Bool), vs = [.ref p, .ref q] ∧ ((SqT K H p (marksV n f) ∧ SqT K H q (marksV n g)) ∨ (SqL K H p (marksV n f) ∧ SqL K H q (marksV n g))) ∧ n ≤ 8 ∧ ∀ H', Same H H' → Q (.bl (leB n f g)) H'
def spOne (K : PySem.W.Frag) (C : Addr) (k : Nat → (Nat → Bool) → Hp → VK → Prop) : Sp := fun vs H Q _ => ∃ (x : V) (n : Nat) (f : Nat → Bool), vs = [x] ∧ Fam K C H x n f ∧ k n f H Q
/-- == with whatever isinstance can ask -/
def spEqF (K : PySem.W.Frag) (C : Addr) : Sp := fun vs H Q _ => ∃ (x y : V) (n : Nat) (f : Nat → Bool), vs = [x, y] ∧ Fam K C H x n f ∧
  ((∃ m g, Fam K C H y m g ∧ ∀ H', Same H H' → Q (.bl (decide (n = m) && eqB n f g)) H') ∨ (∃ t, TyX K H y t ∧ PySem.W.kitOne K t (.ref C) = some false ∧ Q (.bl false) H))
def spIn (K : PySem.W.Frag) (C : Addr) : Sp := fun vs H Q _ => ∃ (x y : V) (n : Nat) (f : Nat → Bool) (xs : List V), vs = [x, y] ∧ Fam K C H x n f ∧ LotArg K H xs y ∧ ∀ H', Same H H' → Q (.bl (match badOf n xs with
  | some _ => false
  | none => f (maskV xs))) H'
/-! ### str(x) by an own __str__; a static method read off its class -/
section
variable {X : Cx} {CX : CXT} {k : Nat} {f C : Addr} {fd : FuncData} {ps : List Str} {sp : Sp} {E : XK}
def rStrO (C : Addr) (sp : Sp) (E : XK) : List V → Hp → VK → Prop := fun xs H Q => ∃ x, xs = [x] ∧ IsC C H x ∧ sp [x] H (fun v H' => ∃ y : Str, v = .str y ∧ Q v H') E
theorem call_strO (hs : PySem.W.findIn X.K (.ref C) "__str__" = some (some (.ref f))) (hf : PySem.W.isFn X.K (.ref f) = true) (F : FnOk X.prog X.w X.K X.mg X.base CX k f fd ps sp) (hr : Room (k + 1 + 1) X.A) (hb : Binds X.K fd ps []) (hx : Passes CX X E) :
    CallR X (.type "str") (rStrO C sp E) := by
  intro pins s σ H xs us Q I r h
  obtain ⟨x, rfl, ⟨a, dx, fs, rfl, ha⟩, q⟩ := h
  obtain ⟨u, rfl, ru⟩ := vals1 r
  cases (show u = Value.ref a from ru)
  obtain ⟨oa, J⟩ := inst_of I ha
  refine PySem.W.kso_call (A := X.A) (Room.in1 (Room.in1 hr)).units0 I.kIn J hs hf (wpAny_mono (run_deep (vs := [.ref a]) F (Room.in1 (Room.in1 hr)) I.env0.in1.in1 hb hx I (.cons rfl .nil) q) (fun w s' z => ?_) fun _ _ x => x)
  obtain ⟨z', H', I', rz, y, rfl, qz⟩ := z
  obtain ⟨t, rfl⟩ := (show ∃ t, w = Value.str y t from rz)
  exact ⟨.str y, H', I', ⟨t, rfl⟩, qz⟩
/-- the static method m of C: the def at f -/
structure SMet (K : PySem.W.Frag) (C : Addr) (m : Str) (f : Addr) : Prop where
  rd : PySem.W.readsIn K C (.type "type") = true
  ga : PySem.W.specialIn K (.ref C) "__getattribute__" = some (some (.builtin "type.__getattribute__"))
  at_ : ∃ p rest, PySem.W.findCls K (.ref C) (.type "type") m = some (.get (.builtin "staticmethod.__get__") (.ref p) .none (.ref C)) ∧ PySem.W.recIn K p "staticmethod" = some (.ref f :: rest)
/-- C.m() -/
def tSM0 (C : Addr) (sp : Sp) (E : XK) (ta : TE) : TE := fun σ H Q => ta σ H fun x H1 => x = .ref C ∧ sp [] H1 Q E
theorem pe_smeth0 {o : Expr} {m : Str} {pos apos : Pos} {ta : TE} {pl : Sem Bool} (he : PE X o ta) (M : SMet X.K C m f) (F : FnOk X.prog X.w X.K X.mg X.base CX k f fd ps sp) (kp : PySem.W.keepIn X.K (.ref f) = true) (hr : Room k X.A) (hb : Binds X.K fd ps []) (hx : Passes CX X E)
    (ht : eval (.Call (.Attribute o m apos) [] [] pos) X.env = (do
      let ov ← eval o X.env
      standAt apos.atName
      let (f, first) ← holding [ov] (getMethod ov m pl)
      callWith pos f first (backTo pos (starEach [] X.env)) (backToKw pos (keywordEach [] X.env))) := by rfl) :
    PE X (.Call (.Attribute o m apos) [] [] pos) (tSM0 C sp E ta) := by
  refine ⟨fun pins s σ H Q I h => ?_⟩
  refine PySem.W.methodCall_KW (pl := pl) (thn (he.run pins s σ H _ I h) fun u s1 ⟨x, H1, I1, rx, ex, q⟩ => ?_) ht
  subst ex
  obtain rfl : u = Value.ref C := rx
  obtain ⟨p, rest, e, hp⟩ := M.at_
  refine PySem.W.method_cls I1.kIn M.ga ?_
  refine PySem.W.cls_bind I1.kIn M.rd e (wpAny_call (PySem.W.sm_get (s := { s1 with toks := s1.toks + 1 }) I1.kIn hp (PySem.W.handed_on rfl ?_)))
  have I2 : Inv X pins σ H1 { s1 with toks := s1.toks + 1 } := I1.tok _
  exact PySem.W.callWith_K0 (first := []) I2.kIn kp (run_fn (us := []) (vs := []) F hr hb .nil hx I2 .nil (by simpa using q))
end
/-! ### a try with several except clauses, each with a name or without one -/
/-- one clause: its class, the slot of its name, its suite -/
structure Clause where
  cv : Value
  ix : Option Nat
  ts : Addr → Value → Option Addr → TS
def clEnds (D : Ends) : Option Nat → Ends
  | none => D
  | some i => { nx := fun σ1 H1 => D.nx (σ1.set i none) H1, rt := D.rt, bk := fun σ1 H1 => D.bk (σ1.set i none) H1, ct := fun σ1 H1 => D.ct (σ1.set i none) H1 }
def clSet (σ : L2.St) (p : Addr) : Option Nat → L2.St
  | none => σ
  | some i => σ.set i (some (.ref p))
/-- the wish of the clauses, one after the other -/
def wMix (K : PySem.W.Frag) (Z : WX) (D : Ends) : List Clause → WX
  | [] => Z
  | c :: r => fun k dd σ H => ∃ b, PySem.W.exmOne K k c.cv = some b ∧ (b = true → ∀ p, H p = none → c.ts p k dd (clEnds D c.ix) (clSet σ p c.ix) H) ∧ (b = false → wMix K Z D r k dd σ H)
inductive MixOk (X : Cx) : List ExceptHandler → List Clause → Prop
  | nil : MixOk X [] []
  | un {y : Str} {cv : Value} {TS1 : Addr → Value → Option Addr → TS} {b1 : Stmt} {su : List Stmt} {p1 p2 : Pos} {hs : List ExceptHandler} {l : List Clause} (h6 : Names X y cv)
      (HS : ∀ (p : Addr) (ob : Obj) (k : Value) (dd : Option Addr) (pl : List (Addr × Obj)), Zc k dd ob → (∃ fv, ob.data = .fields fv) → PSs (X.suite p ((p, ob) :: pl)) (b1 :: su) (TS1 p k dd)) (r : MixOk X hs l) :
      MixOk X (.ExceptHandler (some (.Name y p1)) none (b1 :: su) p2 :: hs) (⟨cv, none, TS1⟩ :: l)
  | as {y nm : Str} {cv : Value} {ix : Nat} {TS1 : Addr → Value → Option Addr → TS} {b1 : Stmt} {su : List Stmt} {p1 p2 : Pos} {hs : List ExceptHandler} {l : List Clause} (h4 : X.N[ix]? = some nm) (h5 : X.env.kindOf nm = some .local) (h6 : Names X y cv)
      (HS : ∀ (p : Addr) (ob : Obj) (k : Value) (dd : Option Addr) (pl : List (Addr × Obj)), Zc k dd ob → (∃ fv, ob.data = .fields fv) → PSs (X.suite p ((p, ob) :: pl)) (b1 :: su) (TS1 p k dd)) (r : MixOk X hs l) :
      MixOk X (.ExceptHandler (some (.Name y p1)) (some nm) (b1 :: su) p2 :: hs) (⟨cv, some ix, TS1⟩ :: l)
section
variable {X : Cx} {bd : List Stmt} {e0 : ExceptHandler} {er : List ExceptHandler} {l : List Clause} {p3 : Pos} {TB : WX → TS} {Z : WX}
theorem ps_try_mix (h1 : X.stack = X.env :: X.outer) (h2 : X.env.frame = some X.env.locals) (h3 : X.N.Nodup) (tk : Takes X Z)
    (HB : ∀ (V1 : WX) (pl : List (Addr × Obj)) (z : Value → Shared → Prop), Takes (X.tr pl z) V1 → PassesOwn (model X.prog X.w) X.A X.env z → PSs (X.tr pl z) bd (TB V1))
    (HH : MixOk X (e0 :: er) l) : PS X (.Try bd (e0 :: er) [] [] p3) (fun D σ H => TB (wMix X.K Z D l) D σ H) := by
  constructor
  intro pins s σ H D I h
  have okX := I.ok
  have frames : X.A.frames = some (X.env :: X.outer) := by rw [okX.frames, h1]
  refine wpAny_Try_except ?_
  refine wpAny_mono ((HB (wMix X.K Z D l) (X.pn ++ pins) _ (fun u s' got => ?caught) PassesOwn.looking).run [] s σ H D (I.toTry _) h) (fun f s1 z => ?fine) fun _ _ z => z
  case fine =>
    cases f with
    | next => obtain ⟨σ1, H1, J, q⟩ := z; exact wpAny_execs_nil ⟨σ1, H1, J.ofTry okX, q⟩
    | brk => obtain ⟨σ1, H1, J, q⟩ := z; exact ⟨σ1, H1, J.ofTry okX, q⟩
    | cont => obtain ⟨σ1, H1, J, q⟩ := z; exact ⟨σ1, H1, J.ofTry okX, q⟩
    | ret u => obtain ⟨v, σ1, H1, J, r, q⟩ := z; exact ⟨v, σ1, H1, J.ofTry okX, r, q⟩
  case caught =>
    obtain ⟨p, B, s2, pins2, σ1, H1, k, dd, rfl, J0, old, up0, air, hp, sameOs, bare, wish⟩ := got
    have J := J0.ofTry okX
    have air' : Sky B (X.env :: X.outer) p (Zc k dd) X.env.locals s'.heap := by rw [← h1]; exact air
    show wpAny (model X.prog X.w) X.A (noteFrame (.ref p) X.env) _ _ _
    refine Sky.land Zc.steady frames h2 air' ?_
    intro g1 fly1 up1
    have J1 : Inv X pins σ1 H1 { s' with heap := g1 } := J.landed old fly1.1 (up0.trans up1) sameOs bare
    obtain ⟨ob1, fv1, at1, z1, d1⟩ := fly1.there
    have noFrame : p ∉ frs (X.env :: X.outer) := by
      intro m
      obtain ⟨_, o, e, no⟩ := fly1.2.2.1.mem m
      rw [at1] at e
      cases e
      exact no _ d1
    have noL : p ≠ X.env.locals := by
      intro z
      refine noFrame (List.mem_filterMap.mpr ⟨X.env, List.mem_cons_self, ?_⟩)
      rw [h2, z]
    have noFs : p ∉ X.fs := by
      intro m
      obtain ⟨e, he, q⟩ := List.mem_filterMap.mp m
      exact noFrame (List.mem_filterMap.mpr ⟨e, List.mem_cons_of_mem _ he, q⟩)
    have S1 := J1.suite at1 d1 hp noL noFs
    have typ : PySem.W.Looks (model X.prog X.w) g1 (typeOf (.ref p)) k := fun A Q E s k2 q => wpAny_typeOf_ref (k2 _ _ at1) (by rw [z1.1]; exact q)
    have name1 : ∀ {y : Str} {cv : Value} {p1 : Pos} {Q : Value → Shared → Prop} {E : Value → Shared → Prop}, Names X y cv → Q cv { s' with heap := g1 } → wpAny (model X.prog X.w) (X.A.mark (some (.ref p))) (eval (.Name y p1) X.env) Q E { s' with heap := g1 } := by
      intro y cv p1 Q E h6 q
      obtain ⟨hg, db, hm | ⟨hm, hv, nn⟩⟩ := h6
      · exact ld_glob (X := X.suite p ((p, ob1) :: (X.pn ++ pins))) S1 hg hm q db
      · exact ld_blt (X := X.suite p ((p, ob1) :: (X.pn ++ pins))) S1 hg hm hv q nn db
    have all : ∀ {er' : List ExceptHandler} {l' : List Clause}, MixOk X er' l' → wMix X.K Z D l' k dd σ1 H1 → wpAny (model X.prog X.w) X.A (handleBy (.ref p) X.env er') (SP X pins D) X.xe { s' with heap := g1 } := by
      intro er' l' mk
      induction mk with
      | nil =>
        intro wish
        refine wpAny_handleBy_nil ?_
        obtain ⟨k1, k2, k3, ob, fv, T, oT, t2, he, hz, hd, hx, hr⟩ := id fly1
        unfold PySem.passOn
        refine wpAny_bind (wpAny_field he hd hx ?_)
        rw [if_neg (by simp)]
        have out : wpAny (model X.prog X.w) X.A (setFlight (.ref p) X.env.frame) (fun _ s4 => wpAny (model X.prog X.w) X.A (throw (.ref p) : Sem Flow) (SP X pins D) X.xe s4) X.xe { s' with heap := g1 } := by
          rw [h2]
          refine HandSPX.setFlight_upZ fly1 fun g4 sky4 up4 => wpAny_throw (tk _ _ ?_)
          exact ⟨p, B, s2, pins, σ1, H1, k, dd, rfl, J, old, (up0.trans up1).trans up4, .inr (.inr (by rw [h1]; exact sky4)), hp, sameOs, bare, wish⟩
        first
          | exact wpAny_bind (wpAny_pure (wpAny_bind out))
          | exact wpAny_bind out
      | un h6 HS r ih =>
        intro wish
        obtain ⟨b, m1, yes, no⟩ := wish
        have hit := PySem.W.exm_one (M := model X.prog X.w) J1.kIn typ m1
        refine wpAny_handleBy_cons (codeAny_handlers_test ?_) (by intro q; cases q)
        refine name1 h6 (hit.here ?_)
        cases b with
        | false => exact ih (no rfl)
        | true =>
          refine codeAny_handlers_suite ?_
          refine HandSPX.lands_againZ fly1 ?_
          intro g2 fly2 up2
          have J2 : Inv X pins σ1 H1 { s' with heap := g2 } := J.landed old fly2.1 ((up0.trans up1).trans up2) sameOs bare
          obtain ⟨ob2, fv2, at2, z2, d2⟩ := fly2.there
          have S2 := J2.suite at2 d2 hp noL noFs
          refine wpAny_mono ((HS p ob2 k dd (X.pn ++ pins) z2 ⟨_, d2⟩).run [] _ _ H1 _ S2 (yes rfl p hp)) (fun f s6 z => ?_) fun _ _ z => z.elim
          cases f with
          | next => obtain ⟨σ6, H6, S6, q6⟩ := z; exact ⟨_, _, S6.unsuite okX, q6⟩
          | brk => obtain ⟨σ6, H6, S6, q6⟩ := z; exact ⟨_, _, S6.unsuite okX, q6⟩
          | cont => obtain ⟨σ6, H6, S6, q6⟩ := z; exact ⟨_, _, S6.unsuite okX, q6⟩
          | ret u => obtain ⟨v6, σ6, H6, S6, r6, q6⟩ := z; exact ⟨_, _, _, S6.unsuite okX, r6, q6⟩
      | @as y nm cv ix TS1 b1 su p1 p2 hs l2 h4 h5 h6 HS r ih =>
        intro wish
        obtain ⟨b, m1, yes, no⟩ := wish
        have hit := PySem.W.exm_one (M := model X.prog X.w) J1.kIn typ m1
        refine wpAny_handleBy_cons (codeAny_handlers_test ?_) (by intro q; cases q)
        refine name1 h6 (hit.here ?_)
        cases b with
        | false => exact ih (no rfl)
        | true =>
          refine codeAny_handlers_suite_as ?_
          refine HandSPX.lands_againZ fly1 ?_
          intro g2 fly2 up2
          have J2 : Inv X pins σ1 H1 { s' with heap := g2 } := J.landed old fly2.1 ((up0.trans up1).trans up2) sameOs bare
          obtain ⟨ob2, fv2, at2, z2, d2⟩ := fly2.there
          have S2 := J2.suite at2 d2 hp noL noFs
          refine store_ok (X := X.suite p ((p, ob2) :: (X.pn ++ pins))) (v := .ref p) S2 h3 h4 (.inl h5) rfl (fun s5 S5 => ?_) (.inr h5)
          refine wpAny_mono ((HS p ob2 k dd (X.pn ++ pins) z2 ⟨_, d2⟩).run [] s5 _ H1 _ S5 (yes rfl p hp)) (fun f s6 z => ?_) fun _ _ z => z.elim
          have leave : ∀ {σ6 : L2.St} {H6 : Hp} {R : Shared → Prop}, Inv (X.suite p ((p, ob2) :: (X.pn ++ pins))) [] σ6 H6 s6 → (∀ s7, Inv X pins (σ6.set ix none) H6 s7 → R s7) →
              wpAny (model X.prog X.w) X.A (do bindName X.env nm .none; unbindBehindTheSuite X.env nm p2) (fun _ s7 => R s7) X.xe s6 := fun S6 hq => gone_ok (S6.unsuite okX) h3 h4 h5 hq
          cases f with
          | next => obtain ⟨σ6, H6, S6, q6⟩ := z; exact leave S6 fun s7 J7 => ⟨_, _, J7, q6⟩
          | brk => obtain ⟨σ6, H6, S6, q6⟩ := z; exact leave S6 fun s7 J7 => ⟨_, _, J7, q6⟩
          | cont => obtain ⟨σ6, H6, S6, q6⟩ := z; exact leave S6 fun s7 J7 => ⟨_, _, J7, q6⟩
          | ret u => obtain ⟨v6, σ6, H6, S6, r6, q6⟩ := z; exact leave S6 fun s7 J7 => ⟨_, _, _, J7, r6, q6⟩
    exact all HH wish
end
/-! ### comprehensions whose items are lists: what is told of an item stands while only the new list grows -/
theorem lc_itMN {J : It} {n : Nat} {G : Hp → Prop} {Y : Nat → Hp → V → Hp → Prop} (w : Walk J n G Y) {α : Type} (f : Nat → Option α) (R : α → V → Hp → Prop)
    {g : TG} {tt : TT} {te : TE} {vs : List Nat} {σ : L2.St} {H1 : Hp} {D : Addr} {Qd : Hp → Prop} (st : ∀ a y H H', Exc D H H' → R a y H → R a y H') (nD : H1 D = none) (hG : ∀ H, Same H1 H → G H) (hn : n ≤ 100000)
    (hs : ∀ i x H H' (k : V → Hp → Prop) (N : Hp → Prop), i < n → Same H1 H → (∃ ys, H D = some (.lst ys)) → Y i H x H' → (∀ y H4 a, Same H H4 → f i = some a → R a y H4 → k y H4) → (∀ H3, Same H H3 → f i = none → N H3) →
      g x (wipe σ vs) H' fun σ2 H2 => wipe σ2 vs = wipe σ vs ∧ tt σ2 H2 fun b H3 => if b = true then te σ2 H3 k else N H3)
    (hd : ∀ H' ys, Same H1 H' → H' D = some (.lst ys) → Paired (fun a y => R a y H') ((List.range n).filterMap f) ys → Qd H') :
    ∃ W : Nat → Nat → Hp → Prop, (∃ m, W 0 m (upd H1 D (.lst []))) ∧ ∀ i m H, W i m H →
      (J.stop i H ∧ Qd H) ∨ (J.go i H ∧ ∃ Nx : Hp → Prop, (∀ H', Nx H' → ∃ m', m' < m ∧ W (i + 1) m' H') ∧ ∀ x H', J.yld i H x H' → g x (wipe σ vs) H' fun σ2 H2 => wipe σ2 vs = wipe σ vs ∧ tt σ2 H2 fun b H3 =>
        if b = true then te σ2 H3 fun y H4 => ∃ acc, H4 D = some (.lst acc) ∧ acc.length < sizeLine ∧ Nx (upd H4 D (.lst (acc ++ [y]))) else Nx H3) := by
  have e100 : (100000 : Nat) < sizeLine := by decide
  refine lc_it w (fun i H => i ≤ n ∧ Same H1 H ∧ ∃ ys, H D = some (.lst ys) ∧ ys.length ≤ i ∧ Paired (fun a y => R a y H) ((List.range i).filterMap f) ys)
    ⟨Nat.zero_le _, same_upd nD, [], upd_same, Nat.le_refl _, .nil⟩ (fun i H _ h => hG H h.2.1) ?_ fun H h => by
      obtain ⟨_, sm, ys, hD, _, p⟩ := h
      exact hd H ys sm hD p
  rintro i x H H' hi ⟨_, sm, ys, hD, hl, p⟩ y
  refine hs i x H H' _ _ hi sm ⟨ys, hD⟩ y (fun z H4 a s4 hf hr => ?_) fun H3 s3 hf => ?_
  · have h4 := s4 _ _ hD
    refine ⟨ys, h4, by omega, hi, same_upd2 (sm.trans s4) nD, _, upd_same, by rw [List.length_append, List.length_singleton]; omega, ?_⟩
    rw [List.range_succ, List.filterMap_append]
    have t4 : Exc D H4 (upd H4 D (.lst (ys ++ [z]))) := fun b u n h => (upd_ne n).trans h
    refine prApp (prImp (fun a y' h => st a y' _ _ ((exc_same s4).trans t4) h) p) ?_
    rw [List.filterMap_cons, hf]
    exact .cons (st a z _ _ t4 hr) .nil
  · refine ⟨hi, sm.trans s3, ys, s3 _ _ hD, by omega, ?_⟩
    rw [List.range_succ, List.filterMap_append, List.filterMap_cons, hf]
    rw [← List.append_nil ys]
    exact prApp (prImp (fun a y' h => st a y' _ _ (exc_same s3) h) p) .nil
theorem lc_itN {J : It} {n : Nat} {G : Hp → Prop} {Y : Nat → Hp → V → Hp → Prop} (w : Walk J n G Y) {α : Type} (f : Nat → α) (R : α → V → Hp → Prop)
    {g : TG} {te : TE} {vs : List Nat} {σ : L2.St} {H1 : Hp} {D : Addr} {Qd : Hp → Prop} (st : ∀ a y H H', Exc D H H' → R a y H → R a y H') (nD : H1 D = none) (hG : ∀ H, Same H1 H → G H) (hn : n ≤ 100000)
    (hs : ∀ i x H H' (k : V → Hp → Prop), i < n → Same H1 H → (∃ ys, H D = some (.lst ys)) → Y i H x H' → (∀ y H4, Same H H4 → R (f i) y H4 → k y H4) → g x (wipe σ vs) H' fun σ2 H2 => wipe σ2 vs = wipe σ vs ∧ te σ2 H2 k)
    (hd : ∀ H' ys, Same H1 H' → H' D = some (.lst ys) → Paired (fun a y => R a y H') ((List.range n).map f) ys → Qd H') :
    ∃ W : Nat → Nat → Hp → Prop, (∃ m, W 0 m (upd H1 D (.lst []))) ∧ ∀ i m H, W i m H →
      (J.stop i H ∧ Qd H) ∨ (J.go i H ∧ ∃ Nx : Hp → Prop, (∀ H', Nx H' → ∃ m', m' < m ∧ W (i + 1) m' H') ∧ ∀ x H', J.yld i H x H' → g x (wipe σ vs) H' fun σ2 H2 => wipe σ2 vs = wipe σ vs ∧ tYes σ2 H2 fun b H3 =>
        if b = true then te σ2 H3 fun y H4 => ∃ acc, H4 D = some (.lst acc) ∧ acc.length < sizeLine ∧ Nx (upd H4 D (.lst (acc ++ [y]))) else Nx H3) := by
  refine lc_itMN w (fun i => some (f i)) R st nD hG hn (fun i x H H' k N hi sm hD y hk _ => ?_) fun H' ys sm hD p => hd H' ys sm hD ?_
  · have := hs i x H H' k hi sm hD y fun y H4 s4 hr => hk y H4 _ s4 rfl hr
    exact this
  · rw [← List.filterMap_eq_map]
    exact p
/-! ### == and != of tuples and lists, item by item, whatever the items' answers -/
section
open SeqAt MeetsSeq MeetsSeq2 MeetsSeq3 SeqRoads2
open AutoSeq1 (wpAny_loadPart')
variable {prog : Program} {w : World} {A : Around} {R : Result → Shared → Prop}
theorem tup_eq (p q : Addr) (xs ys : Array Value) (k1 k2 : Nat) (d1 d2 : Option Addr) (z1 z2 : Array (Option Value)) (e : Nat → Bool) (J : Nat → Shared → Prop)
    (step : ∀ i (h1 : i < xs.size) (h2 : i < ys.size) s, J i s → wpAny (model prog w) A.in1 (eqBool xs[i] ys[i]) (fun r s' => r = e i ∧ J (i + 1) s') (fun x s' => R (.error x) s') s)
    (done : ∀ i s, J i s → R (.ok (.ret (.bool ((List.range (min xs.size ys.size)).all e && xs.size == ys.size)))) s) {s : Shared} (g1 : s.heap.get? p = some { cls := .type "tuple", dict := d1, data := .seq xs k1, slots := z1 }) (g2 : s.heap.get? q = some { cls := .type "tuple", dict := d2, data := .seq ys k2, slots := z2 }) (j0 : J 0 s) :
    wpAny (model prog w) A.in1 (Builtin.«tuple.__eq__» ⟨[.ref p, .ref q], []⟩) (GQ.FinOf prog w A R) (fun x s' => R (.error x) s') s := by
  have sub2 := AutoSeq1.sub_tuple_tuple
  have hz : (xs.toList.zip ys.toList).length = min xs.size ys.size := by simp
  have j1 := j0
  obtain ⟨hp, gl, dr, tk, os⟩ := s
  wp_walk using wpAny_loadPart' g1, wpAny_loadPart' g2, wpAny_forIn_list _ (fun rest b s' => b.1 = none ∧ ∃ i, rest = (xs.toList.zip ys.toList).drop i ∧ J i s' ∧ (List.range (min xs.size ys.size)).all e = ((List.range (min xs.size ys.size)).drop i).all e) _
  case turn =>
    rintro ⟨y, x⟩ rest b s' ⟨nb, i, er, j, ea⟩
    have lt : i < (xs.toList.zip ys.toList).length := by
      rcases Nat.lt_or_ge i (xs.toList.zip ys.toList).length with h | h
      · exact h
      · rw [List.drop_of_length_le h] at er
        cases er
    have lm : i < min xs.size ys.size := hz ▸ lt
    have h1 : i < xs.size := Nat.lt_of_lt_of_le lm (Nat.min_le_left _ _)
    have h2 : i < ys.size := Nat.lt_of_lt_of_le lm (Nat.min_le_right _ _)
    rw [List.drop_eq_getElem_cons lt] at er
    injection er with e1 e2
    have hy : y = xs[i] := by have := congrArg Prod.fst e1; simpa using this
    have hx : x = ys[i] := by have := congrArg Prod.snd e1; simpa using this
    subst hy hx
    have ed : (List.range (min xs.size ys.size)).drop i = i :: (List.range (min xs.size ys.size)).drop (i + 1) := by simp [List.drop_eq_getElem_cons, lm]
    rw [ed, List.all_cons] at ea
    refine wpAny_bind (wpAny_mono (step i h1 h2 s' j) (fun r s2 q2 => ?_) fun _ _ z => z)
    obtain ⟨er, j2⟩ := q2
    subst er
    cases ei : e i with
    | true =>
      rw [ei, Bool.true_and] at ea
      wp_walk
      exact ⟨rfl, i + 1, e2, j2, ea⟩
    | false =>
      rw [ei, Bool.false_and] at ea
      have out := done _ s2 j2
      rw [ea] at out
      wp_walk
      simpa using out
  case fin =>
    rintro ⟨b1, b2⟩ s' ⟨nb, i, er, j, ea⟩
    simp only at nb
    subst nb
    have ge : min xs.size ys.size ≤ i := by
      rcases Nat.lt_or_ge i (xs.toList.zip ys.toList).length with h | h
      · rw [List.drop_eq_getElem_cons h] at er
        cases er
      · exact hz ▸ h
    rw [List.drop_of_length_le (by simpa using ge)] at ea
    have out := done _ s' j
    rw [ea] at out
    wp_walk
    simpa [Builtin.Tuple.tupleCompareSizes, bne] using out
  case h =>
    exact ⟨rfl, 0, rfl, j1, rfl⟩
theorem tup_ne (p q : Addr) (xs ys : Array Value) (k1 k2 : Nat) (d1 d2 : Option Addr) (z1 z2 : Array (Option Value)) (e : Nat → Bool) (J : Nat → Shared → Prop)
    (step : ∀ i (h1 : i < xs.size) (h2 : i < ys.size) s, J i s → wpAny (model prog w) A.in1 (eqBool xs[i] ys[i]) (fun r s' => r = e i ∧ J (i + 1) s') (fun x s' => R (.error x) s') s)
    (done : ∀ i s, J i s → R (.ok (.ret (.bool (!((List.range (min xs.size ys.size)).all e && xs.size == ys.size))))) s) {s : Shared} (g1 : s.heap.get? p = some { cls := .type "tuple", dict := d1, data := .seq xs k1, slots := z1 }) (g2 : s.heap.get? q = some { cls := .type "tuple", dict := d2, data := .seq ys k2, slots := z2 }) (j0 : J 0 s) :
    wpAny (model prog w) A.in1 (Builtin.«tuple.__ne__» ⟨[.ref p, .ref q], []⟩) (GQ.FinOf prog w A R) (fun x s' => R (.error x) s') s := by
  have sub2 := AutoSeq1.sub_tuple_tuple
  have hz : (xs.toList.zip ys.toList).length = min xs.size ys.size := by simp
  have j1 := j0
  obtain ⟨hp, gl, dr, tk, os⟩ := s
  wp_walk using wpAny_loadPart' g1, wpAny_loadPart' g2, wpAny_forIn_list _ (fun rest b s' => b.1 = none ∧ ∃ i, rest = (xs.toList.zip ys.toList).drop i ∧ J i s' ∧ (List.range (min xs.size ys.size)).all e = ((List.range (min xs.size ys.size)).drop i).all e) _
  case turn =>
    rintro ⟨y, x⟩ rest b s' ⟨nb, i, er, j, ea⟩
    have lt : i < (xs.toList.zip ys.toList).length := by
      rcases Nat.lt_or_ge i (xs.toList.zip ys.toList).length with h | h
      · exact h
      · rw [List.drop_of_length_le h] at er
        cases er
    have lm : i < min xs.size ys.size := hz ▸ lt
    have h1 : i < xs.size := Nat.lt_of_lt_of_le lm (Nat.min_le_left _ _)
    have h2 : i < ys.size := Nat.lt_of_lt_of_le lm (Nat.min_le_right _ _)
    rw [List.drop_eq_getElem_cons lt] at er
    injection er with e1 e2
    have hy : y = xs[i] := by have := congrArg Prod.fst e1; simpa using this
    have hx : x = ys[i] := by have := congrArg Prod.snd e1; simpa using this
    subst hy hx
    have ed : (List.range (min xs.size ys.size)).drop i = i :: (List.range (min xs.size ys.size)).drop (i + 1) := by simp [List.drop_eq_getElem_cons, lm]
    rw [ed, List.all_cons] at ea
    refine wpAny_bind (wpAny_mono (step i h1 h2 s' j) (fun r s2 q2 => ?_) fun _ _ z => z)
    obtain ⟨er, j2⟩ := q2
    subst er
    cases ei : e i with
    | true =>
      rw [ei, Bool.true_and] at ea
      wp_walk
      exact ⟨rfl, i + 1, e2, j2, ea⟩
    | false =>
      rw [ei, Bool.false_and] at ea
      have out := done _ s2 j2
      rw [ea] at out
      wp_walk
      simpa using out
  case fin =>
    rintro ⟨b1, b2⟩ s' ⟨nb, i, er, j, ea⟩
    simp only at nb
    subst nb
    have ge : min xs.size ys.size ≤ i := by
      rcases Nat.lt_or_ge i (xs.toList.zip ys.toList).length with h | h
      · rw [List.drop_eq_getElem_cons h] at er
        cases er
      · exact hz ▸ h
    rw [List.drop_of_length_le (by simpa using ge)] at ea
    have out := done _ s' j
    rw [ea] at out
    wp_walk
    simpa [Builtin.Tuple.tupleCompareSizes, bne] using out
  case h =>
    exact ⟨rfl, 0, rfl, j1, rfl⟩
/-- at each turn both lists are read: N items each, the i-th two with the answer e i -/
def LstStep (prog : Program) (w : World) (A : Around) (F : Value → Shared → Prop) (p q : Addr) (N : Nat) (e : Nat → Bool) (J : Nat → Shared → Prop) : Prop :=
  ∀ i s, J i s → ∃ (xs ys : Array Value) (k1 k2 : Nat), s.heap.get? p = some { cls := .type "list", data := .seq xs k1 } ∧ s.heap.get? q = some { cls := .type "list", data := .seq ys k2 } ∧ xs.size = N ∧ ys.size = N ∧
    ∀ (h1 : i < xs.size) (h2 : i < ys.size), wpAny (model prog w) A.in1 (eqBool xs[i] ys[i]) (fun r s' => r = e i ∧ J (i + 1) s') F s
theorem lst_eq_loop (p q : Addr) (N : Nat) (e : Nat → Bool) (J : Nat → Shared → Prop) (step : LstStep prog w A (fun x s' => R (.error x) s') p q N e J)
    (done : ∀ i s, J i s → R (.ok (.ret (.bool ((List.range N).all e)))) s) (k : Nat) :
    ∀ i : Nat, N - i = k → i ≤ N → (List.range N).all e = ((List.range N).drop i).all e → ∀ s, J i s → wpAny (model prog w) A.in1 (Builtin.«list.__eq__.loop» ⟨[.ref p, .ref q, rawInt i, rawInt 2], []⟩) (GQ.FinOf prog w A R) (fun x s' => R (.error x) s') s := by
  induction k with
  | zero =>
    intro i hk hi ea s j
    obtain ⟨xs, ys, k1, k2, g1, g2, n1, n2, _⟩ := step _ _ j
    have ei : i = N := by omega
    have out := done _ s j
    rw [ea, List.drop_of_length_le (by simp; omega)] at out
    obtain ⟨hp, gl, dr, tk, os⟩ := s
    wp_walk using wpAny_loadPart' g1, wpAny_loadPart' g2
    have m1 : xs[((i : Nat) : Int).toNat]? = none := by simp; omega
    have m2 : ys[((i : Nat) : Int).toNat]? = none := by simp; omega
    rw [m1, m2]
    wp_walk using wpAny_loadPart' g1, wpAny_loadPart' g2
    show R (.ok (.ret (.bool (xs.size == ys.size)))) _
    rw [n1, n2]
    simpa using out
  | succ k ih =>
    intro i hk hi ea s j
    obtain ⟨xs, ys, k1, k2, g1, g2, n1, n2, turn⟩ := step _ _ j
    have lt1 : i < xs.size := by omega
    have lt2 : i < ys.size := by omega
    have lN : i < N := by omega
    have tn := turn lt1 lt2
    obtain ⟨hp, gl, dr, tk, os⟩ := s
    wp_walk using wpAny_loadPart' g1, wpAny_loadPart' g2
    have m1 : xs[((i : Nat) : Int).toNat]? = some xs[i] := by simp [lt1]
    have m2 : ys[((i : Nat) : Int).toNat]? = some ys[i] := by simp [lt2]
    have hc : ((i : Int) + 1) = ((i + 1 : Nat) : Int) := by omega
    have ed : (List.range N).drop i = i :: (List.range N).drop (i + 1) := by simp [List.drop_eq_getElem_cons, lN]
    rw [ed, List.all_cons] at ea
    rw [m1, m2]
    refine wpAny_bind (wpAny_mono tn (fun r s2 q2 => ?_) fun _ _ z => z)
    obtain ⟨er, j2⟩ := q2
    subst er
    obtain ⟨xs', ys', k1', k2', g1', g2', n1', n2', _⟩ := step _ _ j2
    have lt1' : i < xs'.size := by omega
    have lt2' : i < ys'.size := by omega
    cases ei : e i with
    | true =>
      rw [ei, Bool.true_and] at ea
      have rec1 := ih (i + 1) (by omega) (by omega) ea s2 j2
      obtain ⟨hp2, gl2, dr2, tk2, os2⟩ := s2
      wp_walk
      rw [hc]
      exact ⟨plainId_quiet plain_eq_loop _, codeAny_builtin entry_eq_loop (by
        rw [Around.under_plainId plain_eq_loop _]
        exact rec1)⟩
    | false =>
      rw [ei, Bool.false_and] at ea
      have out := done _ s2 j2
      rw [ea] at out
      obtain ⟨hp2, gl2, dr2, tk2, os2⟩ := s2
      have m1' : xs'[((i : Nat) : Int).toNat]? = some xs'[i] := by simp [lt1']
      have m2' : ys'[((i : Nat) : Int).toNat]? = some ys'[i] := by simp [lt2']
      wp_walk using wpAny_loadPart' g1', wpAny_loadPart' g2'
      rw [m1', m2']
      wp_walk
      simpa using out
theorem lst_eq (p q : Addr) (N : Nat) (e : Nat → Bool) (J : Nat → Shared → Prop) (step : LstStep prog w A (fun x s' => R (.error x) s') p q N e J)
    (done : ∀ i s, J i s → R (.ok (.ret (.bool ((List.range N).all e)))) s) {s : Shared} (j0 : J 0 s) :
    wpAny (model prog w) A.in1 (Builtin.«list.__eq__» ⟨[.ref p, .ref q], []⟩) (GQ.FinOf prog w A R) (fun x s' => R (.error x) s') s := by
  obtain ⟨xs, ys, k1, k2, g1, g2, n1, n2, _⟩ := step _ _ j0
  have rec1 := lst_eq_loop (A := A) (R := R) p q N e J step done _ 0 rfl (Nat.zero_le _) rfl s j0
  obtain ⟨hp, gl, dr, tk, os⟩ := s
  have sub3 := AutoSeq1.sub_list_list
  have same1 : ¬ (xs.size != ys.size) = true := by simp [n1, n2]
  wp_walk using wpAny_loadPart' g1, wpAny_loadPart' g2
  exact ⟨plainId_quiet plain_eq_loop _, codeAny_builtin entry_eq_loop (by
    rw [Around.under_plainId plain_eq_loop _]
    exact rec1)⟩
theorem lst_ne_loop (p q : Addr) (N : Nat) (e : Nat → Bool) (J : Nat → Shared → Prop) (step : LstStep prog w A (fun x s' => R (.error x) s') p q N e J)
    (done : ∀ i s, J i s → R (.ok (.ret (.bool (!(List.range N).all e)))) s) (k : Nat) :
    ∀ i : Nat, N - i = k → i ≤ N → (List.range N).all e = ((List.range N).drop i).all e → ∀ s, J i s → wpAny (model prog w) A.in1 (Builtin.«list.__eq__.loop» ⟨[.ref p, .ref q, rawInt i, rawInt 3], []⟩) (GQ.FinOf prog w A R) (fun x s' => R (.error x) s') s := by
  induction k with
  | zero =>
    intro i hk hi ea s j
    obtain ⟨xs, ys, k1, k2, g1, g2, n1, n2, _⟩ := step _ _ j
    have ei : i = N := by omega
    have out := done _ s j
    rw [ea, List.drop_of_length_le (by simp; omega)] at out
    obtain ⟨hp, gl, dr, tk, os⟩ := s
    wp_walk using wpAny_loadPart' g1, wpAny_loadPart' g2
    have m1 : xs[((i : Nat) : Int).toNat]? = none := by simp; omega
    have m2 : ys[((i : Nat) : Int).toNat]? = none := by simp; omega
    rw [m1, m2]
    wp_walk using wpAny_loadPart' g1, wpAny_loadPart' g2
    show R (.ok (.ret (.bool (xs.size != ys.size)))) _
    rw [n1, n2]
    simpa using out
  | succ k ih =>
    intro i hk hi ea s j
    obtain ⟨xs, ys, k1, k2, g1, g2, n1, n2, turn⟩ := step _ _ j
    have lt1 : i < xs.size := by omega
    have lt2 : i < ys.size := by omega
    have lN : i < N := by omega
    have tn := turn lt1 lt2
    obtain ⟨hp, gl, dr, tk, os⟩ := s
    wp_walk using wpAny_loadPart' g1, wpAny_loadPart' g2
    have m1 : xs[((i : Nat) : Int).toNat]? = some xs[i] := by simp [lt1]
    have m2 : ys[((i : Nat) : Int).toNat]? = some ys[i] := by simp [lt2]
    have hc : ((i : Int) + 1) = ((i + 1 : Nat) : Int) := by omega
    have ed : (List.range N).drop i = i :: (List.range N).drop (i + 1) := by simp [List.drop_eq_getElem_cons, lN]
    rw [ed, List.all_cons] at ea
    rw [m1, m2]
    refine wpAny_bind (wpAny_mono tn (fun r s2 q2 => ?_) fun _ _ z => z)
    obtain ⟨er, j2⟩ := q2
    subst er
    obtain ⟨xs', ys', k1', k2', g1', g2', n1', n2', _⟩ := step _ _ j2
    have lt1' : i < xs'.size := by omega
    have lt2' : i < ys'.size := by omega
    cases ei : e i with
    | true =>
      rw [ei, Bool.true_and] at ea
      have rec1 := ih (i + 1) (by omega) (by omega) ea s2 j2
      obtain ⟨hp2, gl2, dr2, tk2, os2⟩ := s2
      wp_walk
      rw [hc]
      exact ⟨plainId_quiet plain_eq_loop _, codeAny_builtin entry_eq_loop (by
        rw [Around.under_plainId plain_eq_loop _]
        exact rec1)⟩
    | false =>
      rw [ei, Bool.false_and] at ea
      have out := done _ s2 j2
      rw [ea] at out
      obtain ⟨hp2, gl2, dr2, tk2, os2⟩ := s2
      have m1' : xs'[((i : Nat) : Int).toNat]? = some xs'[i] := by simp [lt1']
      have m2' : ys'[((i : Nat) : Int).toNat]? = some ys'[i] := by simp [lt2']
      wp_walk using wpAny_loadPart' g1', wpAny_loadPart' g2'
      rw [m1', m2']
      wp_walk
      simpa using out
theorem lst_ne (p q : Addr) (N : Nat) (e : Nat → Bool) (J : Nat → Shared → Prop) (step : LstStep prog w A (fun x s' => R (.error x) s') p q N e J)
    (done : ∀ i s, J i s → R (.ok (.ret (.bool (!(List.range N).all e)))) s) {s : Shared} (j0 : J 0 s) :
    wpAny (model prog w) A.in1 (Builtin.«list.__ne__» ⟨[.ref p, .ref q], []⟩) (GQ.FinOf prog w A R) (fun x s' => R (.error x) s') s := by
  obtain ⟨xs, ys, k1, k2, g1, g2, n1, n2, _⟩ := step _ _ j0
  have rec1 := lst_ne_loop (A := A) (R := R) p q N e J step done _ 0 rfl (Nat.zero_le _) rfl s j0
  obtain ⟨hp, gl, dr, tk, os⟩ := s
  have sub3 := AutoSeq1.sub_list_list
  have same1 : ¬ (xs.size != ys.size) = true := by simp [n1, n2]
  wp_walk using wpAny_loadPart' g1, wpAny_loadPart' g2
  exact ⟨plainId_quiet plain_eq_loop _, codeAny_builtin entry_eq_loop (by
    rw [Around.under_plainId plain_eq_loop _]
    exact rec1)⟩
end
/-- answers of ==, by the abstract heap -/
abbrev Ans := V → V → Bool → Hp → Prop
def MonB (D : Ans) : Prop := ∀ x y b H H', Same H H' → D x y b H → D x y b H'
/-- what is one thing is equal to itself -/
def FunT (K : PySem.W.Frag) (H : Hp) : Prop := ∀ a xs ys, SqT K H a xs → SqT K H a ys → xs = ys
def RefB (K : PySem.W.Frag) (D : Ans) : Prop := ∀ x b H, FunT K H → D x x b H → b = true
/-- == within a list or a tuple answers as D says, and makes objects alone -/
def EqB (X : Cx) (n : Nat) (D : Ans) : Prop := ∀ (A : Around) (pins : List (Addr × Obj)) (s : Shared) (σ : L2.St) (H : Hp) (x y : V) (b : Bool) (u v : Value), L2.Sub X n A → Inv X pins σ H s → RelV x u → RelV y v → D x y b H →
  wpAny (model X.prog X.w) A (eqBool u v) (fun r s' => r = b ∧ ∃ H', Inv X pins σ H' s' ∧ Same H H') X.xe s
/-- a comparison by its sign -/
def RcB (X : Cx) (n : Nat) (op : CmpOp) (g : Bool → Bool) (D : Ans) : Prop := ∀ (A : Around) (pins : List (Addr × Obj)) (s : Shared) (σ : L2.St) (H : Hp) (x y : V) (b : Bool) (u v : Value), L2.Sub X n A → Inv X pins σ H s → RelV x u → RelV y v → D x y b H →
  wpAny (model X.prog X.w) A (richCompare op u v) (fun r s' => r = .bool (g b) ∧ ∃ H', Inv X pins σ H' s' ∧ Same H H') X.xe s
section
variable {X : Cx} {n m : Nat} {D D' : Ans}
theorem EqB.mono (h : EqB X n D) (l : n ≤ m) : EqB X m D := fun A pins s σ H x y b u v sb => h A pins s σ H x y b u v (sb.mono l)
theorem EqB.or (h : EqB X n D) (h' : EqB X n D') : EqB X n (fun x y b H => D x y b H ∨ D' x y b H) := fun A pins s σ H x y b u v sb I rx ry d =>
  d.elim (h A pins s σ H x y b u v sb I rx ry) (h' A pins s σ H x y b u v sb I rx ry)
theorem MonB.or (h : MonB D) (h' : MonB D') : MonB (fun x y b H => D x y b H ∨ D' x y b H) := fun x y b H H' e d => d.elim (fun d => .inl (h x y b H H' e d)) fun d => .inr (h' x y b H H' e d)
theorem RefB.or {K : PySem.W.Frag} (h : RefB K D) (h' : RefB K D') : RefB K (fun x y b H => D x y b H ∨ D' x y b H) := fun x b H f d => d.elim (h x b H f) (h' x b H f)
/-- flat values; the same object -/
def DFl : Ans := fun x y b _ => (scalV x = true ∧ scalV y = true ∧ b = eqV x y) ∨ (∃ a, x = .ref a ∧ y = .ref a ∧ b = true)
theorem mon_fl : MonB DFl := fun _ _ _ _ _ _ d => d
theorem ref_fl {K : PySem.W.Frag} : RefB K DFl := fun x b H _ d => by
  rcases d with ⟨f, _, e⟩ | ⟨a, _, _, e⟩
  · rw [e]
    cases x <;> first | (cases f; done) | simp [eqV]
  · exact e
theorem eqB_fl : EqB X 0 DFl := by
  intro A pins s σ H x y b u v sb I rx ry d
  rcases d with ⟨f1, f2, rfl⟩ | ⟨a, rfl, rfl, rfl⟩
  · have z := eqAt_V (A := A) (s := s) rx ry (flat_scal f1) (flat_scal f2)
    exact z X.prog X.w X.xe _ ⟨rfl, H, I, Same.refl _⟩
  · cases rx
    cases ry
    exact SeqAt.EqAt.same (A := A) (s := s) (.ref a) X.prog X.w X.xe _ ⟨rfl, H, I, Same.refl _⟩
/-- pair by pair -/
def PrsB (D : Ans) (xs ys : List V) (e : Nat → Bool) (H : Hp) : Prop := ∀ (i : Nat) x y, xs[i]? = some x → ys[i]? = some y → D x y (e i) H
def allB (xs ys : List V) (e : Nat → Bool) : Bool := (List.range (min xs.length ys.length)).all e && xs.length == ys.length
def DTupB (K : PySem.W.Frag) (D : Ans) : Ans := fun x y b H => ∃ p q xs ys e, x = .ref p ∧ y = .ref q ∧ SqT K H p xs ∧ SqT K H q ys ∧ PrsB D xs ys e H ∧ b = allB xs ys e
def DLstB (D : Ans) : Ans := fun x y b H => ∃ p q xs ys e, x = .ref p ∧ y = .ref q ∧ H p = some (.lst xs) ∧ H q = some (.lst ys) ∧ xs.length = ys.length ∧ PrsB D xs ys e H ∧ b = allB xs ys e
theorem PrsB.mon (hD : MonB D) {xs ys : List V} {e : Nat → Bool} {H H' : Hp} (s : Same H H') (p : PrsB D xs ys e H) : PrsB D xs ys e H' := fun i x y h1 h2 => hD x y _ H H' s (p i x y h1 h2)
theorem mon_tupB {K : PySem.W.Frag} (hD : MonB D) : MonB (DTupB K D) := fun x y b H H' s d => by
  obtain ⟨p, q, xs, ys, e, h1, h2, h3, h4, h5, h6⟩ := d
  exact ⟨p, q, xs, ys, e, h1, h2, Same.seqT s h3, Same.seqT s h4, h5.mon hD s, h6⟩
theorem mon_lstB (hD : MonB D) : MonB (DLstB D) := fun x y b H H' s d => by
  obtain ⟨p, q, xs, ys, e, h1, h2, h3, h4, h5, h6, h7⟩ := d
  exact ⟨p, q, xs, ys, e, h1, h2, s _ _ h3, s _ _ h4, h5, h6.mon hD s, h7⟩
theorem allB_self {K : PySem.W.Frag} {H : Hp} {xs : List V} {e : Nat → Bool} (hR : RefB K D) (f : FunT K H) (p : PrsB D xs xs e H) : allB xs xs e = true := by
  unfold allB
  rw [Nat.min_self, Bool.and_eq_true]
  refine ⟨List.all_eq_true.mpr fun i hi => ?_, by simp⟩
  have hi := List.mem_range.mp hi
  exact hR _ _ _ f (p i xs[i] xs[i] (List.getElem?_eq_getElem hi) (List.getElem?_eq_getElem hi))
theorem ref_tupB {K : PySem.W.Frag} (hR : RefB K D) : RefB K (DTupB K D) := fun x b H f d => by
  obtain ⟨p, q, xs, ys, e, h1, h2, h3, h4, h5, h6⟩ := d
  rw [h1] at h2
  cases h2
  cases f p xs ys h3 h4
  rw [h6]
  exact allB_self hR f h5
theorem ref_lstB {K : PySem.W.Frag} (hR : RefB K D) : RefB K (DLstB D) := fun x b H f d => by
  obtain ⟨p, q, xs, ys, e, h1, h2, h3, h4, _, h5, h6⟩ := d
  rw [h1] at h2
  cases h2
  rw [h3] at h4
  cases h4
  rw [h6]
  exact allB_self hR f h5
/-- what the walk keeps -/
def WalkB (X : Cx) (pins : List (Addr × Obj)) (σ : L2.St) (H : Hp) (s : Shared) : Prop := ∃ H', Inv X pins σ H' s ∧ Same H H'
theorem stepB (hD : MonB D) (h : EqB X n D) {A : Around} (sb : L2.Sub X (n + 1) A) {pins : List (Addr × Obj)} {σ : L2.St} {H : Hp} {xs ys : List V} {e : Nat → Bool} {us vs : List Value} (p : PrsB D xs ys e H) (r : Vals xs us) (r2 : Vals ys vs)
    (i : Nat) (h1 : i < us.toArray.size) (h2 : i < vs.toArray.size) (s : Shared) (l : WalkB X pins σ H s) :
    wpAny (model X.prog X.w) A.in1 (eqBool us.toArray[i] vs.toArray[i]) (fun z s2 => z = e i ∧ WalkB X pins σ H s2) X.xe s := by
  obtain ⟨H1, I1, e1⟩ := l
  have g1 : us[i]? = some us.toArray[i] := by
    have z : i < us.length := by simpa using h1
    rw [List.getElem?_eq_getElem z] <;> simp
  have g2 : vs[i]? = some vs.toArray[i] := by
    have z : i < vs.length := by simpa using h2
    rw [List.getElem?_eq_getElem z] <;> simp
  have k1 : i < xs.length := by rw [r.length]; simpa using h1
  have k2 : i < ys.length := by rw [r2.length]; simpa using h2
  obtain ⟨u, hu, ru⟩ := r.get (List.getElem?_eq_getElem k1)
  obtain ⟨v, hv, rv⟩ := r2.get (List.getElem?_eq_getElem k2)
  cases g1.symm.trans hu
  cases g2.symm.trans hv
  refine wpAny_mono (h A.in1 pins s σ H1 _ _ _ _ _ sb.in1 I1 ru rv (hD _ _ _ _ _ e1 (p i _ _ (List.getElem?_eq_getElem k1) (List.getElem?_eq_getElem k2)))) (fun z s2 w => ?_) fun _ _ x => x
  obtain ⟨ez, H2, I2, e2⟩ := w
  exact ⟨ez, H2, I2, e1.trans e2⟩
theorem size_eqB {xs ys : List V} {us vs : List Value} (r : Vals xs us) (r2 : Vals ys vs) (e : Nat → Bool) : ((List.range (min us.toArray.size vs.toArray.size)).all e && us.toArray.size == vs.toArray.size) = allB xs ys e := by
  unfold allB
  rw [List.size_toArray, List.size_toArray, ← r.length, ← r2.length]
theorem rcB_tup (hD : MonB D) (h : EqB X n D) : RcB X (n + 1) .Eq id (DTupB X.K D) := by
  intro A pins s σ H x y b u v sb I rx ry d
  obtain ⟨p, q, xs, ys, e, rfl, rfl, hp, hq, pe, rfl⟩ := d
  cases rx
  cases ry
  obtain ⟨us, r, ⟨⟨cls, d1, data, z1⟩, ho, hc, k1, hd⟩, _⟩ := I.tuple hp
  obtain ⟨vs, r2, ⟨⟨cls2, d2, data2, z2⟩, ho2, hc2, k2, hd2⟩, _⟩ := I.tuple hq
  simp only at hc hd hc2 hd2
  subst hc hd hc2 hd2
  refine wpAny_richCompare_same_room (op := .Eq) ⟨_, ho, rfl⟩ ⟨_, ho2, rfl⟩ PySem.F.slot_tuple_eq (GQ.call_here PySem.F.slot_tuple_eq ⟨_, ho, rfl⟩ PySem.F.entry_tuple_eq (PySem.F.args_tuple_eq_2 _ _) ?_) sb.room.units0
  refine tup_eq (R := PySem.wants (fun v s' => v ≠ .notImplemented ∧ (v = .bool (allB xs ys e) ∧ WalkB X pins σ H s')) X.xe) p q us.toArray vs.toArray k1 k2 d1 d2 z1 z2 e (fun _ s' => WalkB X pins σ H s') (fun i h1 h2 s' l => stepB hD h sb pe r r2 i h1 h2 s' l) (fun i s' l => ?_) ho ho2 ⟨H, I, Same.refl _⟩
  exact ⟨(fun z => nomatch z), congrArg Value.bool (size_eqB r r2 e), l⟩
theorem rcB_tupN (hD : MonB D) (h : EqB X n D) : RcB X (n + 1) .NotEq not (DTupB X.K D) := by
  intro A pins s σ H x y b u v sb I rx ry d
  obtain ⟨p, q, xs, ys, e, rfl, rfl, hp, hq, pe, rfl⟩ := d
  cases rx
  cases ry
  obtain ⟨us, r, ⟨⟨cls, d1, data, z1⟩, ho, hc, k1, hd⟩, _⟩ := I.tuple hp
  obtain ⟨vs, r2, ⟨⟨cls2, d2, data2, z2⟩, ho2, hc2, k2, hd2⟩, _⟩ := I.tuple hq
  simp only at hc hd hc2 hd2
  subst hc hd hc2 hd2
  refine wpAny_richCompare_same_room (op := .NotEq) ⟨_, ho, rfl⟩ ⟨_, ho2, rfl⟩ PySem.F.slot_tuple_ne (GQ.call_here PySem.F.slot_tuple_ne ⟨_, ho, rfl⟩ PySem.F.entry_tuple_ne (PySem.F.args_tuple_ne_2 _ _) ?_) sb.room.units0
  refine tup_ne (R := PySem.wants (fun v s' => v ≠ .notImplemented ∧ (v = .bool (!allB xs ys e) ∧ WalkB X pins σ H s')) X.xe) p q us.toArray vs.toArray k1 k2 d1 d2 z1 z2 e (fun _ s' => WalkB X pins σ H s') (fun i h1 h2 s' l => stepB hD h sb pe r r2 i h1 h2 s' l) (fun i s' l => ?_) ho ho2 ⟨H, I, Same.refl _⟩
  exact ⟨(fun z => nomatch z), congrArg (fun z => Value.bool (!z)) (size_eqB r r2 e), l⟩
theorem lstStep {A : Around} (hD : MonB D) (h : EqB X n D) (sb : L2.Sub X (n + 1) A) {pins : List (Addr × Obj)} {σ : L2.St} {H : Hp} {p q : Addr} {xs ys : List V} {e : Nat → Bool} (hp : H p = some (.lst xs)) (hq : H q = some (.lst ys)) (el : xs.length = ys.length) (pe : PrsB D xs ys e H) :
    LstStep X.prog X.w A X.xe p q xs.length e (fun _ s' => WalkB X pins σ H s') := by
  intro i s l
  obtain ⟨H1, I1, e1⟩ := id l
  obtain ⟨_, us, k1, r, a1⟩ := I1.hok p _ (e1 _ _ hp)
  obtain ⟨_, vs, k2, r2, a2⟩ := I1.hok q _ (e1 _ _ hq)
  refine ⟨us.toArray, vs.toArray, k1, k2, a1, a2, by rw [List.size_toArray, ← r.length], by rw [List.size_toArray, ← r2.length, el], fun h1 h2 => ?_⟩
  exact stepB hD h sb pe r r2 i h1 h2 s l
theorem allB_len {xs ys : List V} {e : Nat → Bool} (el : xs.length = ys.length) : allB xs ys e = (List.range xs.length).all e := by
  unfold allB
  rw [← el, Nat.min_self]
  simp
theorem rcB_lst (hD : MonB D) (h : EqB X n D) : RcB X (n + 1) .Eq id (DLstB D) := by
  intro A pins s σ H x y b u v sb I rx ry d
  obtain ⟨p, q, xs, ys, e, rfl, rfl, hp, hq, el, pe, rfl⟩ := d
  cases rx
  cases ry
  obtain ⟨_, us, k1, r, a1⟩ := I.hok p _ hp
  obtain ⟨_, vs, k2, r2, a2⟩ := I.hok q _ hq
  refine wpAny_richCompare_same_room (op := .Eq) ⟨_, a1, rfl⟩ ⟨_, a2, rfl⟩ PySem.F.slot_list_eq (GQ.call_here PySem.F.slot_list_eq ⟨_, a1, rfl⟩ PySem.F.entry_list_eq (PySem.F.args_list_eq_2 _ _) ?_) sb.room.units0
  refine lst_eq (R := PySem.wants (fun v s' => v ≠ .notImplemented ∧ (v = .bool (allB xs ys e) ∧ WalkB X pins σ H s')) X.xe) p q xs.length e (fun _ s' => WalkB X pins σ H s') (lstStep hD h sb hp hq el pe) (fun i s' l => ?_) ⟨H, I, Same.refl _⟩
  exact ⟨(fun z => nomatch z), congrArg Value.bool (allB_len el).symm, l⟩
theorem rcB_lstN (hD : MonB D) (h : EqB X n D) : RcB X (n + 1) .NotEq not (DLstB D) := by
  intro A pins s σ H x y b u v sb I rx ry d
  obtain ⟨p, q, xs, ys, e, rfl, rfl, hp, hq, el, pe, rfl⟩ := d
  cases rx
  cases ry
  obtain ⟨_, us, k1, r, a1⟩ := I.hok p _ hp
  obtain ⟨_, vs, k2, r2, a2⟩ := I.hok q _ hq
  refine wpAny_richCompare_same_room (op := .NotEq) ⟨_, a1, rfl⟩ ⟨_, a2, rfl⟩ PySem.F.slot_list_ne (GQ.call_here PySem.F.slot_list_ne ⟨_, a1, rfl⟩ PySem.F.entry_list_ne (PySem.F.args_list_ne_2 _ _) ?_) sb.room.units0
  refine lst_ne (R := PySem.wants (fun v s' => v ≠ .notImplemented ∧ (v = .bool (!allB xs ys e) ∧ WalkB X pins σ H s')) X.xe) p q xs.length e (fun _ s' => WalkB X pins σ H s') (lstStep hD h sb hp hq el pe) (fun i s' l => ?_) ⟨H, I, Same.refl _⟩
  exact ⟨(fun z => nomatch z), congrArg (fun z => Value.bool (!z)) (allB_len el).symm, l⟩
/-- what == of two things says within a list -/
theorem RcB.eqB (h : RcB X n .Eq id D) (hr : ∀ x y b H, D x y b H → ∃ a c, x = .ref a ∧ y = .ref c) (hR : RefB X.K D) : EqB X n D := by
  intro A pins s σ H x y b u v sb I rx ry d
  obtain ⟨a, c, rfl, rfl⟩ := hr _ _ _ _ d
  cases rx
  cases ry
  by_cases e : a = c
  · subst e
    have eb := hR _ _ _ (fun p xs ys h1 h2 => I.tuple_inj h1 h2) d
    subst eb
    exact SeqAt.EqAt.same (A := A) (s := s) (.ref a) X.prog X.w X.xe _ ⟨rfl, H, I, Same.refl _⟩
  · refine GQ.eqBool_refG e (wpAny_mono (h A pins s σ H (.ref a) (.ref c) b _ _ sb I rfl rfl d) (fun r s' z => ?_) fun _ _ z => z)
    obtain ⟨er, z⟩ := z
    exact ⟨b, er, rfl, z⟩
/-- instances by their own == -/
theorem rcB_own {CX : CXT} {C f : Addr} {fd : FuncData} {ps : List Str} {sp : Sp} {E : XK} (F : FnOk X.prog X.w X.K X.mg X.base CX n f fd ps sp)
    (hs : PySem.W.findIn X.K (.ref C) "__eq__" = some (some (.ref f))) (hf : PySem.W.isFn X.K (.ref f) = true) (hb : Binds X.K fd ps []) (hx : Passes CX X E)
    (hD : ∀ x y b H, D x y b H → IsC C H x ∧ IsC C H y ∧ sp [x, y] H (fun z H' => z = .bl b ∧ Same H H') E) : RcB X n .Eq id D := by
  intro A pins s σ H x y b u v sb I rx ry d
  obtain ⟨⟨a, dx, fs, rfl, ha⟩, ⟨c, dy, gs, rfl, hc⟩, hsp⟩ := hD x y b H d
  cases rx
  cases ry
  obtain ⟨m1, J1, _⟩ := ins_get I.hok ha
  obtain ⟨m2, J2, _⟩ := ins_get I.hok hc
  obtain ⟨o1, J1, _⟩ := J1.look
  obtain ⟨o2, J2, _⟩ := J2.look
  obtain ⟨mf, hF⟩ := I.fr
  refine PySem.W.cmp_K (op := .Eq) (tb := .ref C) sb.room.units0 hF I.ok.mod.kin J1 J2.type (by simp [PySem.W.notFirst]) hs hf ?_
  have env1 : Env0 X.prog X.w X.K X.mg X.base A X.stack s H := by
    have z := I.env0
    exact ⟨by rw [sb.fr]; exact z.frames, z.mod, z.bs, z.bsz, z.funs, z.frf, z.hok, z.bare⟩
  have len1 := F.len _ _ _ _ hsp
  have rel1 : Vals [V.ref a, V.ref c] [Value.ref a, Value.ref c] := .cons rfl (.cons rfl .nil)
  have bnd1 := hb s [.ref a, .ref c] I.kIn (by simpa using len1)
  refine wpAny_call (codeAny_mono (F.run A X.stack s H ⟨[.ref a, .ref c], []⟩ [.ref a, .ref c] [.ref a, .ref c] _ E sb.room env1 (by simpa using bnd1) rel1 hsp) fun r s' got => ?_)
  cases r with
  | error e => exact hx pins σ H s e s' I got
  | ok fl =>
    cases fl with
    | ret w =>
      obtain ⟨z, H', I', rz, ez, ex⟩ := I.after got
      subst ez
      cases rz
      exact ⟨rfl, H', I', ex⟩
    | next => exact False.elim got
    | brk => exact False.elim got
    | cont => exact False.elim got
/-- as expressions -/
def rCmpB (D : Ans) (g : Bool → Bool) : R2 := fun x y H Q => ∃ b, D x y b H ∧ ∀ H', Same H H' → Q (.bl (g b)) H'
theorem op_cmpB {op : CmpOp} {g : Bool → Bool} (hop : ∀ a b, compareOp op a b = richCompare op a b) (h : RcB X n op g D) (hr : Room n X.A) : OpR X (compareOp op) (rCmpB D g) := by
  intro pins s σ H x y v u Q I rx ry hq
  obtain ⟨b, d, q⟩ := hq
  rw [hop]
  refine wpAny_mono (h X.A pins s σ H x y b v u ⟨hr, rfl⟩ I rx ry d) (fun r s' z => ?_) fun _ _ x => x
  obtain ⟨er, H', I', e⟩ := z
  subst er
  exact ⟨.bl (g b), H', I', rfl, q H' e⟩
end
/-! ### own classes: len(x), x[i], for .. in x by the own methods -/
theorem fun_fnIn {K : PySem.W.Frag} {x qual : Str} {st : Stmt} {f : Addr} {fd : FuncData} (F : Fun K x qual st f fd) : PySem.W.fnIn K f = true := by
  obtain ⟨oc, od, kV, doc, pm, an, cdv, ct, osl, rfl, lk, hcd⟩ := F.ex
  unfold PySem.W.fnIn
  rw [lk]
section
variable {X : Cx} {CX : CXT} {k : Nat} {f C : Addr} {fd : FuncData} {ps : List Str} {sp : Sp} {E : XK}
/-- len(x) by the own __len__ -/
def rLenO (C : Addr) (sp : Sp) (E : XK) : List V → Hp → VK → Prop := fun xs H Q => ∃ x, xs = [x] ∧ IsC C H x ∧ sp [x] H (fun v H' => ∃ n : Nat, v = .int n ∧ n < 2 ^ 62 ∧ Q (.int n) H') E
theorem call_lenO (hs : PySem.W.findIn X.K (.ref C) "__len__" = some (some (.ref f))) (hf : PySem.W.isFn X.K (.ref f) = true) (F : FnOk X.prog X.w X.K X.mg X.base CX k f fd ps sp) (hr : Room (k + 1) X.A) (hb : Binds X.K fd ps []) (hx : Passes CX X E) :
    CallR X (.builtin "len") (rLenO C sp E) := by
  intro pins s σ H xs us Q I r h
  obtain ⟨x, rfl, ⟨a, dx, fs, rfl, ha⟩, q⟩ := h
  obtain ⟨u, rfl, ru⟩ := vals1 r
  cases (show u = Value.ref a from ru)
  obtain ⟨oa, J⟩ := inst_of I ha
  obtain ⟨mf, hF⟩ := I.fr
  refine PySem.W.len_K hF I.ok.mod.kin J hs hf (wpAny_mono (run_deep (vs := [.ref a]) F (Room.in1 hr) I.env0.in1 hb hx I (.cons rfl .nil) q) (fun w s' z => ?_) fun _ _ x => x)
  obtain ⟨z', H', I', rz, n, rfl, hn, qz⟩ := z
  obtain ⟨t, rfl⟩ := (show ∃ t, w = Value.int n t from rz)
  refine ⟨⟨by omega, by omega⟩, ?_⟩
  exact ⟨.int n, H', I'.tok _, ⟨_, rfl⟩, qz⟩
/-- x[i] by the own __getitem__ -/
def rIxO (C : Addr) (sp : Sp) (E : XK) : R2 := fun x y H Q => IsC C H x ∧ sp [x, y] H Q E
theorem pe_ixO {a b : Expr} {ta tb : TE} {pos : Pos} (hs : PySem.W.findIn X.K (.ref C) "__getitem__" = some (some (.ref f))) (hf : PySem.W.isFn X.K (.ref f) = true) (hfn : PySem.W.fnIn X.K f = true) (F : FnOk X.prog X.w X.K X.mg X.base CX k f fd ps sp) (hr : Room (k + 1) X.A) (hb : Binds X.K fd ps []) (hx : Passes CX X E)
    (ha : PE X a ta) (hi : PE X b tb) (hsl : ∀ (x : Addr) (i : Value), subscripted b true (.ref x) i = runValue (.builtin "lifetime.subscript" ⟨[.ref x, i], []⟩) := by intro _ _; with_unfolding_all rfl) : PE X (.Subscript a b pos) (tOp (rIxO C sp E) ta tb) := by
  refine ⟨fun pins s σ H Q I h => ?_⟩
  refine Subscript_ (binT ha hi I h fun v u s2 x y H2 I2 rx ry q => ?_)
  obtain ⟨⟨a, dx, fs, rfl, hca⟩, q⟩ := q
  cases (show v = Value.ref a from rx)
  obtain ⟨oa, J⟩ := inst_of I2 hca
  obtain ⟨mf, hF⟩ := I2.fr
  exact PySem.W.sub_K hF I2.ok.mod.kin J hs hfn hf (run_deep (vs := [.ref a, y]) F (Room.in1 hr) I2.env0.in1 hb hx I2 (.cons rfl (.cons ry .nil)) q) (hsl a u)
end
/-! #### a tuple's iterator as a value -/
def TitO (t it : Addr) : HO := .ext fun h => h.IsTupleIter it t 0
theorem titO_ok {P : Program} {w : World} {H : Hp} {h : Heap} {t it : Addr} (e : h.IsTupleIter it t 0) : ObjOk P w H h it (TitO t it) := by
  refine ⟨e, ?_, fun h1 h2 q k => ?_⟩
  · obtain ⟨o, ho, _⟩ := e
    exact ⟨o, ho⟩
  · exact q.at fun o z => k _ z
def rIterT (K : PySem.W.Frag) (n : Nat) : List V → Hp → VK → Prop := fun xs H Q => ∃ (t : Addr) (zs : List V), xs = [.ref t] ∧ SqT K H t zs ∧ ∀ it, H it = none → n ≤ it → Q (.ref it) (upd H it (TitO t it))
theorem call_iterT {X : Cx} : CallR X (.builtin "iter") (rIterT X.K X.s_0.heap.objs.size) := by
  intro pins s σ H xs us Q I r h
  obtain ⟨t, zs, rfl, hq, q⟩ := h
  obtain ⟨u, rfl, ru⟩ := vals1 r
  cases (show u = Value.ref t from ru)
  obtain ⟨its, rv, pl, hz⟩ := I.tuple hq
  refine Calls.call_function_entry (by decide +kernel) (by decide +kernel) PySem.W.kdk_entry_iter (PySem.W.kdk_args_iter _) ?_
  unfold Builtin.«iter»
  refine wpAny_bind (m := someArgs "iter" 1 2 _) (wpAny_of_eq (a := [Value.ref t]) (by first | rfl | kernel_rfl!) ?_)
  show wpAny _ _ (pyIter (.ref t) >>= _) _ _ _
  refine wpAny_bind (wpAny_pyIter_tuple (show s.heap.IsTuple t its.toArray from pl) (wpAny_pure ⟨_, rfl, ?_⟩))
  have new : ({ s with heap := s.heap.push { cls := .type "tuple_iterator", data := .fields #[.ref t, .int 0 0] } } : Shared).heap.IsTupleIter s.heap.objs.size t 0 := ⟨_, Heap.get?_push_size _ rfl, rfl, rfl⟩
  exact ⟨.ref s.heap.objs.size, _, I.laid (t' := s.toks) (fun b u e => Heap.get?_push_of_some _ e) (Nat.le_refl _) (titO_ok new), rfl, q _ (I.hok.fresh (Nat.le_refl _)) I.sz⟩
/-- a def whose promise speaks of the size of the heap it begins with -/
structure FnS (P : Program) (w : World) (K : PySem.W.Frag) (mg : Str → Option Value) (base : Heap) (k : Nat) (f : Addr) (fd : FuncData) (ps : List Str) (sp : Nat → Sp) : Prop where
  len : ∀ n vs H Q E, sp n vs H Q E → vs.length = ps.length
  run : ∀ (A : Around) (outer : List Env) (s : Shared) (H : Hp) (args : Args) (us : List Value) (vs : List V) (Q : VK) (E : XK), Room k A → Env0 P w K mg base A outer s H → BindsTo s fd args (ps.zip us) → Vals vs us → sp s.heap.objs.size vs H Q E →
    codeAny (model P w) A (.call (.ref f) args) (CR CX0 outer P w H s Q E) s
theorem Fun.okS {P : Program} {w : World} {K : PySem.W.Frag} {mg : Str → Option Value} {base : Heap} {x qual : Str} {st : Stmt} {f : Addr} {fd : FuncData} {N ps : List Str} {k : Nat} {sp : Nat → Sp} (F : Fun K x qual st f fd) (S : FnScope N ps (defScope st)) (len : ∀ n vs H Q E, sp n vs H Q E → vs.length = ps.length)
    (hbody : ∀ (cdv : Value) (A : Around) (outer : List Env) (s : Shared) (H : Hp) (vs : List V) (Q : VK) (E : XK), Room k (A.deeper (envOfC qual (defScope st) s.heap.objs.size f cdv)) → sp s.heap.objs.size vs H Q E →
      ∃ t, PSs (cxOf CX0 P w K mg base N qual (defScope st) f cdv A outer s H E).nox (defBody st) t ∧ t { nx := fun _ H' => Q .non H', rt := Q } (start N vs) H) : FnS P w K mg base (k + 1) f fd ps sp := by
  obtain ⟨oc, od, kV, doc, pm, an, cdv, ct, osl, rfl, lk, hcd⟩ := F.ex
  refine ⟨len, fun A1 fr1 s1 H1 ar1 us vs Q E rm env1 bnd rel hsp => ?_⟩
  have ln := len _ _ _ _ _ hsp
  have kin1 : K.In s1.heap := env1.mod.kin.keeps fun c u z => (env1.bs c u z).1
  have nol1 : s1.heap.NoLimit := env1.mod.nolimit.keeps fun c u z => (env1.bs c u z).1
  have kinds : ∀ y ∈ ps.zip us, (defScope st).names.lookup y.1 = some .local ∨ ((defScope st).names.lookup y.1 = some .cell ∧ ((cellsFrom (s1.heap.objs.size + 1) (defScope st).names []).lookup y.1).isSome = true) := fun ⟨m1, v1⟩ hy => by
    rcases S.par m1 (List.of_mem_zip hy).1 with z | z
    · exact .inl z
    · exact .inr ⟨z, PySem.W.cellsFrom_some _ _ _ (.inl z)⟩
  refine codeAny_call_function rm.depth (kin1 _ _ lk) rfl S.co S.gen rfl (PySem.W.codeRec_of kin1 hcd) (bnd _ _ _ _ ?_)
  refine wpAny_newFunctionEnv_cells S.kind kinds fun en1 een1 s2 x2 => ?_
  subst een1
  refine ⟨nol1.keeps x2.toInCall.keep, codeAny_func ?_⟩
  obtain ⟨t, ht, hq⟩ := hbody cdv A1 fr1 s1 H1 vs Q E (rm.deeper _) hsp
  have I1 : Inv (cxOf CX0 P w K mg base N qual (defScope st) f cdv A1 fr1 s1 H1 E) [] (start N vs) H1 s2 := inv_start S rm.hd env1 ln rel x2
  refine wpAny_mono (ht.nox.run [] s2 (start N vs) H1 _ I1 hq) (fun fl s' ends => ?_) fun e s' z => z
  have back : ∀ {σ' : L2.St} {H' : Hp} {v : V} {u : Value}, Inv (cxOf CX0 P w K mg base N qual (defScope st) f cdv A1 fr1 s1 H1 E) [] σ' H' s' → RelV v u → Q v H' → CE fr1 P w H1 s1 Q u s' :=
    fun {σ' H' v u} J rv q => ⟨v, H', J.os, J.bare, J.base, J.hok, rv, q⟩
  cases fl with
  | ret u =>
    obtain ⟨v, σ', H', J, rv, q⟩ := ends
    exact back J rv q
  | next =>
    obtain ⟨σ', H', J, q⟩ := ends
    exact back (v := V.non) (u := Value.none) J rfl q
  | brk => obtain ⟨_, _, _, q⟩ := ends; exact False.elim q
  | cont => obtain ⟨_, _, _, q⟩ := ends; exact False.elim q
/-- what an own __iter__ that says «return iter(self.fld)» promises -/
def spIterS (K : PySem.W.Frag) (C : Addr) (fld : Str) (n : Nat) : Sp := fun vs H Q _ => ∃ a dx fs t xs, vs = [.ref a] ∧ H a = some (.ins C dx fs) ∧ fs.lookup fld = some (.ref t) ∧ SqT K H t xs ∧ ∀ it, H it = none → n ≤ it → Q (.ref it) (upd H it (TitO t it))
section
variable {X : Cx} {k : Nat} {f C : Addr} {fd : FuncData} {fld : Str}
/-- for .. in x, x an instance whose __iter__ hands out a tuple's iterator -/
def iOwn (K : PySem.W.Frag) (C : Addr) (fld : Str) (te : TE) : TI := fun σ H R => te σ H fun x H1 => ∃ a dx fs t xs, x = .ref a ∧ H1 a = some (.ins C dx fs) ∧ fs.lookup fld = some (.ref t) ∧ SqT K H1 t xs ∧ R (Itt K t) H1
theorem pi_own {tg e : Expr} {te : TE} (hs : PySem.W.findIn X.K (.ref C) "__iter__" = some (some (.ref f))) (hf : PySem.W.isFn X.K (.ref f) = true) (F : FnS X.prog X.w X.K X.mg X.base k f fd ["self"] (spIterS X.K C fld)) (hr : Room k X.A) (hb : Binds X.K fd ["self"] []) (he : PE X e te) :
    PI X tg e (iOwn X.K C fld te) := by
  constructor
  intro pins s σ H R I h
  refine thn (he.run pins s σ H _ I h) fun v s1 ⟨x, H1, I1, rx, a, dx, fs, t, xs, ex, ha, hfl, hq, k1⟩ => ?_
  subst ex
  cases (show v = Value.ref a from rx)
  obtain ⟨oa, J⟩ := inst_of I1 ha
  obtain ⟨mf, hF⟩ := I1.fr
  refine PySem.W.owit_iter hF I1.ok.mod.kin J hs hf ?_
  have bnd := hb s1 [.ref a] I1.kIn rfl
  have hsp : spIterS X.K C fld s1.heap.objs.size [.ref a] H1 (fun z H' => ∃ it, z = .ref it ∧ H1 it = none ∧ s1.heap.objs.size ≤ it ∧ H' = upd H1 it (TitO t it)) (fun _ _ _ => False) := ⟨a, dx, fs, t, xs, rfl, ha, hfl, hq, fun it ni le => ⟨it, rfl, ni, le, rfl⟩⟩
  refine wpAny_call (codeAny_mono (F.run X.A X.stack s1 H1 ⟨[.ref a], []⟩ [.ref a] [.ref a] _ (fun _ _ _ => False) hr I1.env0 (by simpa using bnd) (.cons rfl .nil) hsp) fun r s' got => ?_)
  cases r with
  | error e => exact False.elim got
  | ok fl =>
    cases fl with
    | next => exact False.elim got
    | brk => exact False.elim got
    | cont => exact False.elim got
    | ret u =>
      obtain ⟨z, H2, I2, rz, it, rfl, ni, le, rfl⟩ := I1.after got
      cases (show u = Value.ref it from rz)
      have hit : s'.heap.IsTupleIter it t 0 := (I2.hok it _ upd_same).1
      have I3 : Inv X pins σ H1 s' := by
        have z := ItX.inv_drop I2 upd_same
        rw [ItX.dropH_upd ni] at z
        exact z
      have fp := ItX.inv_fp I2 upd_same (Nat.le_trans I1.sz le)
      rw [ItX.dropH_upd ni] at fp
      unfold PySem.W.OwitIt
      refine wpAny_specialOf (name := Str.ofString "__next__") hit.typeIs PySem.F.slot_tuple_iterator_next.lookup ?_
      refine ⟨it, [it], _, _, H1, rfl, I3, turn_tuple t it, hit, fun b hb => ?_, k1⟩
      obtain rfl : b = it := by simpa using hb
      exact fp
theorem piK_own {K : PySem.W.Frag} {tg e : Expr} {te : TE} (hK : X.K = K) (hs : PySem.W.findIn X.K (.ref C) "__iter__" = some (some (.ref f))) (hf : PySem.W.isFn X.K (.ref f) = true) (F : FnS X.prog X.w X.K X.mg X.base k f fd ["self"] (spIterS X.K C fld)) (hr : Room k X.A) (hb : Binds X.K fd ["self"] []) (he : PE X e te) :
    PI X tg e (iOwn K C fld te) := hK ▸ pi_own hs hf F hr hb he
end
section
variable {X : Cx} {CX : CXT} {k : Nat} {f C : Addr} {sp : Sp} {E : XK}
open StX in
/-- C(), a class whose __init__ has a star alone -/
theorem pe_makeR0 {x : Str} {p pos : Pos} (M : Mk X.K C f) (F : FnR X.prog X.w X.K X.mg X.base CX k f sp) (hr : Room (k + 1) X.A) (hg : Gl X x) (hm : X.mg x = some (.ref C)) (hx : Passes CX X E) (hdb : (x == ("__debug__" : Str)) = false := by decide) :
    PE X (.Call (.Name x p) [] [] pos) (tMakeR C sp E tNil) := by
  constructor
  intro pins s σ H Q I h
  refine wpAny_Call_Name_kw (ld_glob I hg hm ?_ hdb)
  exact PySem.W.callWith_K0 I.kIn M.kp (run_makeR (us := []) M F hr hx I .nil h)
end
/-! ### t * 1 is t -/
theorem tuple_once (p : Addr) (xs : Array Value) (n : Nat) (d1 : Option Addr) (z1 : Array (Option Value)) (u : Tok) :
    Meets (Builtin.«tuple.__mul__» ⟨[.ref p, .int 1 u], []⟩) (fun _ R s => s.heap.get? p = some { cls := .type "tuple", dict := d1, data := .seq xs n, slots := z1 } ∧ R (.ok (.ret (Value.ref p))) s) :=
  .of_wp fun prog w A R s h => by
    obtain ⟨hp, gl, dr, tk, os⟩ := s
    obtain ⟨at1, h⟩ := h
    have ix1 := AutoSeq1.idx_int
    have c1 : (xs.isEmpty || (1 : Int) == 1) = true := by simp
    wp_walk using wpAny_loadPart' at1
    repeat (first
      | (refine wpAny_ite_false (decide_eq_false (by decide)) ?_; wp_walk using wpAny_loadPart' at1)
      | (refine wpAny_ite_true (decide_eq_true (by rw [c1])) ?_; wp_walk using wpAny_loadPart' at1))
    exact ⟨_, rfl, h⟩
def rRepT1 (K : PySem.W.Frag) : R2 := fun x y H Q => ∃ p xs, x = .ref p ∧ y = .int 1 ∧ SqT K H p xs ∧ Q (.ref p) H
theorem op_repT1 {X : Cx} : OpR X (binaryOp .Mult) (rRepT1 X.K) := by
  intro pins s σ H x y v u Q I rx ry h
  obtain ⟨p, xs, rfl, rfl, hT, q⟩ := h
  cases (show v = Value.ref p from rx)
  obtain ⟨t, rfl⟩ := (show ∃ t, u = Value.int 1 t from ry)
  obtain ⟨its, r, ⟨⟨cls, d1, data, z1⟩, ho, hc, n, hd⟩, hs⟩ := I.tuple hT
  simp only at hc hd
  subst hc hd
  refine wpAny_binaryOp_repeat_ref (T := "tuple") (U := "int") (by decide) ⟨_, ho, rfl⟩ (fun s' => typeIs_int s' 1 t) noFill_tuple_mul PySem.F.fills_int_mul PySem.F.slot_int_rmul repeat_tuple PySem.F.slot_int_index.lookup
    (call_meets PySem.F.slot_int_rmul (typeIs_int s 1 t) PySem.F.entry_int_rmul (PySem.F.args_int_rmul_2 _ _) (int_rmul_tuple 1 t p its.toArray n d1 z1)
      ⟨ho, rfl, ⟨_, ho, rfl⟩, call_meets PySem.F.slot_tuple_mul ⟨_, ho, rfl⟩ PySem.F.entry_tuple_mul (PySem.F.args_tuple_mul_2 _ _) (tuple_once p its.toArray n d1 z1 t) ⟨ho, ?_⟩⟩)
  exact ⟨.ref p, H, I, rfl, q⟩
/-! ### chances: the promises -/
/-- a value that is asked for a chance: a ratio, or of another class -/
def ChArg (K : PySem.W.Frag) (C : Addr) (H : Hp) (x : V) (ok : Int → Int → Bool → Prop) (no : Prop) : Prop := (∃ p q, Rat C H x p q ∧ Sz 200 p q ∧ ok p q true) ∨ ((∃ t, TyX K H x t ∧ PySem.W.kitOne K t (.ref C) = some false) ∧ no)
def chanceOk (p q : Int) : Bool := decide (q ≤ 1000) && (decide (q ≤ 2 * p) && decide (p < q))
def spShort (K : PySem.W.Frag) (C : Addr) : Sp := fun vs H Q _ => ∃ x : V, vs = [x] ∧ ((∃ p q, Rat C H x p q ∧ Q (.bl (decide (q ≤ 1000))) H) ∨ ((∃ t, TyX K H x t ∧ PySem.W.kitOne K t (.ref C) = some false) ∧ Q (.bl false) H))
def spChance (K : PySem.W.Frag) (C CB : Addr) : Sp := fun vs H Q E => ∃ x : V, vs = [x] ∧
  ((∃ p q, Rat C H x p q ∧ Sz 200 p q ∧ (chanceOk p q = true → ∀ H', Same H H' → Q x H') ∧ (chanceOk p q = false → Err CB H E "chance" x)) ∨ ((∃ t, TyX K H x t ∧ PySem.W.kitOne K t (.ref C) = some false) ∧ Err CB H E "chance" x))
/-- the chances of copies: (over, under) of each -/
def prodU (l : List (Int × Int)) : Int := l.foldl (fun s r => s * r.2) 1
def Rats (C : Addr) (H : Hp) (l : List (Int × Int)) (ys : List V) : Prop := Paired (fun r y => Rat C H y r.1 r.2) l ys
def spScale (K : PySem.W.Frag) (C : Addr) : Sp := fun vs H Q _ => ∃ (p : Addr) (l : List (Int × Int)) (ys : List V), vs = [.ref p] ∧ SqT K H p ys ∧ Rats C H l ys ∧ l.length ≤ 8 ∧ (∀ r ∈ l, r.2 ≤ 1000) ∧ Q (.int (prodU l)) H
/-- of each lot, ascending, the chance that just its copies are up, times the product of the unders -/
def countsOf (l : List (Int × Int)) : List Int := l.foldl (fun cs r => cs.map (· * (r.2 - r.1)) ++ cs.map (· * r.1)) [1]
def spCounts (K : PySem.W.Frag) (C : Addr) : Sp := fun vs H Q _ => ∃ (p : Addr) (l : List (Int × Int)) (ys : List V), vs = [.ref p] ∧ SqT K H p ys ∧ Rats C H l ys ∧ l.length ≤ 8 ∧ (∀ r ∈ l, 0 ≤ r.1 ∧ r.1 ≤ r.2 ∧ r.2 ≤ 1000) ∧
  ∀ q H', Same H H' → H q = none → H' q = some (.lst ((countsOf l).map V.int)) → Q (.ref q) H'
def spHalf (C : Addr) : Sp := fun vs H Q _ => vs = [] ∧ ∀ r H', Same H H' → Rat C H' r 1 2 → Q r H'
theorem prodU_snoc (l : List (Int × Int)) (r : Int × Int) : prodU (l ++ [r]) = prodU l * r.2 := by
  unfold prodU
  rw [List.foldl_append] <;> rfl
theorem countsOf_snoc (l : List (Int × Int)) (r : Int × Int) : countsOf (l ++ [r]) = (countsOf l).map (· * (r.2 - r.1)) ++ (countsOf l).map (· * r.1) := by
  unfold countsOf
  rw [List.foldl_append] <;> rfl
theorem counts_lenA : ∀ (l : List (Int × Int)) (cs : List Int), (l.foldl (fun cs r => cs.map (· * (r.2 - r.1)) ++ cs.map (· * r.1)) cs).length = cs.length * 2 ^ l.length
  | [], cs => by simp
  | r :: l, cs => by
    rw [List.foldl_cons, counts_lenA l, List.length_append, List.length_map, List.length_map, List.length_cons, Nat.pow_succ, Nat.mul_comm (2 ^ l.length) 2, ← Nat.mul_assoc]
    congr 1
    omega
theorem countsOf_len (l : List (Int × Int)) : (countsOf l).length = 2 ^ l.length := by
  unfold countsOf
  rw [counts_lenA]
  simp
theorem counts_boundA : ∀ (l : List (Int × Int)) (cs : List Int) (b : Int), (∀ r ∈ l, 0 ≤ r.1 ∧ r.1 ≤ r.2 ∧ r.2 ≤ 1000) → (∀ c ∈ cs, 0 ≤ c ∧ c ≤ b) → ∀ c ∈ l.foldl (fun cs r => cs.map (· * (r.2 - r.1)) ++ cs.map (· * r.1)) cs, 0 ≤ c ∧ c ≤ b * 1000 ^ l.length
  | [], cs, b, _, h, c, hc => by
    rw [List.length_nil, Int.pow_zero, Int.mul_one]
    exact h c hc
  | r :: l, cs, b, h, k, c, hc => by
    obtain ⟨h1, h2, h3⟩ := h r List.mem_cons_self
    rw [List.length_cons, Int.pow_succ, Int.mul_comm (1000 ^ l.length) 1000, ← Int.mul_assoc]
    refine counts_boundA l _ (b * 1000) (fun r hr => h r (List.mem_cons_of_mem _ hr)) (fun d hd => ?_) c hc
    rcases List.mem_append.mp hd with z | z <;> obtain ⟨e, he, rfl⟩ := List.mem_map.mp z <;> obtain ⟨d1, d2⟩ := k e he
    · exact ⟨Int.mul_nonneg d1 (by omega), Int.mul_le_mul d2 (by omega) (by omega) (by omega)⟩
    · exact ⟨Int.mul_nonneg d1 h1, Int.mul_le_mul d2 (by omega) h1 (by omega)⟩
theorem counts_bound {l : List (Int × Int)} (h : ∀ r ∈ l, 0 ≤ r.1 ∧ r.1 ≤ r.2 ∧ r.2 ≤ 1000) : ∀ c ∈ countsOf l, 0 ≤ c ∧ c ≤ 1000 ^ l.length := fun c hc => by
  have := counts_boundA l [1] 1 h (fun c hc => by rw [List.mem_singleton.mp hc]; decide) c hc
  rw [Int.one_mul] at this
  exact this
def chF (tr tc : Addr) (s : Int) : List (Str × V) := putF "counts" (.ref tc) (putF "scale" (.int s) (putF "ratios" (.ref tr) []))
/-- v is the chances l -/
def Chs (K : PySem.W.Frag) (C CR : Addr) (H : Hp) (v : V) (l : List (Int × Int)) : Prop := ∃ a dx tr tc ys, v = .ref a ∧ H a = some (.ins C dx (chF tr tc (prodU l))) ∧ SqT K H tr ys ∧ Rats CR H l ys ∧ SqT K H tc ((countsOf l).map V.int) ∧ 1 ≤ l.length ∧ l.length ≤ 8 ∧ ∀ r ∈ l, chanceOk r.1 r.2 = true
/-- what is passed for a chance: terms of a ratio, or none -/
def ChOf (K : PySem.W.Frag) (CR : Addr) (H : Hp) (o : Option (Int × Int)) (y : V) : Prop := match o with
  | some r => Rat CR H y r.1 r.2 ∧ Sz 200 r.1 r.2
  | none => ∀ H' : Hp, ∃ t, TyX K H' y t ∧ PySem.W.kitOne K t (.ref CR) = some false
def okOf : Option (Int × Int) → Bool
  | some r => chanceOk r.1 r.2
  | none => false
def spCh0 (K : PySem.W.Frag) (C CR CB : Addr) : Sp := fun vs H Q E => ∃ (a dx p : Addr) (ys : List V) (xs : List (Option (Int × Int))), vs = [.ref a, .ref p] ∧ H a = some (.ins C dx []) ∧ SqT K H p ys ∧ Paired (ChOf K CR H) xs ys ∧
  (xs.length = 0 ∨ 8 < xs.length → Err CB H E "copies" (.int xs.length)) ∧
  (1 ≤ xs.length → xs.length ≤ 8 → (∀ (i : Nat) (y : V), ys[i]? = some y → (∀ o ∈ xs.take i, okOf o = true) → (xs[i]?.map okOf) = some false → Err CB H E "chance" y) ∧
    ∀ l : List (Int × Int), xs = l.map some → (∀ r ∈ l, chanceOk r.1 r.2 = true) → ∀ H', (∀ b o, H b = some o → b ≠ a → H' b = some o) → Chs K C CR H' (.ref a) l → Q .non H')
theorem all_ok : ∀ (xs : List (Option (Int × Int))), (∀ o ∈ xs, okOf o = true) → ∃ l : List (Int × Int), xs = l.map some ∧ ∀ r ∈ l, chanceOk r.1 r.2 = true
  | [], _ => ⟨[], rfl, fun _ h => by cases h⟩
  | none :: _, h => by
    have := h none List.mem_cons_self
    cases this
  | some r :: xs, h => by
    obtain ⟨l, rfl, k⟩ := all_ok xs fun o ho => h o (List.mem_cons_of_mem _ ho)
    refine ⟨r :: l, rfl, fun q hq => ?_⟩
    rcases List.mem_cons.mp hq with rfl | hq
    · exact h (some q) List.mem_cons_self
    · exact k q hq
theorem ok_terms {p q : Int} (h : chanceOk p q = true) : 0 ≤ p ∧ p ≤ q ∧ q ≤ 1000 := by
  unfold chanceOk at h
  simp at h
  omega
theorem rat_exc {H H' : Hp} {a C CR dx : Addr} {fs : List (Str × V)} {v : V} {p q : Int} (hn : fs.lookup ("over" : Str) = none) (ha : H a = some (.ins C dx fs)) (e : Exc a H H') (R : Rat CR H v p q) : Rat CR H' v p q := by
  obtain ⟨⟨b, db, rfl, h⟩, h1, h2⟩ := R
  refine ⟨⟨b, db, rfl, e b _ (fun z => ?_) h⟩, h1, h2⟩
  rw [z, ha] at h
  have e2 : fs = rfR p q := by
    injection h with h
    injection h
  rw [e2, rfR_over] at hn
  cases hn
/-! ### pairs of lists -/
theorem prTake {α β : Type} {F : α → β → Prop} : ∀ {xs : List α} {ys : List β} (k : Nat), Paired F xs ys → Paired F (xs.take k) (ys.take k)
  | _, _, 0, _ => by rw [List.take_zero, List.take_zero]; exact .nil
  | _, _, _ + 1, .nil => by rw [List.take_nil, List.take_nil]; exact .nil
  | _, _, k + 1, .cons a t => by rw [List.take_succ_cons, List.take_succ_cons]; exact .cons a (prTake k t)
theorem prSet {α β : Type} {F : α → β → Prop} {x : α} {y : β} (h : F x y) : ∀ {xs : List α} {ys : List β} (k : Nat), Paired F xs ys → Paired F (xs.set k x) (ys.set k y)
  | _, _, _, .nil => .nil
  | _, _, 0, .cons _ t => .cons h t
  | _, _, k + 1, .cons a t => .cons a (prSet h k t)
theorem prMap2 {α β γ : Type} {F : α → β → Prop} {f : γ → α} {G : γ → β → Prop} (h : ∀ c b, G c b → F (f c) b) : ∀ {xs : List γ} {ys : List β}, Paired G xs ys → Paired F (xs.map f) ys
  | _, _, .nil => .nil
  | _, _, .cons a t => .cons (h _ _ a) (prMap2 h t)
/-! ### chances: what == says, what the methods promise -/
def DRt (C : Addr) : Ans := fun x y b H => ∃ p q p' q', Rat C H x p q ∧ Rat C H y p' q' ∧ b = (decide (p = p') && decide (q = q'))
theorem mon_rt {C : Addr} : MonB (DRt C) := fun x y b H H' s d => by
  obtain ⟨p, q, p', q', h1, h2, h3⟩ := d
  exact ⟨p, q, p', q', h1.same s, h2.same s, h3⟩
theorem ref_rt {K : PySem.W.Frag} {C : Addr} : RefB K (DRt C) := fun x b H _ d => by
  obtain ⟨p, q, p', q', h1, h2, h3⟩ := d
  obtain ⟨rfl, rfl⟩ := h1.inj h2
  simp [h3]
/-- items: plain values, the same object, ratios -/
def DIt (C : Addr) : Ans := fun x y b H => DFl x y b H ∨ DRt C x y b H
theorem mon_it {C : Addr} : MonB (DIt C) := mon_fl.or mon_rt
theorem ref_it {K : PySem.W.Frag} {C : Addr} : RefB K (DIt C) := ref_fl.or ref_rt
theorem eqB_it {X : Cx} {CX : CXT} {n : Nat} {C f : Addr} {fd : FuncData} {ps : List Str} {E : XK} (F : FnOk X.prog X.w X.K X.mg X.base CX n f fd ps (spEqR X.K C))
    (hs : PySem.W.findIn X.K (.ref C) "__eq__" = some (some (.ref f))) (hf : PySem.W.isFn X.K (.ref f) = true) (hb : Binds X.K fd ps []) (hx : Passes CX X E) : EqB X n (DIt C) :=
  (eqB_fl.mono (Nat.zero_le _)).or ((rcB_own F hs hf hb hx fun x y b H d => by
    obtain ⟨p, q, p', q', h1, h2, h3⟩ := d
    exact ⟨h1.isC, h2.isC, x, y, p, q, rfl, h1, .inl ⟨p', q', h2, by rw [h3], Same.refl _⟩⟩).eqB (fun x y b H d => by
      obtain ⟨p, q, p', q', ⟨⟨a, dx, h1, _⟩, _⟩, ⟨⟨c, dy, h2, _⟩, _⟩, _⟩ := d
      exact ⟨a, c, h1, h2⟩) ref_rt)
theorem Rats.same {C : Addr} {H H' : Hp} {l : List (Int × Int)} {ys : List V} (h : Rats C H l ys) (e : Same H H') : Rats C H' l ys := prImp (fun _ _ z => z.same e) h
theorem prs_rats {C : Addr} {H : Hp} {l l' : List (Int × Int)} {ys ys' : List V} (h : Rats C H l ys) (h' : Rats C H l' ys') : PrsB (DIt C) ys ys' (fun i => decide (l[i]? = l'[i]?)) H := fun i x y h1 h2 => by
  obtain ⟨r, e1, R1⟩ := prAt h h1
  obtain ⟨r', e2, R2⟩ := prAt h' h2
  refine .inr ⟨r.1, r.2, r'.1, r'.2, R1, R2, ?_⟩
  show decide (l[i]? = l'[i]?) = _
  rw [e1, e2, Bool.eq_iff_iff]
  simp [Prod.ext_iff]
theorem all_rats {C : Addr} {H : Hp} {l l' : List (Int × Int)} {ys ys' : List V} (h : Rats C H l ys) (h' : Rats C H l' ys') : allB ys ys' (fun i => decide (l[i]? = l'[i]?)) = decide (l = l') := by
  have l1 := prLen h
  have l2 := prLen h'
  unfold allB
  rw [l1, l2, Bool.eq_iff_iff]
  simp only [Bool.and_eq_true, List.all_eq_true, List.mem_range, decide_eq_true_eq, beq_iff_eq]
  constructor
  · rintro ⟨a, b⟩
    refine List.ext_getElem? fun i => ?_
    rcases Nat.lt_or_ge i l.length with z | z
    · exact a i (by omega)
    · rw [List.getElem?_eq_none z, List.getElem?_eq_none (by omega)]
  · rintro rfl
    exact ⟨fun _ _ => rfl, rfl⟩
section
variable {K : PySem.W.Frag} {C CR CB : Addr} {H : Hp} {p q : Addr} {l l' : List (Int × Int)} {ys ys' : List V} {Q : VK} {g : Bool → Bool}
theorem cmp_ratsT (hp : SqT K H p ys) (hq : SqT K H q ys') (h : Rats CR H l ys) (h' : Rats CR H l' ys') (k : ∀ H', Same H H' → Q (.bl (g (decide (l = l')))) H') : rCmpB (DTupB K (DIt CR)) g (.ref p) (.ref q) H Q :=
  ⟨_, ⟨p, q, ys, ys', _, rfl, rfl, hp, hq, prs_rats h h', rfl⟩, by rw [all_rats h h']; exact k⟩
theorem cmp_ratsL (hp : H p = some (.lst ys)) (hq : H q = some (.lst ys')) (h : Rats CR H l ys) (h' : Rats CR H l' ys') (e : l.length = l'.length) (k : ∀ H', Same H H' → Q (.bl (g (decide (l = l')))) H') : rCmpB (DLstB (DIt CR)) g (.ref p) (.ref q) H Q :=
  ⟨_, ⟨p, q, ys, ys', _, rfl, rfl, hp, hq, by rw [prLen h, prLen h', e], prs_rats h h', rfl⟩, by rw [all_rats h h']; exact k⟩
/-- a value that is equal to itself within a tuple -/
def itemV (x : V) : Prop := scalV x = true ∨ ∃ a, x = .ref a
theorem eqV_self {x : V} (h : scalV x = true) : eqV x x = true := by
  cases x <;> first | (cases h; done) | simp [eqV]
theorem prs_self {xs : List V} (h : ∀ x ∈ xs, itemV x) : PrsB (DIt CR) xs xs (fun _ => true) H := fun i x y h1 h2 => by
  rw [h1] at h2
  cases h2
  refine .inl ?_
  rcases h x (List.mem_of_getElem? h1) with z | ⟨a, rfl⟩
  · exact .inl ⟨z, z, (eqV_self z).symm⟩
  · exact .inr ⟨a, rfl, rfl, rfl⟩
theorem all_true (xs : List V) : allB xs xs (fun _ => true) = true := by
  unfold allB
  simp
/-- two tuples that hold the same -/
theorem cmp_selfT {xs : List V} (hp : SqT K H p xs) (hq : SqT K H q xs) (h : ∀ x ∈ xs, itemV x) (k : ∀ H', Same H H' → Q (.bl (g true)) H') : rCmpB (DTupB K (DIt CR)) g (.ref p) (.ref q) H Q :=
  ⟨_, ⟨p, q, xs, xs, _, rfl, rfl, hp, hq, prs_self h, rfl⟩, by rw [all_true]; exact k⟩
end
/-! #### the objects -/
theorem ChOf.same {K : PySem.W.Frag} {CR : Addr} {H H' : Hp} {o : Option (Int × Int)} {y : V} (h : ChOf K CR H o y) (e : Same H H') : ChOf K CR H' o y := by
  cases o with
  | none => exact h
  | some r => exact ⟨h.1.same e, h.2⟩
theorem Chs.same {K : PySem.W.Frag} {C CR : Addr} {H H' : Hp} {v : V} {l : List (Int × Int)} (h : Chs K C CR H v l) (e : Same H H') : Chs K C CR H' v l := by
  obtain ⟨a, dx, tr, tc, ys, rfl, h1, h2, h3, h4, h5⟩ := h
  exact ⟨a, dx, tr, tc, ys, rfl, e _ _ h1, Same.seqT e h2, h3.same e, Same.seqT e h4, h5⟩
theorem Chs.isC {K : PySem.W.Frag} {C CR : Addr} {H : Hp} {v : V} {l : List (Int × Int)} (h : Chs K C CR H v l) : IsC C H v := by
  obtain ⟨a, dx, tr, tc, ys, rfl, h1, _⟩ := h
  exact ⟨a, dx, _, rfl, h1⟩
theorem Chs.ty {K : PySem.W.Frag} {C CR : Addr} {H : Hp} {v : V} {l : List (Int × Int)} (h : Chs K C CR H v l) (T : InsC K C) : TyX K H v (.ref C) := by
  obtain ⟨a, dx, tr, tc, ys, rfl, h1, _⟩ := h
  exact T.ty h1
theorem Chs.len {K : PySem.W.Frag} {C CR : Addr} {H : Hp} {v : V} {l : List (Int × Int)} (h : Chs K C CR H v l) : 1 ≤ l.length ∧ l.length ≤ 8 ∧ ∀ r ∈ l, chanceOk r.1 r.2 = true := by
  obtain ⟨a, dx, tr, tc, ys, rfl, _, _, _, _, h⟩ := h
  exact h
theorem fc_rs : ¬ (("ratios" : Str) = "scale") := by decide +kernel
theorem fc_rc : ¬ (("ratios" : Str) = "counts") := by decide +kernel
theorem fc_sc : ¬ (("scale" : Str) = "counts") := by decide +kernel
theorem chF_counts (tr tc : Addr) (s : Int) : (chF tr tc s).lookup ("counts" : Str) = some (.ref tc) := by
  unfold chF
  rw [lookup_putF, if_pos rfl]
theorem chF_scale (tr tc : Addr) (s : Int) : (chF tr tc s).lookup ("scale" : Str) = some (.int s) := by
  unfold chF
  rw [lookup_putF, if_neg fc_sc, lookup_putF, if_pos rfl]
theorem chF_ratios (tr tc : Addr) (s : Int) : (chF tr tc s).lookup ("ratios" : Str) = some (.ref tr) := by
  unfold chF
  rw [lookup_putF, if_neg fc_rc, lookup_putF, if_neg fc_rs, lookup_putF, if_pos rfl]
theorem chF_no (tr tc : Addr) (s : Int) {x : Str} (h1 : ¬ x = "counts") (h2 : ¬ x = "scale") (h3 : ¬ x = "ratios") : (chF tr tc s).lookup x = none := by
  unfold chF
  rw [lookup_putF, if_neg h1, lookup_putF, if_neg h2, lookup_putF, if_neg h3]
  all_goals rfl
/-- what a method's call asks of the object -/
theorem Chs.meth {K : PySem.W.Frag} {C CR : Addr} {H : Hp} {v : V} {l : List (Int × Int)} (h : Chs K C CR H v l) {m : Str} (e : (m == "counts" || m == "scale" || m == "ratios") = false) {Z : Prop} (z : Z) : ∃ a dx fs, v = .ref a ∧ H a = some (.ins C dx fs) ∧ fs.lookup m = none ∧ Z := by
  obtain ⟨a, dx, tr, tc, ys, rfl, h1, _⟩ := h
  simp at e
  exact ⟨a, dx, _, rfl, h1, chF_no _ _ _ e.1.1 e.1.2 e.2, z⟩
/-- chances made of anything -/
theorem any_chs {K : PySem.W.Frag} {C CR CB : Addr} {H : Hp} {ys : List V} {xs : List (Option (Int × Int))} {Q : Addr → Hp → Prop} {E : XK} (hp : Paired (ChOf K CR H) xs ys) (hl : ys.length ≤ 1000)
    (h1 : xs.length = 0 ∨ 8 < xs.length → Err CB H E "copies" (.int xs.length))
    (h2 : 1 ≤ xs.length → xs.length ≤ 8 → (∀ (i : Nat) (y : V), ys[i]? = some y → (∀ o ∈ xs.take i, okOf o = true) → (xs[i]?.map okOf) = some false → Err CB H E "chance" y) ∧
      ∀ l : List (Int × Int), xs = l.map some → (∀ r ∈ l, chanceOk r.1 r.2 = true) → ∀ a H', Same H H' → Chs K C CR H' (.ref a) l → Q a H') :
    ∀ x dx, H x = none → H dx = none → dx ≠ x → spStar 1 (spCh0 K C CR CB) (.ref x :: ys) (upd (upd H dx (.own x)) x (.ins C dx [])) (fun v H2 => v = .non ∧ Q x H2) E := by
  intro x dx nx nd ne
  have e1000 : (1000 : Nat) ≤ sizeLine := by decide
  refine ⟨[.ref x], ys, rfl, rfl, by omega, fun p np => ?_⟩
  have s0 : Same H (upd (upd H dx (.own x)) x (.ins C dx [])) := fun b o e => by
    rw [upd_ne (ne_of_none e nx), upd_ne (ne_of_none e nd)]
    exact e
  have sp := s0.trans (same_upd (o := .tup ys) np)
  have hx : upd (upd (upd H dx (.own x)) x (.ins C dx [])) p (.tup ys) x = some (.ins C dx []) := (upd_ne (ne_of_none upd_same np)).trans upd_same
  refine ⟨x, dx, p, ys, xs, rfl, hx, .inl (.inl upd_same), prImp (fun _ _ z => z.same sp) hp, fun z => (h1 z).of sp, fun z1 z2 => ?_⟩
  obtain ⟨k1, k2⟩ := h2 z1 z2
  exact ⟨fun i y w1 w2 w3 => (k1 i y w1 w2 w3).of sp, fun l e ok H' k G => ⟨rfl, k2 l e ok x H' (fun b o e => k b o (sp b o e) (ne_of_none e nx)) G⟩⟩
theorem sz_small {p q : Int} (h : chanceOk p q = true) (h0 : 0 < q) : Sz 200 p q := by
  obtain ⟨h1, h2, h3⟩ := ok_terms h
  have e : (1001 : Nat) < 2 ^ 200 := by decide
  exact ⟨by omega, by omega⟩
/-- ratios that are right chances, as they are handed over -/
theorem rats_args {K : PySem.W.Frag} {CR : Addr} {H : Hp} : ∀ {l : List (Int × Int)} {ys : List V}, Rats CR H l ys → (∀ r ∈ l, chanceOk r.1 r.2 = true) → Paired (ChOf K CR H) (l.map some) ys
  | _, _, .nil, _ => .nil
  | _, _, .cons a t, h => .cons ⟨a, sz_small (h _ List.mem_cons_self) a.pos⟩ (rats_args t fun r hr => h r (List.mem_cons_of_mem _ hr))
theorem ok_somes {l : List (Int × Int)} (h : ∀ r ∈ l, chanceOk r.1 r.2 = true) {i : Nat} : (((l.map some)[i]?).map okOf) ≠ some false := fun z => by
  rw [List.getElem?_map] at z
  cases e : l[i]? with
  | none => rw [e] at z; cases z
  | some r =>
    rw [e] at z
    injection z with z
    have := h r (List.mem_of_getElem? e)
    rw [show okOf (some r) = chanceOk r.1 r.2 from rfl] at z
    rw [z] at this
    cases this
theorem somes_inj {l l' : List (Int × Int)} (h : l.map some = l'.map some) : l = l' := List.map_inj_right (fun _ _ e => Option.some.inj e) |>.mp h
/-- right chances -/
theorem mk_chs {K : PySem.W.Frag} {C CR CB : Addr} {H : Hp} {l : List (Int × Int)} {ys : List V} {Q : Addr → Hp → Prop} {E : XK} (h : Rats CR H l ys) (ok : ∀ r ∈ l, chanceOk r.1 r.2 = true) (n1 : 1 ≤ l.length) (n8 : l.length ≤ 8) (k : ∀ a H', Same H H' → Chs K C CR H' (.ref a) l → Q a H') :
    ∀ x dx, H x = none → H dx = none → dx ≠ x → spStar 1 (spCh0 K C CR CB) (.ref x :: ys) (upd (upd H dx (.own x)) x (.ins C dx [])) (fun v H2 => v = .non ∧ Q x H2) E :=
  any_chs (rats_args h ok) (by have := prLen h; omega) (fun z => by rw [List.length_map] at z; omega) fun _ _ => ⟨fun i y _ _ z => absurd z (ok_somes ok), fun l' e _ a H' s G => by cases somes_inj e; exact k a H' s G⟩
/-! #### the methods -/
def spChLen (K : PySem.W.Frag) (C CR : Addr) : Sp := fun vs H Q _ => ∃ x l, vs = [x] ∧ Chs K C CR H x l ∧ Q (.int (l.length : Nat)) H
def spChEq (K : PySem.W.Frag) (C CR : Addr) : Sp := fun vs H Q _ => ∃ x y l, vs = [x, y] ∧ Chs K C CR H x l ∧ ((∃ l', Chs K C CR H y l' ∧ ∀ H', Same H H' → Q (.bl (decide (l = l'))) H') ∨ (∃ t, TyX K H y t ∧ PySem.W.kitOne K t (.ref C) = some false ∧ Q (.bl false) H))
def spChAdd (K : PySem.W.Frag) (C CR CB : Addr) : Sp := fun vs H Q E => ∃ x y l l', vs = [x, y] ∧ Chs K C CR H x l ∧ Chs K C CR H y l' ∧ (l.length + l'.length ≤ 8 → ∀ r H', Same H H' → Chs K C CR H' r (l ++ l') → Q r H') ∧ (8 < l.length + l'.length → Err CB H E "copies" (.int (l.length + l'.length : Nat)))
def spChGet (K : PySem.W.Frag) (C CR CB : Addr) : Sp := fun vs H Q E => ∃ x c l, vs = [x, c] ∧ Chs K C CR H x l ∧ scalV c = true ∧ (∀ (n : Nat) r, c = .int n → l[n]? = some r → ∀ y, Rat CR H y r.1 r.2 → Q y H) ∧ (copyOk l.length c = false → Err CB H E "copy" c)
def spChWith (K : PySem.W.Frag) (C CR CB : Addr) : Sp := fun vs H Q E => ∃ x c z l o, vs = [x, c, z] ∧ Chs K C CR H x l ∧ scalV c = true ∧ ChOf K CR H o z ∧ (copyOk l.length c = false → Err CB H E "copy" c) ∧
  (∀ n : Nat, c = .int n → n < l.length → (okOf o = false → Err CB H E "chance" z) ∧ (∀ r, o = some r → chanceOk r.1 r.2 = true → ∀ v H', Same H H' → Chs K C CR H' v (l.set n r) → Q v H'))
section
variable {K : PySem.W.Frag} {C CR CB : Addr} {H : Hp} {x y : V} {l l' : List (Int × Int)} {Q : VK} {E : XK}
theorem ch_add (h : Chs K C CR H x l) (h' : Chs K C CR H y l') (n : l.length + l'.length ≤ 8) (k : ∀ r H', Same H H' → Chs K C CR H' r (l ++ l') → Q r H') : rOwnB C (spChAdd K C CR CB) E x y H Q :=
  ⟨h.isC, h'.isC, x, y, l, l', rfl, h, h', fun _ => k, fun z => by omega⟩
theorem ch_eq (T : InsC K C) (h : Chs K C CR H x l) (h' : Chs K C CR H y l') (k : ∀ H', Same H H' → Q (.bl (decide (l = l'))) H') : rOwnC K C (spChEq K C CR) E x y H Q :=
  ⟨h.isC, ⟨_, h'.ty T, by simp [PySem.W.notFirst]⟩, x, y, l, rfl, h, .inl ⟨l', h', k⟩⟩
theorem ch_ne (T : InsC K C) (h : Chs K C CR H x l) (h' : Chs K C CR H y l') (k : ∀ H', Same H H' → Q (.bl (!decide (l = l'))) H') : rOwnNe K C (spChEq K C CR) E x y H Q :=
  ⟨h.isC, ⟨_, h'.ty T, by simp [PySem.W.notFirst]⟩, x, y, l, rfl, h, .inl ⟨l', h', fun H' s => ⟨_, rfl, k H' s⟩⟩⟩
theorem ch_len (h : Chs K C CR H x l) (k : Q (.int (l.length : Nat)) H) : rLenO C (spChLen K C CR) E [x] H Q :=
  ⟨x, rfl, h.isC, x, l, rfl, h, l.length, rfl, by have := h.len; omega, k⟩
end
/-! ### chances: pairs in lowest terms, what the law draws -/
def goodR (r : Int × Int) : Prop := 2 ≤ r.2 ∧ r.2 ≤ 12 ∧ r.1 < r.2 ∧ r.2 ≤ 2 * r.1
def lowR (r : Int × Int) : Int × Int := (r.1.fdiv ((Nat.gcd r.1.natAbs r.2.natAbs : Nat) : Int), r.2.fdiv ((Nat.gcd r.1.natAbs r.2.natAbs : Nat) : Int))
theorem low_nf {r : Int × Int} (h : 0 < r.2) : Nf r.1 r.2 (lowR r).1 (lowR r).2 := (nf_make (O := r.1) (U := r.2) (by omega) (by rw [if_neg (by omega)])).2.2
theorem low_of {r : Int × Int} {p q : Int} (h : 0 < r.2) (n : Nf r.1 r.2 p q) : p = (lowR r).1 ∧ q = (lowR r).2 := Nf.unique (by omega) n (low_nf h)
theorem low_ok {r : Int × Int} (g : goodR r) : chanceOk (lowR r).1 (lowR r).2 = true := by
  obtain ⟨g1, g2, g3, g4⟩ := g
  have n := low_nf (r := r) (by omega)
  revert n
  generalize (lowR r).1 = p
  generalize (lowR r).2 = q
  intro n
  obtain ⟨n1, n2, n3, n4, n5⟩ := n
  have k1 : 0 < r.2 := by omega
  have e1 : q ≤ 2 * p := by
    refine Int.le_of_mul_le_mul_right (a := r.2) ?_ k1
    rw [Int.mul_assoc, n3, Int.mul_comm r.1 q, ← Int.mul_assoc, Int.mul_comm 2 q, Int.mul_assoc]
    exact Int.mul_le_mul_of_nonneg_left g4 (by omega)
  have e2 : p < q := by
    refine Int.lt_of_mul_lt_mul_right (a := r.2) ?_ (by omega)
    rw [n3, Int.mul_comm r.1 q]
    exact Int.mul_lt_mul_of_pos_left g3 n1
  unfold chanceOk
  rw [decide_eq_true e1, decide_eq_true e2, decide_eq_true (by omega)]
  rfl
theorem low_good {r : Int × Int} (g : goodR r) : 0 < r.2 := by
  have := g.1
  omega
/-- a pair as a tuple -/
def PrT (K : PySem.W.Frag) (H : Hp) (r : Int × Int) (y : V) : Prop := ∃ p, y = .ref p ∧ SqT K H p [.int r.1, .int r.2]
theorem PrT.same {K : PySem.W.Frag} {H H' : Hp} {r : Int × Int} {y : V} (h : PrT K H r y) (e : Same H H') : PrT K H' r y := by
  obtain ⟨p, rfl, h⟩ := h
  exact ⟨p, rfl, Same.seqT e h⟩
theorem ratT {C : Addr} {H H' : Hp} {v : V} {p q : Int} (R : Rat C H v p q) (e : SameT H H') : Rat C H' v p q := by
  obtain ⟨⟨b, db, rfl, h⟩, h1, h2⟩ := R
  exact ⟨⟨b, db, rfl, e b _ h fun _ z => by cases z⟩, h1, h2⟩
theorem ChOf.sameT {K : PySem.W.Frag} {CR : Addr} {H H' : Hp} {o : Option (Int × Int)} {y : V} (h : ChOf K CR H o y) (e : SameT H H') : ChOf K CR H' o y := by
  cases o with
  | none => exact h
  | some r => exact ⟨ratT h.1 e, h.2⟩
theorem len5 {σ : L2.St} (h : σ.length = 5) : ∃ a b c d e, σ = [a, b, c, d, e] := match σ, h with
  | [a, b, c, d, e], _ => ⟨a, b, c, d, e, rfl⟩
def spLChance (K : PySem.W.Frag) : Sp := fun vs H Q _ => ∃ (l t : Addr) (H0 : Hp), vs = [.ref l, .ref t] ∧ Drw K H0 l t H ∧ ∀ (r : Int × Int) p H', goodR r → Exc t H H' → Drw K H0 l t H' → H p = none → H' p = some (.tup [.int r.1, .int r.2]) → Q (.ref p) H'
def spLChances (K : PySem.W.Frag) (C CR : Addr) : Sp := fun vs H Q _ => ∃ (p : Addr) (rs : List (Int × Int)) (ys : List V), vs = [.ref p] ∧ SqL K H p ys ∧ Paired (PrT K H) rs ys ∧ 1 ≤ rs.length ∧ rs.length ≤ 8 ∧ (∀ r ∈ rs, goodR r) ∧ ∀ v H', Same H H' → Chs K C CR H' v (rs.map lowR) → Q v H'
theorem PrT.sameT {K : PySem.W.Frag} {H H' : Hp} {r : Int × Int} {y : V} (h : PrT K H r y) (e : SameT H H') : PrT K H' r y := by
  obtain ⟨p, rfl, h⟩ := h
  exact ⟨p, rfl, e.seqT h⟩
theorem Rats.sameT {C : Addr} {H H' : Hp} {l : List (Int × Int)} {ys : List V} (h : Rats C H l ys) (e : SameT H H') : Rats C H' l ys := prImp (fun _ _ z => ratT z e) h
theorem Chs.sameT {K : PySem.W.Frag} {C CR : Addr} {H H' : Hp} {v : V} {l : List (Int × Int)} (h : Chs K C CR H v l) (e : SameT H H') : Chs K C CR H' v l := by
  obtain ⟨a, dx, tr, tc, ys, rfl, h1, h2, h3, h4, h5⟩ := h
  exact ⟨a, dx, tr, tc, ys, rfl, e.ins h1, e.seqT h2, h3.sameT e, e.seqT h4, h5⟩
/-- what the top has left -/
structure Ctx (K : PySem.W.Frag) (mg : Str → Option Value) where
  c_VoteError : Addr
  gc_VoteError : mg "VoteError" = some (.ref c_VoteError)
  c_BadNumber : Addr
  gc_BadNumber : mg "BadNumber" = some (.ref c_BadNumber)
  c_Ratio : Addr
  gc_Ratio : mg "Ratio" = some (.ref c_Ratio)
  c_Chances : Addr
  gc_Chances : mg "Chances" = some (.ref c_Chances)
  f_BadNumber_init : Addr
  fd_BadNumber_init : FuncData
  F_BadNumber_init : Fun K "__init__" "BadNumber.__init__" s_BadNumber_init f_BadNumber_init fd_BadNumber_init
  b_BadNumber_init : Binds K fd_BadNumber_init ["self", "what", "value"] []
  f_is_integer : Addr
  fd_is_integer : FuncData
  F_is_integer : Fun K "is_integer" "is_integer" s_is_integer f_is_integer fd_is_integer
  b_is_integer : Binds K fd_is_integer ["value"] []
  g_is_integer : mg "is_integer" = some (.ref f_is_integer)
  f_check_number : Addr
  fd_check_number : FuncData
  F_check_number : Fun K "check_number" "check_number" s_check_number f_check_number fd_check_number
  b_check_number : Binds K fd_check_number ["what", "value", "low", "high"] []
  g_check_number : mg "check_number" = some (.ref f_check_number)
  f_check_copies : Addr
  fd_check_copies : FuncData
  F_check_copies : Fun K "check_copies" "check_copies" s_check_copies f_check_copies fd_check_copies
  b_check_copies : Binds K fd_check_copies ["copies"] []
  g_check_copies : mg "check_copies" = some (.ref f_check_copies)
  f_check_copy : Addr
  fd_check_copy : FuncData
  F_check_copy : Fun K "check_copy" "check_copy" s_check_copy f_check_copy fd_check_copy
  b_check_copy : Binds K fd_check_copy ["copies", "copy"] []
  g_check_copy : mg "check_copy" = some (.ref f_check_copy)
  f_Ratio_init : Addr
  fd_Ratio_init : FuncData
  F_Ratio_init : FunD K "__init__" "Ratio.__init__" (defArgs s_Ratio_init) (defBody s_Ratio_init) (defScope s_Ratio_init) [.int 1] [] f_Ratio_init fd_Ratio_init
  d_Ratio_init1 : List Value
  v_Ratio_init1 : Vals (List.drop 0 [.int 1]) d_Ratio_init1
  b_Ratio_init1 : Binds K fd_Ratio_init ["self", "over", "under"] d_Ratio_init1
  d_Ratio_init2 : List Value
  v_Ratio_init2 : Vals (List.drop 1 [.int 1]) d_Ratio_init2
  b_Ratio_init2 : Binds K fd_Ratio_init ["self", "over", "under"] d_Ratio_init2
  f_ratio_of : Addr
  fd_ratio_of : FuncData
  F_ratio_of : Fun K "ratio_of" "ratio_of" s_ratio_of f_ratio_of fd_ratio_of
  b_ratio_of : Binds K fd_ratio_of ["value"] []
  g_ratio_of : mg "ratio_of" = some (.ref f_ratio_of)
  f_Ratio_eq : Addr
  fd_Ratio_eq : FuncData
  F_Ratio_eq : Fun K "__eq__" "Ratio.__eq__" s_Ratio_eq f_Ratio_eq fd_Ratio_eq
  b_Ratio_eq : Binds K fd_Ratio_eq ["self", "other"] []
  me_Ratio_eq : Meth K c_Ratio "__eq__" f_Ratio_eq
  f_Ratio_lt : Addr
  fd_Ratio_lt : FuncData
  F_Ratio_lt : Fun K "__lt__" "Ratio.__lt__" s_Ratio_lt f_Ratio_lt fd_Ratio_lt
  b_Ratio_lt : Binds K fd_Ratio_lt ["self", "other"] []
  me_Ratio_lt : Meth K c_Ratio "__lt__" f_Ratio_lt
  f_Ratio_ge : Addr
  fd_Ratio_ge : FuncData
  F_Ratio_ge : Fun K "__ge__" "Ratio.__ge__" s_Ratio_ge f_Ratio_ge fd_Ratio_ge
  b_Ratio_ge : Binds K fd_Ratio_ge ["self", "other"] []
  me_Ratio_ge : Meth K c_Ratio "__ge__" f_Ratio_ge
  f_Ratio_half : Addr
  fd_Ratio_half : FuncData
  F_Ratio_half : Fun K "half" "Ratio.half" s_Ratio_half f_Ratio_half fd_Ratio_half
  b_Ratio_half : Binds K fd_Ratio_half [] []
  sm_Ratio_half : SMet K c_Ratio "half" f_Ratio_half
  f_is_short : Addr
  fd_is_short : FuncData
  F_is_short : Fun K "is_short" "is_short" s_is_short f_is_short fd_is_short
  b_is_short : Binds K fd_is_short ["value"] []
  g_is_short : mg "is_short" = some (.ref f_is_short)
  f_check_chance : Addr
  fd_check_chance : FuncData
  F_check_chance : Fun K "check_chance" "check_chance" s_check_chance f_check_chance fd_check_chance
  b_check_chance : Binds K fd_check_chance ["chance"] []
  g_check_chance : mg "check_chance" = some (.ref f_check_chance)
  f_scale_of : Addr
  fd_scale_of : FuncData
  F_scale_of : Fun K "scale_of" "scale_of" s_scale_of f_scale_of fd_scale_of
  b_scale_of : Binds K fd_scale_of ["ratios"] []
  g_scale_of : mg "scale_of" = some (.ref f_scale_of)
  f_counts_of : Addr
  fd_counts_of : FuncData
  F_counts_of : Fun K "counts_of" "counts_of" s_counts_of f_counts_of fd_counts_of
  b_counts_of : Binds K fd_counts_of ["ratios"] []
  g_counts_of : mg "counts_of" = some (.ref f_counts_of)
  f_Chances_init : Addr
  fd_Chances_init : FuncData
  F_Chances_init : Fun K "__init__" "Chances.__init__" s_Chances_init f_Chances_init fd_Chances_init
  f_Chances_eq : Addr
  fd_Chances_eq : FuncData
  F_Chances_eq : Fun K "__eq__" "Chances.__eq__" s_Chances_eq f_Chances_eq fd_Chances_eq
  b_Chances_eq : Binds K fd_Chances_eq ["self", "other"] []
  me_Chances_eq : Meth K c_Chances "__eq__" f_Chances_eq
  f_Chances_add : Addr
  fd_Chances_add : FuncData
  F_Chances_add : Fun K "__add__" "Chances.__add__" s_Chances_add f_Chances_add fd_Chances_add
  b_Chances_add : Binds K fd_Chances_add ["self", "other"] []
  me_Chances_add : Meth K c_Chances "__add__" f_Chances_add
  f_Chances_getitem : Addr
  fd_Chances_getitem : FuncData
  F_Chances_getitem : Fun K "__getitem__" "Chances.__getitem__" s_Chances_getitem f_Chances_getitem fd_Chances_getitem
  b_Chances_getitem : Binds K fd_Chances_getitem ["self", "at"] []
  me_Chances_getitem : Meth K c_Chances "__getitem__" f_Chances_getitem
  f_Chances_len : Addr
  fd_Chances_len : FuncData
  F_Chances_len : Fun K "__len__" "Chances.__len__" s_Chances_len f_Chances_len fd_Chances_len
  b_Chances_len : Binds K fd_Chances_len ["self"] []
  me_Chances_len : Meth K c_Chances "__len__" f_Chances_len
  f_Chances_iter : Addr
  fd_Chances_iter : FuncData
  F_Chances_iter : Fun K "__iter__" "Chances.__iter__" s_Chances_iter f_Chances_iter fd_Chances_iter
  b_Chances_iter : Binds K fd_Chances_iter ["self"] []
  me_Chances_iter : Meth K c_Chances "__iter__" f_Chances_iter
  f_Chances_with_chance : Addr
  fd_Chances_with_chance : FuncData
  F_Chances_with_chance : Fun K "with_chance" "Chances.with_chance" s_Chances_with_chance f_Chances_with_chance fd_Chances_with_chance
  b_Chances_with_chance : Binds K fd_Chances_with_chance ["self", "copy", "chance"] []
  me_Chances_with_chance : Meth K c_Chances "with_chance" f_Chances_with_chance
  f_l_start : Addr
  fd_l_start : FuncData
  F_l_start : Fun K "_law_start" "_law_start" s_l_start f_l_start fd_l_start
  b_l_start : Binds K fd_l_start ["_law_script"] []
  g_l_start : mg "_law_start" = some (.ref f_l_start)
  f_l_draw : Addr
  fd_l_draw : FuncData
  F_l_draw : Fun K "_law_draw" "_law_draw" s_l_draw f_l_draw fd_l_draw
  b_l_draw : Binds K fd_l_draw ["_law_script", "_law_state", "_law_limit"] []
  g_l_draw : mg "_law_draw" = some (.ref f_l_draw)
  f_l_chance : Addr
  fd_l_chance : FuncData
  F_l_chance : Fun K "_law_chance" "_law_chance" s_l_chance f_l_chance fd_l_chance
  b_l_chance : Binds K fd_l_chance ["_law_script", "_law_state"] []
  g_l_chance : mg "_law_chance" = some (.ref f_l_chance)
  f_l_chances : Addr
  fd_l_chances : FuncData
  F_l_chances : Fun K "_law_chances" "_law_chances" s_l_chances f_l_chances fd_l_chances
  b_l_chances : Binds K fd_l_chances ["_law_pairs"] []
  g_l_chances : mg "_law_chances" = some (.ref f_l_chances)
  f_l_told : Addr
  fd_l_told : FuncData
  F_l_told : Fun K "_law_told" "_law_told" s_l_told f_l_told fd_l_told
  b_l_told : Binds K fd_l_told ["_law_kind", "_law_one", "_law_first", "_law_second"] []
  g_l_told : mg "_law_told" = some (.ref f_l_told)
  f_l_wrong : Addr
  fd_l_wrong : FuncData
  F_l_wrong : Fun K "_law_wrong" "_law_wrong" s_l_wrong f_l_wrong fd_l_wrong
  b_l_wrong : Binds K fd_l_wrong ["_law_script", "_law_state"] []
  g_l_wrong : mg "_law_wrong" = some (.ref f_l_wrong)
  f_law : Addr
  fd_law : FuncData
  F_law : Fun K "law" "law" s_law f_law fd_law
  b_law : Binds K fd_law ["_law_script"] []
  g_law : mg "law" = some (.ref f_law)
  ox_BadNumber : OexC K c_BadNumber
  xn_BadNumber : PySem.W.findIn K (.ref c_BadNumber) "__init__" = some (some (.ref f_BadNumber_init))
  xt_BadNumber : PySem.W.typeIn K (.ref f_BadNumber_init) = some (.type "function")
  xf_BadNumber : XfC K c_BadNumber
  xi_BadNumber : XiC K c_BadNumber
  n_BadNumber_what : PySem.W.findIn K (.ref c_BadNumber) "what" = some none
  n_BadNumber_value : PySem.W.findIn K (.ref c_BadNumber) "value" = some none
  cl_Ratio : Cls K c_Ratio
  M_Ratio : Mk K c_Ratio f_Ratio_init
  oc_Ratio : OpC K c_Ratio
  ic_Ratio : InsC K c_Ratio
  n_Ratio_over : NoAttr K c_Ratio "over"
  n_Ratio_under : NoAttr K c_Ratio "under"
  cl_Chances : Cls K c_Chances
  M_Chances : Mk K c_Chances f_Chances_init
  oh_Chances_add : PySem.W.findIn K (.ref c_Chances) (PySem.dunder "add") = some (some (.ref f_Chances_add))
  oc_Chances : OpC K c_Chances
  ic_Chances : InsC K c_Chances
  n_Chances_ratios : NoAttr K c_Chances "ratios"
  n_Chances_scale : NoAttr K c_Chances "scale"
  n_Chances_counts : NoAttr K c_Chances "counts"
  ki_Ratio_Ratio : PySem.W.kitOne K (.ref c_Ratio) (.ref c_Ratio) = some true
  ki_Chances_Chances : PySem.W.kitOne K (.ref c_Chances) (.ref c_Chances) = some true
  ki_int_Ratio : PySem.W.kitOne K (.type "int") (.ref c_Ratio) = some false
  ki_bool_Ratio : PySem.W.kitOne K (.type "bool") (.ref c_Ratio) = some false
  ki_NoneType_Ratio : PySem.W.kitOne K (.type "NoneType") (.ref c_Ratio) = some false
  ki_str_Ratio : PySem.W.kitOne K (.type "str") (.ref c_Ratio) = some false
  ex_BadNumber_BadNumber : PySem.W.exmOne K (.ref c_BadNumber) (.ref c_BadNumber) = some true
  gi_gcd : mg "gcd" = some (.builtin "math.gcd")
  gt_MOST_COPIES : Tok
  gk_MOST_COPIES : mg "MOST_COPIES" = some (.int 8 gt_MOST_COPIES)
  gt_MOST_UNDER : Tok
  gk_MOST_UNDER : mg "MOST_UNDER" = some (.int 1000 gt_MOST_UNDER)
  m_abs : mg "abs" = none
  m_bool : mg "bool" = none
  m_int : mg "int" = none
  m_isinstance : mg "isinstance" = none
  m_iter : mg "iter" = none
  m_len : mg "len" = none
  m_list : mg "list" = none
  m_min : mg "min" = none
  m_range : mg "range" = none
  m_tuple : mg "tuple" = none

section
variable {P : Program} {w : World} {K : PySem.W.Frag} {mg : Str → Option Value} {base : Heap}
theorem ok_l_start (T : Ctx K mg) : FnOk P w K mg base CX0 1 T.f_l_start T.fd_l_start ["_law_script"] (spStart K) := by
  refine T.F_l_start.ok sc_l_start (fun vs H Q E h => ?_) (fun cdv A outer s H vs Q E hr h => ?_)
  · obtain ⟨l, ns, rfl, _⟩ := h
    rfl
  · obtain ⟨l, ns, rfl, hS, q⟩ := h
    refine ⟨_, (pss_cons (ps_set (i := 1) sc_l_start.nd rfl (Or.inl rfl) pe_int)
      (Evl.pss_cut (ps_if (pt_cmpR op_gt (pe_callB call_len_seq (by rfl) T.m_len (by decide +kernel) (pa_cons (pv 0) pa_nil)) pe_int (nomark _))
        (pss_one (ps_set (i := 1) sc_l_start.nd rfl (Or.inl rfl) (pe_ix ix_list (pv 0) pe_int (fun _ _ => rfl))))
        pss_nil)
      (pss_one (ps_ret (pe_lst (pa_cons (pe_callB call_abs (by rfl) T.m_abs (by decide +kernel) (pa_cons (pe_callTy call_int1 (by rfl) T.m_int (by decide +kernel) (pa_cons (pv 1) pa_nil)) pa_nil)) (pa_cons (pe_callTy call_int1 (by rfl) T.m_int (by decide +kernel) (pa_cons (pe_cmpR op_ge (pe_callB call_abs (by rfl) T.m_abs (by decide +kernel) (pa_cons (pe_callTy call_int1 (by rfl) T.m_int (by decide +kernel) (pa_cons (pv 1) pa_nil)) pa_nil)) (pe_op op_pow pe_int pe_int) (nomark _)) pa_nil)) (pa_cons pe_int (pa_cons pe_int pa_nil))))))))), ?_⟩
    refine ⟨fun σ' H' => H' = H ∧ ∃ z : Int, σ' = [some (.ref l), some (.int z)], ?_, ?_⟩
    · refine ⟨_, rfl, l, _, rfl, .inl hS, _, _, rfl, rfl, _, rfl, ?_⟩
      refine ite2 (fun hc => ?_) fun hc => ⟨rfl, 0, rfl⟩
      have hn : 0 < ns.length := by
        have := of_decide_eq_true hc
        rw [List.length_map] at this
        omega
      refine ⟨_, rfl, l, _, _, .int ns[0], rfl, rfl, hS, at_of (j := 0) rfl (by rw [List.getElem?_map, List.getElem?_eq_getElem hn]; rfl), ?_⟩
      exact ⟨rfl, _, rfl⟩
    · rintro σ' H' ⟨rfl, z, rfl⟩
      refine ⟨_, rfl, .inl ⟨_, rfl, _, rfl, ?_⟩⟩
      refine ⟨_, rfl, .inl ⟨_, rfl, _, rfl, _, _, rfl, rfl, ⟨by decide, by decide, by decide⟩, _, _, rfl, rfl, .inr ⟨_, rfl, ?_⟩⟩⟩
      refine ⟨by show 4 ≤ sizeLine; decide, fun t ht => ?_⟩
      exact q t _ ht ⟨⟨ns, hS⟩, ht, same_upd ht, ⟨_, _, _, _, upd_same⟩⟩ (But.refl.upd)
theorem ok_l_draw (T : Ctx K mg) : FnOk P w K mg base CX0 1 T.f_l_draw T.fd_l_draw ["_law_script", "_law_state", "_law_limit"] (spDraw K) := by
  refine T.F_l_draw.ok sc_l_draw (fun vs H Q E h => ?_) (fun cdv A outer s H vs Q E hr h => ?_)
  · obtain ⟨l, t, m, H0, rfl, _⟩ := h
    rfl
  · obtain ⟨l, t, m, H0, rfl, D, hm, hm2, q⟩ := h
    obtain ⟨a, b, c, d, ht⟩ := D.st
    have fin : ∀ (z : Int) H', But t H H' → Drw K H0 l t H' → Q (.int (z.fmod m)) H' := fun z H' e1 D' =>
      q _ _ (Int.fmod_nonneg_of_pos _ hm) (Int.fmod_lt_of_pos _ hm) e1 D'
    refine ⟨_, (pss_cons (ps_asg (pe_op op_add (pe_ix ix_list (pv 1) pe_int (fun _ _ => rfl)) pe_int) (pg_sub (pv 1) pe_int set_list))
      (Evl.pss_cut (ps_if (PW.pt (pw_and (pt_cmpR op_eq (pe_ix ix_list (pv 1) pe_int (fun _ _ => rfl)) pe_int (nomark _)) (pw_and1 (pt_cmpR op_gt (pe_ix ix_list (pv 1) pe_int (fun _ _ => rfl)) pe_int (nomark _)))))
        (pss_cons (ps_set (i := 3) sc_l_draw.nd rfl (Or.inl rfl) (pe_op op_modN (pe_callTy call_int1 (by rfl) T.m_int (by decide +kernel) (pa_cons (pe_ix ix_list (pv 1) pe_int (fun _ _ => rfl)) pa_nil)) (pv 2)))
        (pss_cons (ps_asg (pe_op op_fdivN (pe_ix ix_list (pv 1) pe_int (fun _ _ => rfl)) (pv 2)) (pg_sub (pv 1) pe_int set_list))
        (pss_one (ps_ret (pv 3)))))
        pss_nil)
      (pss_cons (ps_asg pe_int (pg_sub (pv 1) pe_int set_list))
      (pss_cons (ps_set (i := 4) sc_l_draw.nd rfl (Or.inl rfl) pe_int)
      (Evl.pss_cut (ps_if (pt_cmpR op_gt (pe_callB call_len_seq (by rfl) T.m_len (by decide +kernel) (pa_cons (pv 0) pa_nil)) pe_int (nomark _))
        (pss_one (ps_set (i := 4) sc_l_draw.nd rfl (Or.inl rfl) (pe_ix ix_list (pv 0) (pe_op op_modN (pe_callTy call_int1 (by rfl) T.m_int (by decide +kernel) (pa_cons (pe_ix ix_list (pv 1) pe_int (fun _ _ => rfl)) pa_nil)) (pe_callB call_len_seq (by rfl) T.m_len (by decide +kernel) (pa_cons (pv 0) pa_nil))) (fun _ _ => rfl))))
        pss_nil)
      (pss_cons (ps_asg (pe_op op_add (pe_ix ix_list (pv 1) pe_int (fun _ _ => rfl)) pe_int) (pg_sub (pv 1) pe_int set_list))
      (pss_cons (ps_set (i := 5) sc_l_draw.nd rfl (Or.inl rfl) (pe_op op_mul (pe_op op_mod (pe_callTy call_int1 (by rfl) T.m_int (by decide +kernel) (pa_cons (pe_ix ix_list (pv 1) pe_int (fun _ _ => rfl)) pa_nil)) pe_int) pe_int))
      (pss_cons (ps_set (i := 5) sc_l_draw.nd rfl (Or.inl rfl) (pe_op op_add (pe_op op_add (pe_op op_add (pv 5) (pe_op op_mod (pe_callTy call_int1 (by rfl) T.m_int (by decide +kernel) (pa_cons (pv 4) pa_nil)) pe_int)) (pe_op op_mul pe_int (pe_ix ix_list (pv 1) pe_int (fun _ _ => rfl)))) pe_int))
      (pss_cons (ps_asg (pe_op op_mod (pe_callTy call_int1 (by rfl) T.m_int (by decide +kernel) (pa_cons (pv 5) pa_nil)) pe_int) (pg_sub (pv 1) pe_int set_list))
      (pss_cons (ps_set (i := 5) sc_l_draw.nd rfl (Or.inl rfl) (pe_op op_mod (pe_callTy call_int1 (by rfl) T.m_int (by decide +kernel) (pa_cons (pe_op op_add (pe_op op_mul (pe_ix ix_list (pv 1) pe_int (fun _ _ => rfl)) pe_int) (pe_ix ix_list (pv 1) pe_int (fun _ _ => rfl))) pa_nil)) pe_int))
      (pss_one (ps_ret (pe_op op_modN (pe_callTy call_int1 (by rfl) T.m_int (by decide +kernel) (pa_cons (pe_op op_fdiv (pv 5) pe_int) pa_nil)) (pv 2)))))))))))))), ?_⟩
    -- state[3] = state[3] + 1
    refine ⟨_, rfl, t, _, _, _, rfl, rfl, SqL.of ht, at3, _, _, rfl, rfl, _, rfl, t, _, _, 3, rfl, rfl, ht, rfl, ?_⟩
    -- the first way
    refine ⟨fun σ' H' => σ' = [some (.ref l), some (.ref t), some (.int m), none, none, none] ∧ H' = upd H t (.lst [.int a, .int b, .int c, .int (d + 1)]), ?_, ?_⟩
    · refine ⟨_, rfl, t, _, _, _, rfl, rfl, SqL.of upd_same, at1, rfl, _, rfl, ?_⟩
      refine ite2 (fun hc => ?_) fun hc => iteF ⟨rfl, rfl⟩
      refine ⟨_, rfl, t, _, _, _, rfl, rfl, SqL.of upd_same, at0, _, _, rfl, rfl, _, rfl, ?_⟩
      refine ite2 (fun hc => ?_) fun hc => ⟨rfl, rfl⟩
      refine ⟨_, rfl, t, _, _, _, rfl, rfl, SqL.of upd_same, at0, .inl ⟨_, rfl, _, rfl, _, _, rfl, rfl, by omega, ?_⟩⟩
      refine ⟨_, rfl, t, _, _, _, rfl, rfl, SqL.of upd_same, at0, _, rfl, _, _, rfl, rfl, ⟨by omega, by omega⟩, _, rfl, t, _, _, 0, rfl, rfl, upd_same, rfl, ?_⟩
      exact ⟨_, rfl, fin _ _ (But.refl.upd.upd) (D.upd.upd)⟩
    · rintro σ' H' ⟨rfl, rfl⟩
      -- state[1] = 0; cell = 0
      refine ⟨_, rfl, t, _, _, 1, rfl, rfl, upd_same, rfl, ?_⟩
      have e1 : upd (upd H t (.lst [.int a, .int b, .int c, .int (d + 1)])) t (.lst ([V.int a, .int b, .int c, .int (d + 1)].set 1 (.int 0))) = upd H t (.lst [.int a, .int 0, .int c, .int (d + 1)]) := upd_upd
      rw [e1]
      have D1 : Drw K H0 l t (upd H t (.lst [.int a, .int 0, .int c, .int (d + 1)])) := D.upd
      obtain ⟨ns, hS⟩ := D1.sc
      refine ⟨fun σ' H' => H' = upd H t (.lst [.int a, .int 0, .int c, .int (d + 1)]) ∧ ∃ z : Int, σ' = [some (.ref l), some (.ref t), some (.int m), none, some (.int z), none], ?_, ?_⟩
      · refine ⟨_, rfl, l, _, rfl, .inl hS, _, _, rfl, rfl, _, rfl, ?_⟩
        refine ite2 (fun hc => ?_) fun hc => ⟨rfl, 0, rfl⟩
        have hn : 0 < ns.length := by
          have := of_decide_eq_true hc
          rw [List.length_map] at this
          omega
        have hn' : (0 : Int) < (((ns.map V.int).length : Nat) : Int) := by
          rw [List.length_map]
          omega
        have h0 := Int.fmod_nonneg_of_pos c hn'
        have h1 := Int.fmod_lt_of_pos c hn'
        rw [List.length_map] at h1
        have hj : (c.fmod ((ns.map V.int).length : Nat)).toNat < ns.length := by
          rw [List.length_map] at h0 ⊢
          omega
        refine ⟨_, rfl, _, rfl, t, _, _, _, rfl, rfl, SqL.of upd_same, at2, .inl ⟨_, rfl, _, rfl, l, _, rfl, .inl hS, _, _, rfl, rfl, by omega, ?_⟩⟩
        refine ⟨l, _, _, .int ns[(c.fmod ((ns.map V.int).length : Nat)).toNat], rfl, rfl, hS, at_of (j := (c.fmod ((ns.map V.int).length : Nat)).toNat) (by omega) (by rw [List.getElem?_map, List.getElem?_eq_getElem hj]; rfl), ?_⟩
        exact ⟨rfl, _, rfl⟩
      · rintro σ' H' ⟨rfl, z, rfl⟩
        -- state[2] = state[2] + 1
        refine ⟨_, rfl, t, _, _, _, rfl, rfl, SqL.of upd_same, at2, _, _, rfl, rfl, _, rfl, t, _, _, 2, rfl, rfl, upd_same, rfl, ?_⟩
        have e2 : upd (upd H t (.lst [.int a, .int 0, .int c, .int (d + 1)])) t (.lst ([V.int a, .int 0, .int c, .int (d + 1)].set 2 (.int (c + 1)))) = upd H t (.lst [.int a, .int 0, .int (c + 1), .int (d + 1)]) := upd_upd
        rw [e2]
        have hb := Int.emod_nonneg a (b := 2147483647) (by decide)
        have hb2 := Int.emod_lt_of_pos a (b := 2147483647) (by decide)
        refine ⟨_, rfl, t, _, _, _, rfl, rfl, SqL.of upd_same, at0, .inl ⟨_, rfl, _, _, rfl, rfl, (show (0 : Int) < 2147483647 by decide), _, _, rfl, rfl, .inl ⟨by omega, by omega⟩, ?_⟩⟩
        refine ⟨_, rfl, _, rfl, .inl ⟨_, rfl, _, _, rfl, rfl, (show (0 : Int) < 2147483629 by decide), _, _, rfl, rfl, _, rfl, t, _, _, _, rfl, rfl, SqL.of upd_same, at3, _, _, rfl, rfl, .inl ⟨by decide, by decide⟩, _, _, rfl, rfl, _, _, rfl, rfl, ?_⟩⟩
        refine ⟨_, rfl, .inl ⟨_, rfl, _, _, rfl, rfl, (show (0 : Int) < 2147483647 by decide), _, rfl, t, _, _, 0, rfl, rfl, upd_same, rfl, ?_⟩⟩
        generalize hw : (a % 2147483647 * 48271 + z % 2147483629 + 7 * (d + 1) + 11) = w'
        have e3 : upd (upd H t (.lst [.int a, .int 0, .int (c + 1), .int (d + 1)])) t (.lst ([V.int a, .int 0, .int (c + 1), .int (d + 1)].set 0 (.int (w' % 2147483647)))) = upd H t (.lst [.int (w' % 2147483647), .int 0, .int (c + 1), .int (d + 1)]) := upd_upd
        rw [e3]
        have hc := Int.emod_nonneg w' (b := 2147483647) (by decide)
        have hc2 := Int.emod_lt_of_pos w' (b := 2147483647) (by decide)
        refine ⟨_, rfl, t, _, _, _, rfl, rfl, SqL.of upd_same, at0, _, _, rfl, rfl, .inl ⟨by omega, by omega⟩, _, rfl, t, _, _, _, rfl, rfl, SqL.of upd_same, at3, _, _, rfl, rfl, .inl ⟨_, rfl, _, _, rfl, rfl, (show (0 : Int) < 2147483629 by decide), ?_⟩⟩
        refine ⟨_, rfl, _, _, rfl, rfl, ⟨by decide, by decide⟩, .inl ⟨_, rfl, _, rfl, _, _, rfl, rfl, by omega, ?_⟩⟩
        exact fin _ _ But.refl.upd D.upd
end
section
variable {P : Program} {w : World} {K : PySem.W.Frag} {mg : Str → Option Value} {base : Heap}
theorem ok_BadNumber_init (T : Ctx K mg) : FnOk P w K mg base CX0 1 T.f_BadNumber_init T.fd_BadNumber_init ["self", "what", "value"] (spX2 T.c_BadNumber "what" "value") := by
  refine T.F_BadNumber_init.ok sc_BadNumber_init (fun vs H Q E h => ?_) (fun cdv A outer s H vs Q E hr h => ?_)
  · obtain ⟨a, x, y, rfl, _⟩ := h
    rfl
  · obtain ⟨a, x, y, rfl, ha, q⟩ := h
    refine ⟨_, (pss_cons (ps_ost (pv 0) (pv 1))
      (pss_one (ps_ost (pv 0) (pv 2)))), ?_⟩
    refine ⟨_, rfl, _, rfl, a, T.c_BadNumber, rfl, T.ox_BadNumber, T.n_BadNumber_what, .inl ⟨ha, fun d hd hda => ?_⟩⟩
    refine ⟨_, rfl, _, rfl, a, T.c_BadNumber, rfl, T.ox_BadNumber, T.n_BadNumber_value, .inr ⟨d, [("what", x)], upd_same, ?_, by show 1 ≤ 900; decide, ?_⟩⟩
    · rw [upd_ne hda, upd_same]
    · exact q d hd hda
theorem ok_is_integer (T : Ctx K mg) : FnOk P w K mg base CX0 1 T.f_is_integer T.fd_is_integer ["value"] (spIsInt K) := by
  refine T.F_is_integer.ok sc_is_integer (fun vs H Q E h => ?_) (fun cdv A outer s H vs Q E hr h => ?_)
  · obtain ⟨x, rfl, _⟩ := h
    rfl
  · obtain ⟨x, rfl, ⟨t, b1, b2, ty, k1, k2, e⟩, q⟩ := h
    refine ⟨_, (pss_one (ps_ret (pe_and (pe_callB call_isi (by rfl) T.m_isinstance (by decide +kernel) (pa_cons (pv 0) (pa_cons (pe_bltn (v := .ty "int") (by rfl) T.m_int (by decide +kernel) rfl) pa_nil))) (pe_one (pe_not (pe_callB call_isi (by rfl) T.m_isinstance (by decide +kernel) (pa_cons (pv 0) (pa_cons (pe_bltn (v := .ty "bool") (by rfl) T.m_bool (by decide +kernel) rfl) pa_nil)))))))), ?_⟩
    refine ⟨_, rfl, _, _, _, _, _, rfl, .ty _, ty, k1, b1, rfl, ?_⟩
    rw [← e] at q
    cases b1 with
    | false => exact iteF q
    | true => exact iteT ⟨_, rfl, _, _, _, _, _, rfl, .ty _, ty, k2 rfl, b2, rfl, q⟩
theorem ok_check_number (T : Ctx K mg) : FnOk P w K mg base (L2.CX P w) 3 T.f_check_number T.fd_check_number ["what", "value", "low", "high"] (spCheck K T.c_BadNumber) := by
  refine T.F_check_number.okX sc_check_number (fun vs H Q E h => ?_) (fun cdv A outer s H vs Q E hr h => ?_)
  · obtain ⟨w, x, lo, hi, rfl, _⟩ := h
    rfl
  · obtain ⟨w, x, lo, hi, rfl, kn, q1, q2⟩ := h
    refine ⟨_, (pss_cons (ps_if (pt_not (pt_val (pe_call (ok_is_integer T) (hr.mono (by decide)) (by rfl) T.g_is_integer T.F_is_integer.kp T.b_is_integer .nil pass0 (pa_cons (pv 1) pa_nil))))
        (pss_one (ps_raise rfl (takes_of rfl rfl rfl rfl) (pmk_oex T.ox_BadNumber T.xn_BadNumber T.xt_BadNumber (ok_BadNumber_init T) (hr.mono (by decide)) T.b_BadNumber_init .nil pass0 (by rfl) T.gc_BadNumber (pa_cons (pv 0) (pa_cons (pv 1) pa_nil)))))
        pss_nil)
      (Evl.pss_cut (ps_if (PW.pt (pw_and (pt_cmpR op_notN (pv 2) pe_non (nomark _)) (pw_and1 (pt_cmpR op_lt (pv 1) (pv 2) (nomark _)))))
        (pss_one (ps_raise rfl (takes_of rfl rfl rfl rfl) (pmk_oex T.ox_BadNumber T.xn_BadNumber T.xt_BadNumber (ok_BadNumber_init T) (hr.mono (by decide)) T.b_BadNumber_init .nil pass0 (by rfl) T.gc_BadNumber (pa_cons (pv 0) (pa_cons (pv 1) pa_nil)))))
        pss_nil)
      (Evl.pss_cut (ps_if (PW.pt (pw_and (pt_cmpR op_notN (pv 3) pe_non (nomark _)) (pw_and1 (pt_cmpR op_gt (pv 1) (pv 3) (nomark _)))))
        (pss_one (ps_raise rfl (takes_of rfl rfl rfl rfl) (pmk_oex T.ox_BadNumber T.xn_BadNumber T.xt_BadNumber (ok_BadNumber_init T) (hr.mono (by decide)) T.b_BadNumber_init .nil pass0 (by rfl) T.gc_BadNumber (pa_cons (pv 0) (pa_cons (pv 1) pa_nil)))))
        pss_nil)
      (pss_one (ps_ret (pv 1)))))), ?_⟩
    refine ⟨_, rfl, x, rfl, kn, _, rfl, ?_⟩
    cases x with
    | int i =>
      refine iteF ?_
      refine ⟨fun σ' H' => σ' = [some (.str w), some (.int i), some (oV lo), some (oV hi)] ∧ H' = H ∧ lo.all (fun l => decide (l ≤ i)) = true, ?_, ?_⟩
      · cases lo with
        | none => exact ⟨_, rfl, rfl, _, rfl, iteF ⟨rfl, rfl, rfl⟩⟩
        | some l =>
          refine ⟨_, rfl, rfl, _, rfl, iteT ⟨_, rfl, _, rfl, _, _, rfl, rfl, _, rfl, ?_⟩⟩
          refine ite2 (fun hc => ?_) fun hc => ⟨rfl, rfl, ?_⟩
          · have hlt := of_decide_eq_true hc
            refine ⟨_, rfl, _, rfl, mk2 (q2 ?_)⟩
            have z : decide (l ≤ i) = false := decide_eq_false (by omega)
            simp [good, z]
          · have hlt := of_decide_eq_false (Bool.eq_false_iff.mpr hc)
            exact decide_eq_true (show l ≤ i by omega)
      · rintro σ' H' ⟨rfl, rfl, hlo⟩
        refine ⟨fun σ' H'' => σ' = [some (.str w), some (.int i), some (oV lo), some (oV hi)] ∧ H'' = H' ∧ hi.all (fun h => decide (i ≤ h)) = true, ?_, ?_⟩
        · cases hi with
          | none => exact ⟨_, rfl, rfl, _, rfl, iteF ⟨rfl, rfl, rfl⟩⟩
          | some l =>
            refine ⟨_, rfl, rfl, _, rfl, iteT ⟨_, rfl, _, rfl, _, _, rfl, rfl, _, rfl, ?_⟩⟩
            refine ite2 (fun hc => ?_) fun hc => ⟨rfl, rfl, ?_⟩
            · have hlt := of_decide_eq_true hc
              refine ⟨_, rfl, _, rfl, mk2 (q2 ?_)⟩
              have z : decide (i ≤ l) = false := decide_eq_false (by omega)
              simp [good, z]
            · have hlt := of_decide_eq_false (Bool.eq_false_iff.mpr hc)
              exact decide_eq_true (show i ≤ l by omega)
        · rintro σ' H'' ⟨rfl, rfl, hhi⟩
          refine ⟨_, rfl, q1 ?_⟩
          show (lo.all (fun l => decide (l ≤ i)) && hi.all (fun h => decide (i ≤ h))) = true
          rw [hlo, hhi] <;> rfl
    | _ => exact iteT ⟨_, rfl, _, rfl, mk2 (q2 rfl)⟩
end
section
variable {P : Program} {w : World} {K : PySem.W.Frag} {mg : Str → Option Value} {base : Heap}
theorem ok_check_copies (T : Ctx K mg) : FnOk P w K mg base (L2.CX P w) 4 T.f_check_copies T.fd_check_copies ["copies"] (spCopies K T.c_BadNumber) := by
  refine T.F_check_copies.okX sc_check_copies (fun vs H Q E h => ?_) (fun cdv A outer s H vs Q E hr h => ?_)
  · obtain ⟨x, rfl, _⟩ := h
    rfl
  · obtain ⟨x, rfl, kn, k1, k2⟩ := h
    refine ⟨_, (pss_one (ps_ret (pe_call (ok_check_number T) (hr.mono (by decide)) (by rfl) T.g_check_number T.F_check_number.kp T.b_check_number .nil (passes_call (takes_of rfl rfl rfl rfl) (fun _ _ _ _ h => h)) (pa_cons pe_str (pa_cons (pv 0) (pa_cons pe_int (pa_cons (pe_glob (v := .int 8) (by rfl) T.gk_MOST_COPIES ⟨_, rfl⟩) pa_nil))))))), ?_⟩
    exact ⟨_, rfl, "copies", x, some 1, some 8, rfl, kn, k1, k2⟩
theorem ok_check_copy (T : Ctx K mg) : FnOk P w K mg base (L2.CX P w) 4 T.f_check_copy T.fd_check_copy ["copies", "copy"] (spCopy K T.c_BadNumber) := by
  refine T.F_check_copy.okX sc_check_copy (fun vs H Q E h => ?_) (fun cdv A outer s H vs Q E hr h => ?_)
  · obtain ⟨n, x, rfl, _⟩ := h
    rfl
  · obtain ⟨n, x, rfl, kn, k1, k2⟩ := h
    refine ⟨_, (pss_one (ps_ret (pe_call (ok_check_number T) (hr.mono (by decide)) (by rfl) T.g_check_number T.F_check_number.kp T.b_check_number .nil (passes_call (takes_of rfl rfl rfl rfl) (fun _ _ _ _ h => h)) (pa_cons pe_str (pa_cons (pv 1) (pa_cons pe_int (pa_cons (pe_op op_sub (pv 0) pe_int) pa_nil))))))), ?_⟩
    exact ⟨_, rfl, _, rfl, _, _, rfl, rfl, "copy", x, some 0, some ((n : Int) - 1), rfl, kn, k1, k2⟩
end
section
variable {P : Program} {w : World} {K : PySem.W.Frag} {mg : Str → Option Value} {base : Heap}
theorem ok_Ratio_init (T : Ctx K mg) : FnOk P w K mg base (L2.CX P w) 4 T.f_Ratio_init T.fd_Ratio_init ["self", "over", "under"] (spInit K T.c_Ratio T.c_BadNumber) := by
  refine T.F_Ratio_init.ok (CX := L2.CX P w) sc_Ratio_init (fun vs H Q E h => ?_) (fun cdv A outer s H vs Q E hr h => ?_)
  · obtain ⟨a, dx, x, y, rfl, _⟩ := h
    rfl
  · obtain ⟨a, dx, x, y, rfl, ha, kx, ky, hok, hbad⟩ := h
    refine ⟨_, (pss_cons (ps_expr (pe_call (ok_check_number T) (hr.mono (by decide)) (by rfl) T.g_check_number T.F_check_number.kp T.b_check_number .nil (passes_call (takes_of rfl rfl rfl rfl) (fun _ _ _ _ h => h)) (pa_cons pe_str (pa_cons (pv 1) (pa_cons pe_non (pa_cons pe_non pa_nil))))))
      (pss_cons (ps_expr (pe_call (ok_check_number T) (hr.mono (by decide)) (by rfl) T.g_check_number T.F_check_number.kp T.b_check_number .nil (passes_call (takes_of rfl rfl rfl rfl) (fun _ _ _ _ h => h)) (pa_cons pe_str (pa_cons (pv 2) (pa_cons pe_non (pa_cons pe_non pa_nil))))))
      (pss_cons (ps_if (pt_cmpR op_eq (pv 2) pe_int (nomark _))
        (pss_one (ps_raise rfl (takes_of rfl rfl rfl rfl) (pmk_oex T.ox_BadNumber T.xn_BadNumber T.xt_BadNumber (ok_BadNumber_init T) (hr.mono (by decide)) T.b_BadNumber_init .nil pass0 (by rfl) T.gc_BadNumber (pa_cons pe_str (pa_cons (pv 2) pa_nil)))))
        pss_nil)
      (pss_cons (ps_set (i := 3) sc_Ratio_init.nd rfl (Or.inl rfl) (pe_callBfun cr_gcd (by rfl) T.gi_gcd (pa_cons (pv 1) (pa_cons (pv 2) pa_nil))))
      (Evl.pss_cut (ps_if (pt_cmpR op_lt (pv 2) pe_int (nomark _))
        (pss_one (ps_set (i := 3) sc_Ratio_init.nd rfl (Or.inl rfl) (pe_un un_neg (pv 3))))
        pss_nil)
      (pss_cons (ps_fld (pv 0) (pe_op op_fdivZ (pv 1) (pv 3)) rfl)
      (pss_one (ps_fld (pv 0) (pe_op op_fdivZ (pv 2) (pv 3)) rfl)))))))), ?_⟩
    -- check_number("over", over)
    refine ⟨_, rfl, "over", x, none, none, rfl, kx, fun hg => ?_, fun hg => ?_⟩
    · obtain ⟨O, rfl⟩ : ∃ O, x = .int O := by
        cases x with
        | int i => exact ⟨i, rfl⟩
        | _ => cases hg
      refine ⟨_, rfl, "under", y, none, none, rfl, ky, fun hg2 => ?_, fun hg2 => ?_⟩
      · obtain ⟨U, rfl⟩ : ∃ U, y = .int U := by
          cases y with
          | int i => exact ⟨i, rfl⟩
          | _ => cases hg2
        refine ⟨_, rfl, rfl, _, rfl, ite2 (fun hc => ?_) fun hc => ?_⟩
        · have e0 : V.int U = .int 0 := of_decide_eq_true hc
          cases e0
          exact ⟨_, rfl, mk2 (hbad "under" (.int 0) (.inr (.inr ⟨rfl, rfl, rfl, rfl⟩)))⟩
        · have hU : U ≠ 0 := fun z => hc (decide_eq_true (by rw [z]))
          obtain ⟨hz, k⟩ := hok O U rfl rfl hU
          obtain ⟨h1, h2, h3⟩ := nf_make (O := O) hU rfl
          refine ⟨_, rfl, _, rfl, O, U, rfl, ?_⟩
          refine ⟨fun σ' H' => H' = H ∧ σ' = [some (.ref a), some (.int O), some (.int U), some (.int (if U < 0 then -((Nat.gcd O.natAbs U.natAbs : Nat) : Int) else ((Nat.gcd O.natAbs U.natAbs : Nat) : Int)))], ?_, ?_⟩
          · refine ⟨_, rfl, _, _, rfl, rfl, _, rfl, ite2 (fun hn => ?_) fun hn => ?_⟩
            · have hn' := of_decide_eq_true hn
              rw [if_pos hn']
              exact ⟨_, rfl, _, rfl, rfl, rfl⟩
            · have hn' := of_decide_eq_false (Bool.eq_false_iff.mpr hn)
              rw [if_neg hn']
              exact ⟨rfl, rfl⟩
          · rintro σ' H' ⟨rfl, rfl⟩
            have hl : (if U < 0 then -((Nat.gcd O.natAbs U.natAbs : Nat) : Int) else ((Nat.gcd O.natAbs U.natAbs : Nat) : Int)).natAbs.log2 < 9000 := log2_le h2 h1 hz
            refine ⟨_, rfl, _, rfl, _, _, rfl, rfl, ⟨h1, hl⟩, _, rfl, a, T.c_Ratio, dx, [], rfl, ha, T.cl_Ratio, T.n_Ratio_over, (by show 0 < 1000; decide), ?_⟩
            refine ⟨_, rfl, _, rfl, _, _, rfl, rfl, ⟨h1, hl⟩, _, rfl, a, T.c_Ratio, dx, _, rfl, upd_same, T.cl_Ratio, T.n_Ratio_under, (by show 1 < 1000; decide), ?_⟩
            exact k _ _ _ h3 upd_same fun b o e hb => by rw [upd_ne hb, upd_ne hb]; exact e
      · exact hbad "under" y (.inr (.inl ⟨rfl, by
          cases y with
          | int i => cases hg2
          | _ => rfl, rfl, rfl⟩))
    · exact hbad "over" x (.inl ⟨by
        cases x with
        | int i => cases hg
        | _ => rfl, rfl, rfl⟩)
theorem ok_ratio_of (T : Ctx K mg) : FnOk P w K mg base CX0 6 T.f_ratio_of T.fd_ratio_of ["value"] (spRatioOf T.c_Ratio) := by
  refine T.F_ratio_of.ok sc_ratio_of (fun vs H Q E h => ?_) (fun cdv A outer s H vs Q E hr h => ?_)
  · obtain ⟨x, p, q, rfl, _⟩ := h
    rfl
  · obtain ⟨x, p, q, rfl, hx, k⟩ := h
    refine ⟨_, (pss_cons (ps_if (pt_val (pe_callB call_isi (by rfl) T.m_isinstance (by decide +kernel) (pa_cons (pv 0) (pa_cons (pe_glob (v := .ref T.c_Ratio) (by rfl) T.gc_Ratio rfl) pa_nil))))
        (pss_one (ps_ret (pv 0)))
        pss_nil)
      (pss_cons (ps_if (pt_val (pe_call (ok_is_integer T) (hr.mono (by decide)) (by rfl) T.g_is_integer T.F_is_integer.kp T.b_is_integer .nil pass0 (pa_cons (pv 0) pa_nil)))
        (pss_one (ps_ret (pe_make T.M_Ratio (ok_Ratio_init T) (hr.mono (by decide)) (by rfl) T.gc_Ratio T.b_Ratio_init1 T.v_Ratio_init1 passL (pa_cons (pv 0) pa_nil))))
        pss_nil)
      (pss_one (ps_ret pe_non)))), ?_⟩
    cases hx with
    | rat R => exact ⟨_, rfl, _, _, _, _, true, rfl, .own _, R.ty T.ic_Ratio, T.ki_Ratio_Ratio, true, rfl, iteT ⟨_, rfl, k _ _ (Same.refl _) R⟩⟩
    | int =>
      refine ⟨_, rfl, _, _, _, _, false, rfl, .own _, .base (.int _), T.ki_int_Ratio, false, rfl, iteF ?_⟩
      exact ⟨_, rfl, _, rfl, kn_int _, true, rfl, iteT ⟨_, rfl, mk_ratio1 fun r H' sm R => k _ H' sm R⟩⟩
theorem ok_Ratio_eq (T : Ctx K mg) : FnOk P w K mg base CX0 1 T.f_Ratio_eq T.fd_Ratio_eq ["self", "other"] (spEqR K T.c_Ratio) := by
  refine T.F_Ratio_eq.ok sc_Ratio_eq (fun vs H Q E h => ?_) (fun cdv A outer s H vs Q E hr h => ?_)
  · obtain ⟨x, y, p, q, rfl, _⟩ := h
    rfl
  · obtain ⟨x, y, p, q, rfl, R, h⟩ := h
    refine ⟨_, (pss_one (ps_ret (pe_and (pe_callB call_isi (by rfl) T.m_isinstance (by decide +kernel) (pa_cons (pv 1) (pa_cons (pe_glob (v := .ref T.c_Ratio) (by rfl) T.gc_Ratio rfl) pa_nil))) (pe_and (pe_cmpR op_eq (pe_fld (pv 0) rfl) (pe_fld (pv 1) rfl) (nomark _)) (pe_one (pe_cmpR op_eq (pe_fld (pv 0) rfl) (pe_fld (pv 1) rfl) (nomark _))))))), ?_⟩
    obtain ⟨⟨a, dx, rfl, ha⟩, _⟩ := id R
    rcases h with ⟨p', q', R', k⟩ | ⟨t, ty, hk, k⟩
    · obtain ⟨⟨b, dy, rfl, hb⟩, _⟩ := id R'
      refine ⟨_, rfl, _, _, _, _, true, rfl, .own _, R'.ty T.ic_Ratio, T.ki_Ratio_Ratio, true, rfl, iteT ?_⟩
      refine ⟨_, rfl, a, T.c_Ratio, dx, _, _, rfl, ha, T.cl_Ratio, T.n_Ratio_over, rfR_over _ _, _, rfl, b, T.c_Ratio, dy, _, _, rfl, hb, T.cl_Ratio, T.n_Ratio_over, rfR_over _ _, rfl, decide (p = p'), congrArg V.bl ?_, ?_⟩
      · by_cases e : p = p'
        · subst e
          simp
        · rw [decide_eq_false e]
          exact decide_eq_false fun z => e (by injection z)
      · by_cases e : p = p'
        · rw [decide_eq_true e]
          rw [decide_eq_true e] at k
          refine iteT ⟨_, rfl, a, T.c_Ratio, dx, _, _, rfl, ha, T.cl_Ratio, T.n_Ratio_under, rfR_under _ _, _, rfl, b, T.c_Ratio, dy, _, _, rfl, hb, T.cl_Ratio, T.n_Ratio_under, rfR_under _ _, rfl, ?_⟩
          have e2 : decide (V.int q = V.int q') = decide (q = q') := by
            by_cases e : q = q'
            · subst e
              simp
            · rw [decide_eq_false e]
              exact decide_eq_false fun z => e (by injection z)
          rw [e2]
          exact k
        · rw [decide_eq_false e]
          rw [decide_eq_false e] at k
          exact iteF k
    · exact ⟨_, rfl, _, _, _, _, false, rfl, .own _, ty, hk, false, rfl, iteF k⟩
end
section
variable {P : Program} {w : World} {K : PySem.W.Frag} {mg : Str → Option Value} {base : Heap}
theorem ok_Ratio_half (T : Ctx K mg) : FnOk P w K mg base CX0 6 T.f_Ratio_half T.fd_Ratio_half [] (spHalf T.c_Ratio) := by
  refine T.F_Ratio_half.ok sc_Ratio_half (fun vs H Q E h => ?_) (fun cdv A outer s H vs Q E hr h => ?_)
  · obtain ⟨rfl, _⟩ := h
    rfl
  · obtain ⟨rfl, k⟩ := h
    refine ⟨_, (pss_one (ps_ret (pe_make T.M_Ratio (ok_Ratio_init T) (hr.mono (by decide)) (by rfl) T.gc_Ratio T.b_Ratio_init2 T.v_Ratio_init2 passL (pa_cons pe_int (pa_cons pe_int pa_nil))))), ?_⟩
    refine mk_ratio (by decide) (by decide) fun r p q H7 s7 R nf => ?_
    obtain ⟨rfl, rfl⟩ := nf.unique (by decide) (nf_self (p := 1) (q := 2) (by decide) (by decide))
    exact k _ _ s7 R
end
section
variable {P : Program} {w : World} {K : PySem.W.Frag} {mg : Str → Option Value} {base : Heap}
theorem ok_Ratio_lt (T : Ctx K mg) : FnOk P w K mg base CX0 7 T.f_Ratio_lt T.fd_Ratio_lt ["self", "other"] (spOrd T.c_Ratio fun x y => decide (x < y)) := by
  refine T.F_Ratio_lt.ok sc_Ratio_lt (fun vs H Q E h => ?_) (fun cdv A outer s H vs Q E hr h => ?_)
  · obtain ⟨x, y, p1, q1, p2, q2, n, rfl, _⟩ := h
    rfl
  · obtain ⟨x, y, p1, q1, p2, q2, n, rfl, R, N, z1, z2, n0, n1, k⟩ := h
    refine ⟨_, (pss_cons (ps_set (i := 2) sc_Ratio_lt.nd rfl (Or.inl rfl) (pe_call (ok_ratio_of T) (hr.mono (by decide)) (by rfl) T.g_ratio_of T.F_ratio_of.kp T.b_ratio_of .nil pass0 (pa_cons (pv 1) pa_nil)))
      (pss_cons (ps_if (pt_cmpR op_isN (pv 2) pe_non (nomark _))
        (pss_one ps_never)
        pss_nil)
      (pss_one (ps_ret (pe_cmpR op_lt (pe_op op_mulW (pe_fld (pv 0) rfl) (pe_fld (pv 2) rfl)) (pe_op op_mulW (pe_fld (pv 2) rfl) (pe_fld (pv 0) rfl)) (nomark _)))))), ?_⟩
    refine ⟨_, rfl, y, p2, q2, rfl, N, fun r H' sm R2 => ?_⟩
    obtain ⟨⟨b, dy, rfl, hb⟩, _⟩ := id R2
    obtain ⟨⟨a, dx, rfl, ha⟩, _⟩ := (R.same sm)
    refine ⟨_, rfl, rfl, _, rfl, iteF ?_⟩
    refine ⟨_, rfl, a, T.c_Ratio, dx, _, _, rfl, ha, T.cl_Ratio, T.n_Ratio_over, rfR_over _ _, _, rfl, b, T.c_Ratio, dy, _, _, rfl, hb, T.cl_Ratio, T.n_Ratio_under, rfR_under _ _, _, _, rfl, rfl, sz_mul z1.1 z2.2 n0 n1, ?_⟩
    refine ⟨_, rfl, b, T.c_Ratio, dy, _, _, rfl, hb, T.cl_Ratio, T.n_Ratio_over, rfR_over _ _, _, rfl, a, T.c_Ratio, dx, _, _, rfl, ha, T.cl_Ratio, T.n_Ratio_under, rfR_under _ _, _, _, rfl, rfl, sz_mul z2.1 z1.2 n0 n1, ?_⟩
    exact ⟨_, _, rfl, rfl, k _ sm⟩
theorem ok_Ratio_ge (T : Ctx K mg) : FnOk P w K mg base CX0 7 T.f_Ratio_ge T.fd_Ratio_ge ["self", "other"] (spOrd T.c_Ratio fun x y => decide (y ≤ x)) := by
  refine T.F_Ratio_ge.ok sc_Ratio_ge (fun vs H Q E h => ?_) (fun cdv A outer s H vs Q E hr h => ?_)
  · obtain ⟨x, y, p1, q1, p2, q2, n, rfl, _⟩ := h
    rfl
  · obtain ⟨x, y, p1, q1, p2, q2, n, rfl, R, N, z1, z2, n0, n1, k⟩ := h
    refine ⟨_, (pss_cons (ps_set (i := 2) sc_Ratio_ge.nd rfl (Or.inl rfl) (pe_call (ok_ratio_of T) (hr.mono (by decide)) (by rfl) T.g_ratio_of T.F_ratio_of.kp T.b_ratio_of .nil pass0 (pa_cons (pv 1) pa_nil)))
      (pss_cons (ps_if (pt_cmpR op_isN (pv 2) pe_non (nomark _))
        (pss_one ps_never)
        pss_nil)
      (pss_one (ps_ret (pe_cmpR op_ge (pe_op op_mulW (pe_fld (pv 0) rfl) (pe_fld (pv 2) rfl)) (pe_op op_mulW (pe_fld (pv 2) rfl) (pe_fld (pv 0) rfl)) (nomark _)))))), ?_⟩
    refine ⟨_, rfl, y, p2, q2, rfl, N, fun r H' sm R2 => ?_⟩
    obtain ⟨⟨b, dy, rfl, hb⟩, _⟩ := id R2
    obtain ⟨⟨a, dx, rfl, ha⟩, _⟩ := (R.same sm)
    refine ⟨_, rfl, rfl, _, rfl, iteF ?_⟩
    refine ⟨_, rfl, a, T.c_Ratio, dx, _, _, rfl, ha, T.cl_Ratio, T.n_Ratio_over, rfR_over _ _, _, rfl, b, T.c_Ratio, dy, _, _, rfl, hb, T.cl_Ratio, T.n_Ratio_under, rfR_under _ _, _, _, rfl, rfl, sz_mul z1.1 z2.2 n0 n1, ?_⟩
    refine ⟨_, rfl, b, T.c_Ratio, dy, _, _, rfl, hb, T.cl_Ratio, T.n_Ratio_over, rfR_over _ _, _, rfl, a, T.c_Ratio, dx, _, _, rfl, ha, T.cl_Ratio, T.n_Ratio_under, rfR_under _ _, _, _, rfl, rfl, sz_mul z2.1 z1.2 n0 n1, ?_⟩
    exact ⟨_, _, rfl, rfl, k _ sm⟩
end
section
variable {P : Program} {w : World} {K : PySem.W.Frag} {mg : Str → Option Value} {base : Heap}
theorem ok_is_short (T : Ctx K mg) : FnOk P w K mg base CX0 1 T.f_is_short T.fd_is_short ["value"] (spShort K T.c_Ratio) := by
  refine T.F_is_short.ok sc_is_short (fun vs H Q E h => ?_) (fun cdv A outer s H vs Q E hr h => ?_)
  · obtain ⟨x, rfl, _⟩ := h
    rfl
  · obtain ⟨x, rfl, h⟩ := h
    refine ⟨_, (pss_one (ps_ret (pe_and (pe_callB call_isi (by rfl) T.m_isinstance (by decide +kernel) (pa_cons (pv 0) (pa_cons (pe_glob (v := .ref T.c_Ratio) (by rfl) T.gc_Ratio rfl) pa_nil))) (pe_one (pe_cmpR op_le (pe_fld (pv 0) rfl) (pe_glob (v := .int 1000) (by rfl) T.gk_MOST_UNDER ⟨_, rfl⟩) (nomark _)))))), ?_⟩
    rcases h with ⟨p, q, R, k⟩ | ⟨⟨t, ty, hk⟩, k⟩
    · have R' := R
      obtain ⟨⟨a, dx, rfl, ha⟩, h1, h2⟩ := R
      exact ⟨_, rfl, _, _, _, _, true, rfl, .own _, R'.ty T.ic_Ratio, T.ki_Ratio_Ratio, true, rfl, iteT ⟨_, rfl, a, T.c_Ratio, dx, _, _, rfl, ha, T.cl_Ratio, T.n_Ratio_under, rfR_under _ _, _, _, rfl, rfl, k⟩⟩
    · refine ⟨_, rfl, _, _, _, _, false, rfl, .own _, ty, hk, false, rfl, iteF k⟩
theorem ok_check_chance (T : Ctx K mg) : FnOk P w K mg base (L2.CX P w) 9 T.f_check_chance T.fd_check_chance ["chance"] (spChance K T.c_Ratio T.c_BadNumber) := by
  refine T.F_check_chance.okX sc_check_chance (fun vs H Q E h => ?_) (fun cdv A outer s H vs Q E hr h => ?_)
  · obtain ⟨x, rfl, _⟩ := h
    rfl
  · obtain ⟨x, rfl, h⟩ := h
    refine ⟨_, (Evl.pss_cut (ps_if (PW.pt (pw_or (pt_not (pt_val (pe_call (ok_is_short T) (hr.mono (by decide)) (by rfl) T.g_is_short T.F_is_short.kp T.b_is_short .nil pass0 (pa_cons (pv 0) pa_nil)))) (pw_or (pt_cmpR (op_ownC (fun _ _ => rfl) T.me_Ratio_lt.at_ T.me_Ratio_lt.fn (ok_Ratio_lt T) (hr.mono (by decide)) T.b_Ratio_lt pass0) (pv 0) (pe_smeth0 (pe_glob (v := .ref T.c_Ratio) (by rfl) T.gc_Ratio rfl) T.sm_Ratio_half (ok_Ratio_half T) T.F_Ratio_half.kp (hr.mono (by decide)) T.b_Ratio_half pass0) (nomark _)) (pw_or1 (pt_cmpR (op_ownC (fun _ _ => rfl) T.me_Ratio_ge.at_ T.me_Ratio_ge.fn (ok_Ratio_ge T) (hr.mono (by decide)) T.b_Ratio_ge pass0) (pv 0) pe_int (nomark _))))))
        (pss_one (ps_raise rfl (takes_of rfl rfl rfl rfl) (pmk_oex T.ox_BadNumber T.xn_BadNumber T.xt_BadNumber (ok_BadNumber_init T) (hr.mono (by decide)) T.b_BadNumber_init .nil pass0 (by rfl) T.gc_BadNumber (pa_cons pe_str (pa_cons (pv 0) pa_nil)))))
        pss_nil)
      (pss_one (ps_ret (pv 0)))), ?_⟩
    rcases h with ⟨p, q, R, sz, k1, k2⟩ | ⟨ty, k⟩
    · have ic := T.ic_Ratio
      have iy := R.ty ic
      refine ⟨fun σ' H' => σ' = [some x] ∧ Same H H' ∧ chanceOk p q = true, ?_, ?_⟩
      · refine ⟨_, rfl, x, rfl, .inl ⟨p, q, R, ?_⟩⟩
        cases c : decide (q ≤ 1000) with
        | false => exact ⟨_, rfl, iteT ⟨_, rfl, mk2 (k2 (by unfold chanceOk; rw [c] <;> rfl))⟩⟩
        | true =>
          refine ⟨_, rfl, iteF ⟨_, rfl, rfl, rfl, fun r H1 s1 R1 => ⟨(R.same s1).isC, ⟨_, R1.ty ic, by simp [PySem.W.notFirst]⟩, x, r, p, q, 1, 2, 200, rfl, R.same s1, .rat R1, sz, ⟨by decide, by decide⟩, by decide, by decide, fun H2 s2 => ⟨_, rfl, ?_⟩⟩⟩⟩
          have t2 := s1.trans s2
          refine ite2 (fun c2 => ⟨_, rfl, mk2 ((k2 ?_).of t2)⟩) fun c2 => ⟨_, rfl, (R.same t2).isC, ⟨_, .base (.int _), notFirst_of T.oc_Ratio.intNo⟩, x, .int 1, p, q, 1, 1, 200, rfl, R.same t2, .int 1, sz, ⟨by decide, by decide⟩, by decide, by decide, fun H3 s3 => ⟨_, rfl, ite2 (fun c3 => ⟨_, rfl, mk2 ((k2 ?_).of (t2.trans s3))⟩) fun c3 => ⟨rfl, t2.trans s3, ?_⟩⟩⟩
          · have := of_decide_eq_true c2
            unfold chanceOk
            rw [decide_eq_false (p := q ≤ 2 * p) (by omega)]
            simp
          · have := of_decide_eq_true c3
            unfold chanceOk
            rw [decide_eq_false (p := p < q) (by omega)]
            simp
          · have d2 : ¬ (p * 2 < 1 * q) := fun z => c2 (decide_eq_true z)
            have d3 : ¬ (1 * q ≤ p * 1) := fun z => c3 (decide_eq_true z)
            unfold chanceOk
            rw [c, decide_eq_true (p := q ≤ 2 * p) (by omega), decide_eq_true (p := p < q) (by omega)] <;> rfl
      rintro σ' H1 ⟨rfl, s1, e⟩
      exact ⟨_, rfl, k1 e H1 s1⟩
    · refine ⟨fun σ' H' => False, ?_, fun _ _ z => z.elim⟩
      exact ⟨_, rfl, x, rfl, .inr ⟨ty, ⟨_, rfl, iteT ⟨_, rfl, mk2 k⟩⟩⟩⟩
theorem ok_scale_of (T : Ctx K mg) : FnOk P w K mg base CX0 1 T.f_scale_of T.fd_scale_of ["ratios"] (spScale K T.c_Ratio) := by
  refine T.F_scale_of.ok sc_scale_of (fun vs H Q E h => ?_) (fun cdv A outer s H vs Q E hr h => ?_)
  · obtain ⟨p, l, ys, rfl, _⟩ := h
    rfl
  · obtain ⟨p, l, ys, rfl, hS, pr, hl, hu, k⟩ := h
    refine ⟨_, (pss_cons (ps_set (i := 1) sc_scale_of.nd rfl (Or.inl rfl) pe_int)
      (pss_cons (ps_for PassesOwn.never rfl (pi_tup (pv 0)) (pg_name (i := 2) sc_scale_of.nd rfl (Or.inl rfl))
        (pss_one (ps_set (i := 1) sc_scale_of.nd rfl (Or.inl rfl) (pe_op op_mul (pv 1) (pe_fld (pv 2) rfl)))))
      (pss_one (ps_ret (pv 1))))), ?_⟩
    have ly := prLen pr
    refine ⟨_, rfl, p, rfl, ⟨_, hS⟩, for_tup (K := K) (a := p) (xs := ys) (fun i σ' H' => H' = H ∧ ∃ v, σ' = [some (.ref p), some (.int (prodU (l.take i))), v]) ⟨rfl, _, rfl⟩ (fun i σ' H' _ h => by rw [h.1]; exact hS) (fun i y σ' H' hy h => ?_) fun σ' H' h => ?_⟩
    · obtain ⟨rfl, v, rfl⟩ := h
      obtain ⟨r, hr, R⟩ := prAt pr hy
      have h1 := hu r (List.mem_of_getElem? hr)
      have h2 := R.pos
      obtain ⟨⟨a, dx, rfl, ha⟩, _, _⟩ := R
      refine ⟨_, rfl, _, rfl, a, T.c_Ratio, dx, _, _, rfl, ha, T.cl_Ratio, T.n_Ratio_under, rfR_under _ _, _, _, rfl, rfl, .inr ⟨by omega, by omega⟩, rfl, some (.ref a), ?_⟩
      rw [List.take_add_one, hr]
      show _ = [some (V.ref p), some (V.int (prodU (l.take i ++ [r]))), _]
      rw [prodU_snoc]
      rfl
    · obtain ⟨rfl, v, rfl⟩ := h
      rw [ly, List.take_length]
      exact ⟨_, rfl, k⟩
theorem ok_counts_of (T : Ctx K mg) : FnOk P w K mg base CX0 1 T.f_counts_of T.fd_counts_of ["ratios"] (spCounts K T.c_Ratio) := by
  refine T.F_counts_of.ok sc_counts_of (fun vs H Q E h => ?_) (fun cdv A outer s H vs Q E hr h => ?_)
  · obtain ⟨p, l, ys, rfl, _⟩ := h
    rfl
  · obtain ⟨p, l, ys, rfl, hS, pr, hl, hu, k⟩ := h
    refine ⟨_, (pss_cons (ps_set (i := 1) sc_counts_of.nd rfl (Or.inl rfl) (pe_lst (pa_cons pe_int pa_nil)))
      (pss_cons (ps_for PassesOwn.never rfl (pi_tup (pv 0)) (pg_name (i := 2) sc_counts_of.nd rfl (Or.inr rfl))
        (pss_cons (ps_set (i := 3) sc_counts_of.nd rfl (Or.inr rfl) (pe_op op_sub (pe_fld (pv 2) rfl) (pe_fld (pv 2) rfl)))
        (pss_one (ps_set (i := 1) sc_counts_of.nd rfl (Or.inl rfl) (pe_op op_cat (pe_lc (own := [("count", 4)]) (g := gName 4) (tt := tYes) rfl sc_counts_of.nd (pi_list (pv 1)) (blkOk_by (own := [("count", 4)]) (N := ["ratios", "counts", "ratio", "down", "count"]) (sc := defScope s_counts_of) (by decide +kernel)) (fun _ _ _ _ _ => (pg_name (i := 4) sc_counts_of.nd rfl (Or.inl rfl))) (fun _ _ _ _ _ => pts_nil) (fun _ _ _ _ _ => (pe_op op_mul (pv 4) (pv 3)))) (pe_lc (own := [("count", 4)]) (g := gName 4) (tt := tYes) rfl sc_counts_of.nd (pi_list (pv 1)) (blkOk_by (own := [("count", 4)]) (N := ["ratios", "counts", "ratio", "down", "count"]) (sc := defScope s_counts_of) (by decide +kernel)) (fun _ _ _ _ _ => (pg_name (i := 4) sc_counts_of.nd rfl (Or.inl rfl))) (fun _ _ _ _ _ => pts_nil) (fun _ _ _ _ _ => (pe_op op_mul (pv 4) (pe_fldK (K := K) rfl (pv 2) rfl)))))))))
      (pss_one (ps_ret (pv 1))))), ?_⟩
    have ly := prLen pr
    refine ⟨(by show 1 ≤ sizeLine; decide), fun c0 nc => ?_⟩
    have s0 := same_upd (o := .lst [V.int 1]) nc
    have h0 : upd H c0 (.lst [V.int 1]) c0 = some (.lst [V.int 1]) := upd_same
    revert s0 h0
    generalize upd H c0 _ = H1
    intro s0 h0
    refine ⟨_, rfl, p, rfl, ⟨_, Same.seqT s0 hS⟩, for_tup (K := K) (a := p) (xs := ys) (fun i σ' H' => Same H H' ∧ ∃ q v2 v3, σ' = [some (.ref p), some (.ref q), v2, v3, none] ∧ H q = none ∧ H' q = some (.lst ((countsOf (l.take i)).map V.int))) ⟨s0, c0, _, _, rfl, nc, h0⟩ (fun i σ' H' _ h => Same.seqT h.1 hS) (fun i y σ' H2 hy h => ?_) fun σ' H2 h => ?_⟩
    · obtain ⟨s2, q, v2, v3, rfl, nq, hq⟩ := h
      obtain ⟨r, hr, R⟩ := prAt pr hy
      obtain ⟨u1, u2, u3⟩ := hu r (List.mem_of_getElem? hr)
      have R2 := R.same s2
      obtain ⟨⟨a, dx, rfl, ha⟩, _, _⟩ := R2
      have hb : ∀ c ∈ countsOf (l.take i), 0 ≤ c ∧ c ≤ 1000 ^ (l.take i).length := counts_bound fun r hr => hu r (List.mem_of_mem_take hr)
      have hn := countsOf_len (l.take i)
      have hi : (l.take i).length ≤ 7 := by
        have := (List.getElem?_eq_some_iff.mp hy).1
        rw [List.length_take]
        omega
      refine ⟨_, rfl, a, T.c_Ratio, dx, _, _, rfl, ha, T.cl_Ratio, T.n_Ratio_under, rfR_under _ _, _, rfl, a, T.c_Ratio, dx, _, _, rfl, ha, T.cl_Ratio, T.n_Ratio_over, rfR_over _ _, _, _, rfl, rfl, ?_⟩
      have e8 : (256 : Nat) ≤ sizeLine := by decide
      have p7 : 2 ^ (l.take i).length ≤ 128 := (Nat.pow_le_pow_right (by decide) hi : 2 ^ (l.take i).length ≤ 2 ^ 7)
      have at_c : ∀ {j : Nat} {x : V}, ((countsOf (l.take i)).map V.int)[j]? = some x → x = .int ((countsOf (l.take i)).getD j 0) := fun {j x} h => by
        rw [List.getElem?_map] at h
        rw [List.getD_eq_getElem?_getD]
        cases e : (countsOf (l.take i))[j]? with
        | none => rw [e] at h; cases h
        | some c => rw [e] at h; cases h; rfl
      refine ⟨_, rfl, q, rfl, ⟨_, SqL.of hq⟩, fun D nD => ?_⟩
      refine lc_itA (walk_list (K := K) (a := q) (xs := (countsOf (l.take i)).map V.int)) (fun j => V.int ((countsOf (l.take i)).getD j 0 * (r.2 - r.1))) (fun a y _ => y = a) (fun _ _ _ _ _ h => h) nD (fun H' e => e.seq (SqL.of hq)) (by rw [List.length_map]; omega) ?_ ?_
      · rintro j x H3 H4 k1 hj s3 ⟨rfl, hx⟩ h1
        obtain rfl := at_c hx
        exact ⟨rfl, _, rfl, _, rfl, _, _, rfl, rfl, .inr ⟨by omega, by omega⟩, h1 _ _ (Same.refl _) rfl⟩
      intro H3 xs3 s3 hD pD
      have hq3 := s3 _ _ hq
      refine ⟨_, rfl, q, rfl, ⟨_, SqL.of hq3⟩, fun D2 nD2 => ?_⟩
      refine lc_itA (walk_list (K := K) (a := q) (xs := (countsOf (l.take i)).map V.int)) (fun j => V.int ((countsOf (l.take i)).getD j 0 * r.1)) (fun a y _ => y = a) (fun _ _ _ _ _ h => h) nD2 (fun H' e => e.seq (SqL.of hq3)) (by rw [List.length_map]; omega) ?_ ?_
      · rintro j x H4 H5 k1 hj s4 ⟨rfl, hx⟩ h1
        obtain rfl := at_c hx
        exact ⟨rfl, _, rfl, _, rfl, a, T.c_Ratio, dx, _, _, rfl, s4 _ _ (s3 _ _ ha), T.cl_Ratio, T.n_Ratio_over, rfR_over _ _, _, _, rfl, rfl, .inr ⟨by omega, by omega⟩, h1 _ _ (Same.refl _) rfl⟩
      intro H4 xs4 s4 hD2 pD2
      have e3 : xs3 = ((countsOf (l.take i)).map (· * (r.2 - r.1))).map V.int := by
        rw [paired_eq pD, List.length_map, show (List.range (countsOf (l.take i)).length).map (fun j => V.int ((countsOf (l.take i)).getD j 0 * (r.2 - r.1))) = (countsOf (l.take i)).map (fun c => V.int (c * (r.2 - r.1))) from range_get (fun c => V.int (c * (r.2 - r.1))) 0 _, List.map_map] <;> rfl
      have e4 : xs4 = ((countsOf (l.take i)).map (· * r.1)).map V.int := by
        rw [paired_eq pD2, List.length_map, show (List.range (countsOf (l.take i)).length).map (fun j => V.int ((countsOf (l.take i)).getD j 0 * r.1)) = (countsOf (l.take i)).map (fun c => V.int (c * r.1)) from range_get (fun c => V.int (c * r.1)) 0 _, List.map_map] <;> rfl
      refine ⟨D, D2, xs3, xs4, rfl, rfl, s4 _ _ hD, hD2, by rw [e3, e4]; simp; omega, fun u nu => ?_⟩
      have t := s2.trans (s3.trans (s4.trans (same_upd (o := .lst (xs3 ++ xs4)) nu)))
      refine ⟨t, u, _, _, rfl, (s2.trans (s3.trans s4)).free nu, ?_⟩
      rw [upd_same, List.take_add_one, hr]
      show _ = some (HO.lst ((countsOf (l.take i ++ [r])).map V.int))
      rw [countsOf_snoc, List.map_append, e3, e4]
    · obtain ⟨s2, q, v2, v3, rfl, nq, hq⟩ := h
      rw [ly, List.take_length] at hq
      exact ⟨_, rfl, k q H2 s2 nq hq⟩
end
section
variable {P : Program} {w : World} {K : PySem.W.Frag} {mg : Str → Option Value} {base : Heap}
theorem ok_Chances_init (T : Ctx K mg) : FnR P w K mg base (L2.CX P w) 10 T.f_Chances_init (spStar 1 (spCh0 K T.c_Chances T.c_Ratio T.c_BadNumber)) := by
  refine Fun.okStar (ps := ["self"]) (pv := "chances") T.F_Chances_init sc_Chances_init bs_Chances_init (fun cdv A outer s H vs Q E hr h => ?_)
  obtain ⟨a, dx, p, ys, xs, rfl, ha, hS, hx, k1, k2⟩ := h
  refine ⟨_, (pss_cons (ps_expr (pe_call (ok_check_copies T) (hr.mono (by decide)) (by rfl) T.g_check_copies T.F_check_copies.kp T.b_check_copies .nil (passes_call (takes_of rfl rfl rfl rfl) (fun _ _ _ _ h => h)) (pa_cons (pe_callB call_len_seq (by rfl) T.m_len (by decide +kernel) (pa_cons (pv 1) pa_nil)) pa_nil)))
      (pss_cons (ps_for (passes_of rfl) rfl (pi_tup (pv 1)) (pg_name (i := 2) sc_Chances_init.nd rfl (Or.inl rfl))
        (pss_one (ps_expr (pe_call (ok_check_chance T) (hr.mono (by decide)) (by rfl) T.g_check_chance T.F_check_chance.kp T.b_check_chance .nil (passes_call (takes_of rfl rfl rfl rfl) (fun _ _ _ _ h => h)) (pa_cons (pv 2) pa_nil)))))
      (pss_cons (ps_fld (pv 0) (pv 1) rfl)
      (pss_cons (ps_fld (pv 0) (pe_call (ok_scale_of T) (hr.mono (by decide)) (by rfl) T.g_scale_of T.F_scale_of.kp T.b_scale_of .nil pass0 (pa_cons (pv 1) pa_nil)) rfl)
      (pss_one (ps_fld (pv 0) (pe_callTy call_tuple_ofZ (by rfl) T.m_tuple (by decide +kernel) (pa_cons (pe_call (ok_counts_of T) (hr.mono (by decide)) (by rfl) T.g_counts_of T.F_counts_of.kp T.b_counts_of .nil pass0 (pa_cons (pv 1) pa_nil)) pa_nil)) rfl)))))), ?_⟩
  have ly := prLen hx
  refine ⟨_, rfl, p, ys, rfl, .inr hS, .int ys.length, rfl, kn_int _, fun hg => ?_, fun hg => ?_⟩
  · obtain ⟨n, en, n1, n8⟩ := good_copies hg
    have en : ys.length = n := by
      injection en with en
      omega
    obtain ⟨k3, k4⟩ := k2 (by omega) (by omega)
    refine ⟨_, rfl, p, rfl, ⟨_, hS⟩, for_tup (K := K) (a := p) (xs := ys) (fun i σ' H' => Same H H' ∧ (∀ o ∈ xs.take i, okOf o = true) ∧ ∃ v, σ' = [some (.ref a), some (.ref p), v]) ⟨Same.refl _, fun o ho => by simp at ho, _, rfl⟩ (fun i σ' H' _ h => Same.seqT h.1 hS) (fun i y σ' H2 hy h => ?_) fun σ' H2 h => ?_⟩
    · obtain ⟨s2, hok, v, rfl⟩ := h
      obtain ⟨o, ho, hc⟩ := prAt hx hy
      have next : okOf o = true → ∀ z ∈ xs.take (i + 1), okOf z = true := fun e z hz => by
        rw [List.take_add_one, ho] at hz
        rcases List.mem_append.mp hz with w | w
        · exact hok z w
        · rw [List.mem_singleton.mp (show z ∈ [o] from w)]
          exact e
      have bad : okOf o = false → Err T.c_BadNumber H2 E "chance" y := fun e => (k3 i y hy hok (by rw [ho]; exact congrArg some e)).of s2
      refine ⟨_, rfl, y, rfl, ?_⟩
      cases o with
      | none =>
        exact .inr ⟨hc H2, bad rfl⟩
      | some r =>
        obtain ⟨R, sz⟩ := hc
        exact .inl ⟨r.1, r.2, R.same s2, sz, fun e H3 s3 => ⟨s2.trans s3, next e, _, rfl⟩, bad⟩
    · obtain ⟨s2, hok, v, rfl⟩ := h
      rw [ly, List.take_length] at hok
      obtain ⟨l, rfl, hl⟩ := all_ok xs hok
      rw [List.length_map] at ly
      have ha2 := s2 _ _ ha
      have hS2 := Same.seqT s2 hS
      have pr2 : Rats T.c_Ratio H2 l ys := prImp (fun r y (z : ChOf K T.c_Ratio H (some r) y) => z.1.same s2) (prUnmapL hx)
      have l8 : l.length ≤ 8 := by omega
      have l1 : 1 ≤ l.length := by omega
      -- self.ratios
      refine ⟨_, rfl, _, rfl, a, T.c_Chances, dx, _, rfl, ha2, T.cl_Chances, T.n_Chances_ratios, by decide, ?_⟩
      have ha3 : upd H2 a (.ins T.c_Chances dx (putF "ratios" (.ref p) [])) a = some (.ins T.c_Chances dx (putF "ratios" (.ref p) [])) := upd_same
      have e3 : Exc a H2 (upd H2 a (.ins T.c_Chances dx (putF "ratios" (.ref p) []))) := exc_at
      have hS3 := seqT_exc ha2 e3 hS2
      have pr3 : Rats T.c_Ratio _ l ys := prImp (fun r y z => rat_exc rfl ha2 e3 z) pr2
      revert ha3 e3 hS3 pr3
      generalize upd H2 a _ = H3
      intro ha3 e3 hS3 pr3
      have lo : (putF "ratios" (.ref p) ([] : List (Str × V))).lookup ("over" : Str) = none := by rw [lookup_putF, if_neg (by decide +kernel)] <;> rfl
      -- self.scale
      refine ⟨_, rfl, p, l, ys, rfl, hS3, pr3, l8, fun r hr => (ok_terms (hl r hr)).2.2, _, rfl, a, T.c_Chances, dx, _, rfl, ha3, T.cl_Chances, T.n_Chances_scale, few1, ?_⟩
      have ha4 : upd H3 a (.ins T.c_Chances dx (putF "scale" (.int (prodU l)) (putF "ratios" (.ref p) []))) a = some (.ins T.c_Chances dx (putF "scale" (.int (prodU l)) (putF "ratios" (.ref p) []))) := upd_same
      have e4 : Exc a H3 (upd H3 a (.ins T.c_Chances dx (putF "scale" (.int (prodU l)) (putF "ratios" (.ref p) [])))) := exc_at
      have hS4 := seqT_exc ha3 e4 hS3
      have pr4 : Rats T.c_Ratio _ l ys := prImp (fun r y z => rat_exc lo ha3 e4 z) pr3
      revert ha4 e4 hS4 pr4
      generalize upd H3 a _ = H4
      intro ha4 e4 hS4 pr4
      have lo2 : (putF "scale" (.int (prodU l)) (putF "ratios" (.ref p) ([] : List (Str × V)))).lookup ("over" : Str) = none := by rw [lookup_putF, if_neg (by decide +kernel)]; exact lo
      -- self.counts
      refine ⟨_, rfl, p, l, ys, rfl, hS4, pr4, l8, fun r hr => ok_terms (hl r hr), fun q H5 s5 nq hq => ⟨q, _, rfl, SqL.of hq, fun tc ob ntc _ => ?_⟩⟩
      have s6 := s5.trans (same_upd (o := .frz ob (.tup ((countsOf l).map V.int))) ntc)
      have htc : upd H5 tc (.frz ob (.tup ((countsOf l).map V.int))) tc = some (.frz ob (.tup ((countsOf l).map V.int))) := upd_same
      revert s6 htc
      generalize upd H5 tc _ = H6
      intro s6 htc
      have ha6 := s6 _ _ ha4
      refine ⟨_, rfl, a, T.c_Chances, dx, _, rfl, ha6, T.cl_Chances, T.n_Chances_counts, few2, ?_⟩
      have e8 : Exc a H6 (upd H6 a (.ins T.c_Chances dx (chF p tc (prodU l)))) := exc_at
      refine k4 l rfl hl _ (fun b o hb nb => ?_) ⟨a, dx, p, tc, ys, rfl, upd_same, ?_, ?_, ?_, l1, l8, hl⟩
      · exact e8 b o nb (s6 _ _ (e4 b o nb (e3 b o nb (s2 _ _ hb))))
      · exact seqT_exc ha6 e8 (Same.seqT s6 hS4)
      · exact prImp (fun (r : Int × Int) y (z : Rat T.c_Ratio H4 y r.1 r.2) => rat_exc lo2 ha6 e8 (z.same s6)) pr4
      · exact seqT_exc ha6 e8 (.inl (.inr ⟨ob, htc⟩))
  · rw [ly] at hg ⊢
    refine k1 ?_
    rcases Nat.eq_zero_or_pos xs.length with z | z
    · exact .inl z
    · by_cases c : xs.length ≤ 8
      · exact absurd (copies_good z c) (by rw [hg]; simp)
      · exact .inr (by omega)
end
section
variable {P : Program} {w : World} {K : PySem.W.Frag} {mg : Str → Option Value} {base : Heap}
theorem ok_Chances_len (T : Ctx K mg) : FnOk P w K mg base CX0 1 T.f_Chances_len T.fd_Chances_len ["self"] (spChLen K T.c_Chances T.c_Ratio) := by
  refine T.F_Chances_len.ok sc_Chances_len (fun vs H Q E h => ?_) (fun cdv A outer s H vs Q E hr h => ?_)
  · obtain ⟨x, l, rfl, _⟩ := h
    rfl
  · obtain ⟨x, l, rfl, ⟨a, dx, tr, tc, ys, rfl, ha, h2, h3, _⟩, k⟩ := h
    refine ⟨_, (pss_one (ps_ret (pe_callB call_len_seq (by rfl) T.m_len (by decide +kernel) (pa_cons (pe_fld (pv 0) rfl) pa_nil)))), ?_⟩
    refine ⟨_, rfl, a, T.c_Chances, dx, _, _, rfl, ha, T.cl_Chances, T.n_Chances_ratios, chF_ratios _ _ _, tr, ys, rfl, .inr h2, ?_⟩
    rw [prLen h3]
    exact k
theorem ok_Chances_iter (T : Ctx K mg) : FnS P w K mg base 1 T.f_Chances_iter T.fd_Chances_iter ["self"] (spIterS K T.c_Chances "ratios") := by
  refine Fun.okS T.F_Chances_iter sc_Chances_iter (fun n vs H Q E h => ?_) (fun cdv A outer s H vs Q E hr h => ?_)
  · obtain ⟨a, dx, fs, t, xs, rfl, _⟩ := h
    rfl
  · obtain ⟨a, dx, fs, t, xs, rfl, ha, hl, hq, k⟩ := h
    refine ⟨_, (pss_one (ps_ret (pe_callB call_iterT (by rfl) T.m_iter (by decide +kernel) (pa_cons (pe_fld (pv 0) rfl) pa_nil)))), ?_⟩
    exact ⟨_, rfl, a, T.c_Chances, dx, _, _, rfl, ha, T.cl_Chances, T.n_Chances_ratios, hl, t, xs, rfl, hq, k⟩
theorem ok_Chances_getitem (T : Ctx K mg) : FnOk P w K mg base (L2.CX P w) 6 T.f_Chances_getitem T.fd_Chances_getitem ["self", "at"] (spChGet K T.c_Chances T.c_Ratio T.c_BadNumber) := by
  refine T.F_Chances_getitem.okX sc_Chances_getitem (fun vs H Q E h => ?_) (fun cdv A outer s H vs Q E hr h => ?_)
  · obtain ⟨x, c, l, rfl, _⟩ := h
    rfl
  · obtain ⟨x, c, l, rfl, ⟨a, dx, tr, tc, ys, rfl, ha, h2, h3, _⟩, sc, k1, k2⟩ := h
    refine ⟨_, (pss_one (ps_ret (pe_ix ix_tup (pe_fld (pv 0) rfl) (pe_call (ok_check_copy T) (hr.mono (by decide)) (by rfl) T.g_check_copy T.F_check_copy.kp T.b_check_copy .nil (passes_call (takes_of rfl rfl rfl rfl) (fun _ _ _ _ h => h)) (pa_cons (pe_callB call_len_seq (by rfl) T.m_len (by decide +kernel) (pa_cons (pe_fld (pv 0) rfl) pa_nil)) (pa_cons (pv 1) pa_nil))) (fun _ _ => rfl)))), ?_⟩
    have ly := prLen h3
    refine ⟨_, rfl, a, T.c_Chances, dx, _, _, rfl, ha, T.cl_Chances, T.n_Chances_ratios, chF_ratios _ _ _, ?_⟩
    refine ⟨_, rfl, a, T.c_Chances, dx, _, _, rfl, ha, T.cl_Chances, T.n_Chances_ratios, chF_ratios _ _ _, tr, ys, rfl, .inr h2, _, rfl, ys.length, c, rfl, kn_scal sc, fun ok => ?_, fun ok => k2 (by rw [← ly]; exact ok)⟩
    obtain ⟨n, rfl, hn⟩ := copyOk_iff ok
    have hy : ys[n]? = some ys[n] := List.getElem?_eq_getElem hn
    obtain ⟨r, er, R⟩ := prAt h3 hy
    exact ⟨tr, ys, _, _, rfl, rfl, h2, atI_nat hy, k1 n r rfl er _ R⟩
theorem ok_Chances_eq (T : Ctx K mg) : FnOk P w K mg base CX0 5 T.f_Chances_eq T.fd_Chances_eq ["self", "other"] (spChEq K T.c_Chances T.c_Ratio) := by
  refine T.F_Chances_eq.ok sc_Chances_eq (fun vs H Q E h => ?_) (fun cdv A outer s H vs Q E hr h => ?_)
  · obtain ⟨x, y, l, rfl, _⟩ := h
    rfl
  · obtain ⟨x, y, l, rfl, ⟨a, dx, tr, tc, ys, rfl, ha, h2, h3, _⟩, h⟩ := h
    refine ⟨_, (pss_one (ps_ret (pe_and (pe_callB call_isi (by rfl) T.m_isinstance (by decide +kernel) (pa_cons (pv 1) (pa_cons (pe_glob (v := .ref T.c_Chances) (by rfl) T.gc_Chances rfl) pa_nil))) (pe_one (pe_cmpR (op_cmpB (fun _ _ => rfl) (rcB_tup mon_it (eqB_it (ok_Ratio_eq T) T.me_Ratio_eq.at_ T.me_Ratio_eq.fn T.b_Ratio_eq pass0)) (hr.mono (by decide))) (pe_fld (pv 0) rfl) (pe_fld (pv 1) rfl) (nomark _)))))), ?_⟩
    rcases h with ⟨l', ⟨b, dy, ur, uc, zs, rfl, hb, g2, g3, _⟩, k⟩ | ⟨t, ty, hk, k⟩
    · refine ⟨_, rfl, _, _, _, _, true, rfl, .own _, T.ic_Chances.ty hb, T.ki_Chances_Chances, true, rfl, iteT ?_⟩
      refine ⟨_, rfl, a, T.c_Chances, dx, _, _, rfl, ha, T.cl_Chances, T.n_Chances_ratios, chF_ratios _ _ _, _, rfl, b, T.c_Chances, dy, _, _, rfl, hb, T.cl_Chances, T.n_Chances_ratios, chF_ratios _ _ _, ?_⟩
      exact cmp_ratsT h2 g2 h3 g3 k
    · exact ⟨_, rfl, _, _, _, _, false, rfl, .own _, ty, hk, false, rfl, iteF k⟩
theorem ok_Chances_add (T : Ctx K mg) : FnOk P w K mg base (L2.CX P w) 13 T.f_Chances_add T.fd_Chances_add ["self", "other"] (spChAdd K T.c_Chances T.c_Ratio T.c_BadNumber) := by
  refine T.F_Chances_add.okX sc_Chances_add (fun vs H Q E h => ?_) (fun cdv A outer s H vs Q E hr h => ?_)
  · obtain ⟨x, y, l, l', rfl, _⟩ := h
    rfl
  · obtain ⟨x, y, l, l', rfl, ⟨a, dx, tr, tc, ys, rfl, ha, h2, h3, _, n1, n8, ok⟩, ⟨b, dy, ur, uc, zs, rfl, hb, g2, g3, _, m1, m8, ok'⟩, k1, k2⟩ := h
    refine ⟨_, (pss_cons (ps_set (i := 2) sc_Chances_add.nd rfl (Or.inl rfl) (pe_op op_catA (pe_fld (pv 0) rfl) (pe_fld (pv 1) rfl)))
      (pss_one (ps_ret (pe_makeS1 T.M_Chances (ok_Chances_init T) (hr.mono (by decide)) (by rfl) T.gc_Chances (passes_call (takes_of rfl rfl rfl rfl) (fun _ _ _ _ h => h)) (pv 2))))), ?_⟩
    have ly := prLen h3
    have lz := prLen g3
    have e16 : (16 : Nat) ≤ sizeLine := by decide
    refine ⟨_, rfl, a, T.c_Chances, dx, _, _, rfl, ha, T.cl_Chances, T.n_Chances_ratios, chF_ratios _ _ _, _, rfl, b, T.c_Chances, dy, _, _, rfl, hb, T.cl_Chances, T.n_Chances_ratios, chF_ratios _ _ _, ?_⟩
    refine ⟨tr, ur, ys, zs, rfl, rfl, h2, g2, by omega, fun z => by rw [z] at ly; simp at ly; omega, fun _ z => by rw [z] at lz; simp at lz; omega, fun _ _ p np => ?_⟩
    have s1 := same_upd (o := .tup (ys ++ zs)) np
    have pr : Rats T.c_Ratio (upd H p (.tup (ys ++ zs))) (l ++ l') (ys ++ zs) := prApp (Rats.same h3 s1) (Rats.same g3 s1)
    have okA : ∀ r ∈ l ++ l', chanceOk r.1 r.2 = true := fun r hr => (List.mem_append.mp hr).elim (ok r) (ok' r)
    refine ⟨_, rfl, p, ys ++ zs, rfl, .inl (.inl (.inl upd_same)), ?_⟩
    refine any_chs (rats_args pr okA) (by simp; omega) (fun z => ?_) fun _ z => ⟨fun i y _ _ w => absurd w (ok_somes okA), fun l2 e _ c H' s G => ?_⟩
    · rw [List.length_map, List.length_append] at z ⊢
      exact (k2 (by omega)).of s1
    · cases somes_inj e
      rw [List.length_map, List.length_append] at z
      exact k1 z _ H' (s1.trans s) G
theorem ok_Chances_with_chance (T : Ctx K mg) : FnOk P w K mg base (L2.CX P w) 13 T.f_Chances_with_chance T.fd_Chances_with_chance ["self", "copy", "chance"] (spChWith K T.c_Chances T.c_Ratio T.c_BadNumber) := by
  refine T.F_Chances_with_chance.okX sc_Chances_with_chance (fun vs H Q E h => ?_) (fun cdv A outer s H vs Q E hr h => ?_)
  · obtain ⟨x, c, z, l, o, rfl, _⟩ := h
    rfl
  · obtain ⟨x, c, z, l, o, rfl, ⟨a, dx, tr, tc, ys, rfl, ha, h2, h3, _, n1, n8, ok⟩, sc, ho, k1, k2⟩ := h
    refine ⟨_, (pss_cons (ps_expr (pe_call (ok_check_copy T) (hr.mono (by decide)) (by rfl) T.g_check_copy T.F_check_copy.kp T.b_check_copy .nil (passes_call (takes_of rfl rfl rfl rfl) (fun _ _ _ _ h => h)) (pa_cons (pe_callB call_len_seq (by rfl) T.m_len (by decide +kernel) (pa_cons (pe_fld (pv 0) rfl) pa_nil)) (pa_cons (pv 1) pa_nil))))
      (pss_cons (ps_set (i := 3) sc_Chances_with_chance.nd rfl (Or.inl rfl) (pe_callTy call_list_of (by rfl) T.m_list (by decide +kernel) (pa_cons (pe_fld (pv 0) rfl) pa_nil)))
      (pss_cons (ps_asg (pv 2) (pg_sub (pv 3) (pv 1) set_list))
      (pss_one (ps_ret (pe_makeS1 T.M_Chances (ok_Chances_init T) (hr.mono (by decide)) (by rfl) T.gc_Chances (passes_call (takes_of rfl rfl rfl rfl) (fun _ _ _ _ h => h)) (pv 3))))))), ?_⟩
    have ly := prLen h3
    refine ⟨_, rfl, a, T.c_Chances, dx, _, _, rfl, ha, T.cl_Chances, T.n_Chances_ratios, chF_ratios _ _ _, tr, ys, rfl, .inr h2, _, rfl, ys.length, c, rfl, kn_scal sc, fun okc => ?_, fun okc => k1 (by rw [← ly]; exact okc)⟩
    obtain ⟨n, rfl, hn⟩ := copyOk_iff okc
    obtain ⟨k3, k4⟩ := k2 n rfl (by omega)
    refine ⟨_, rfl, a, T.c_Chances, dx, _, _, rfl, ha, T.cl_Chances, T.n_Chances_ratios, chF_ratios _ _ _, tr, ys, rfl, .inr h2, fun p np => ?_⟩
    refine ⟨_, rfl, _, rfl, _, rfl, p, ys, _, n, rfl, rfl, upd_same, ixN_nat hn, ?_⟩
    have s1 : Same H (upd (upd H p (.lst ys)) p (.lst (ys.set n z))) := by rw [upd_upd]; exact same_upd np
    have hp : upd (upd H p (.lst ys)) p (.lst (ys.set n z)) p = some (.lst (ys.set n z)) := upd_same
    revert s1 hp
    generalize upd (upd H p _) p _ = H1
    intro s1 hp
    have pr : Paired (ChOf K T.c_Ratio H1) ((l.map some).set n o) (ys.set n z) := prSet (ho.same s1) n (prImp (fun _ _ w => w.same s1) (rats_args h3 ok))
    refine ⟨_, rfl, p, ys.set n z, rfl, .inr (SqL.of hp), ?_⟩
    refine any_chs pr (by rw [List.length_set]; omega) (fun w => by rw [List.length_set, List.length_map] at w; omega) fun _ _ => ⟨fun i y hy hall hb => ?_, fun l2 e okl b H' s G => ?_⟩
    · have hi : i = n := by
        refine Classical.byContradiction fun ne => ?_
        rw [List.getElem?_set_ne (Ne.symm ne)] at hb
        exact ok_somes ok hb
      subst hi
      rw [List.getElem?_set_self (by omega)] at hy
      cases hy
      rw [List.getElem?_set_self (by rw [List.length_map]; omega)] at hb
      injection hb with hb
      exact (k3 hb).of s1
    · have en : l2[n]?.map some = some o := by
        rw [← List.getElem?_map, ← e, List.getElem?_set_self (by rw [List.length_map]; omega)]
      cases e2 : l2[n]? with
      | none => rw [e2] at en; cases en
      | some r =>
        rw [e2] at en
        injection en with en
        subst en
        have e3 : l2 = l.set n r := by
          refine somes_inj ?_
          rw [← e, List.map_set]
        subst e3
        exact k4 r rfl (okl r (List.mem_of_getElem? e2)) _ H' (s1.trans s) G
end
section
variable {P : Program} {w : World} {K : PySem.W.Frag} {mg : Str → Option Value} {base : Heap}
theorem ok_l_chance (T : Ctx K mg) : FnOk P w K mg base CX0 2 T.f_l_chance T.fd_l_chance ["_law_script", "_law_state"] (spLChance K) := by
  refine T.F_l_chance.ok sc_l_chance (fun vs H Q E h => ?_) (fun cdv A outer s H vs Q E hr h => ?_)
  · obtain ⟨l, t, H0, rfl, _⟩ := h
    rfl
  · obtain ⟨l, t, H0, rfl, D, q⟩ := h
    refine ⟨_, (pss_cons (ps_set (i := 2) sc_l_chance.nd rfl (Or.inl rfl) (pe_op op_add pe_int (pe_call (ok_l_draw T) (hr.mono (by decide)) (by rfl) T.g_l_draw T.F_l_draw.kp T.b_l_draw .nil pass0 (pa_cons (pv 0) (pa_cons (pv 1) (pa_cons pe_int pa_nil))))))
      (pss_cons (ps_set (i := 3) sc_l_chance.nd rfl (Or.inl rfl) (pe_op op_fdiv (pe_callTy call_int1 (by rfl) T.m_int (by decide +kernel) (pa_cons (pe_op op_add (pv 2) pe_int) pa_nil)) pe_int))
      (pss_one (ps_ret (pe_tup (pa_cons (pe_op op_add (pv 3) (pe_call (ok_l_draw T) (hr.mono (by decide)) (by rfl) T.g_l_draw T.F_l_draw.kp T.b_l_draw .nil pass0 (pa_cons (pv 0) (pa_cons (pv 1) (pa_cons (pe_op op_sub (pv 2) (pv 3)) pa_nil))))) (pa_cons (pv 2) pa_nil))))))), ?_⟩
    refine ⟨_, rfl, _, rfl, l, t, 11, H0, rfl, D, by decide, by decide, fun x H1 a1 a2 b1 D1 => ?_⟩
    obtain ⟨u, hu⟩ : ∃ u : Int, 2 + x = u := ⟨_, rfl⟩
    refine opN (z := .int u) (congrArg V.int hu) ?_
    refine ⟨_, rfl, _, _, rfl, rfl, .inl ⟨_, rfl, _, _, rfl, rfl, ⟨by decide, by decide⟩, ?_⟩⟩
    refine ⟨_, rfl, _, rfl, _, rfl, _, rfl, _, rfl, _, _, rfl, rfl, l, t, _, H0, rfl, D1, by omega, by omega, fun y H2 c1 c2 b2 D2 => ?_⟩
    refine ⟨_, _, rfl, rfl, _, rfl, ?_⟩
    refine ⟨(by show 2 ≤ sizeLine; decide), fun p np => ?_⟩
    refine q ((u + 1) / 2 + y, u) p _ ⟨by omega, by omega, ?_, ?_⟩ ((b1.exc.trans b2.exc).trans (exc_upd np)) (D2.mono (same_upd np)) ?_ upd_same
    · show (u + 1) / 2 + y < u
      omega
    · show u ≤ 2 * ((u + 1) / 2 + y)
      omega
    · exact ((b1.trans b2) p (D2.ne np)).symm.trans np
theorem ok_l_chances (T : Ctx K mg) : FnOk P w K mg base CX0 14 T.f_l_chances T.fd_l_chances ["_law_pairs"] (spLChances K T.c_Chances T.c_Ratio) := by
  refine T.F_l_chances.ok sc_l_chances (fun vs H Q E h => ?_) (fun cdv A outer s H vs Q E hr h => ?_)
  · obtain ⟨p, rs, ys, rfl, _⟩ := h
    rfl
  · obtain ⟨p, rs, ys, rfl, hp, pr, n1, n8, gd, q⟩ := h
    refine ⟨_, (pss_cons (ps_set (i := 1) sc_l_chances.nd rfl (Or.inl rfl) (StX.pe_makeR T.M_Chances (ok_Chances_init T) (hr.mono (by decide)) (by rfl) T.gc_Chances passL (pa_cons (pe_make T.M_Ratio (ok_Ratio_init T) (hr.mono (by decide)) (by rfl) T.gc_Ratio T.b_Ratio_init2 T.v_Ratio_init2 passL (pa_cons (pe_ix ix_tup (pe_ix ix_list (pv 0) pe_int (fun _ _ => rfl)) pe_int (fun _ _ => rfl)) (pa_cons (pe_ix ix_tup (pe_ix ix_list (pv 0) pe_int (fun _ _ => rfl)) pe_int (fun _ _ => rfl)) pa_nil))) pa_nil)))
      (pss_cons (ps_for PassesOwn.never rfl (pi_list (pe_slice sl_list (pv 0) (po_some pe_int) po_none)) (pg_tup rfl (pgs_cons (pg_name (i := 2) sc_l_chances.nd rfl (Or.inl rfl)) (pgs_cons (pg_name (i := 3) sc_l_chances.nd rfl (Or.inl rfl)) pgs_nil)))
        (pss_one (ps_set (i := 1) sc_l_chances.nd rfl (Or.inl rfl) (pe_op (op_ownB T.oc_Chances T.oh_Chances_add T.me_Chances_add.fn (ok_Chances_add T) (hr.mono (by decide)) T.b_Chances_add passL) (pv 1) (StX.pe_makeR T.M_Chances (ok_Chances_init T) (hr.mono (by decide)) (by rfl) T.gc_Chances passL (pa_cons (pe_make T.M_Ratio (ok_Ratio_init T) (hr.mono (by decide)) (by rfl) T.gc_Ratio T.b_Ratio_init2 T.v_Ratio_init2 passL (pa_cons (pv 2) (pa_cons (pv 3) pa_nil))) pa_nil))))))
      (pss_one (ps_ret (pv 1))))), ?_⟩
    obtain ⟨r0, rr, rfl⟩ : ∃ r0 rr, rs = r0 :: rr := List.exists_cons_of_ne_nil (by intro z; rw [z] at n1; simp at n1)
    cases pr with
    | @cons _ y0 _ yr h0 pr =>
    obtain ⟨p0, rfl, h0⟩ := h0
    have g0 := gd r0 List.mem_cons_self
    have gp := low_good g0
    have gs : r0.2.natAbs.log2 < 9000 := by obtain ⟨_, _, _, _⟩ := g0; exact sz_log (n := 200) (by omega) (by decide) (by decide)
    refine ⟨_, rfl, p, _, _, _, rfl, rfl, hp, at_of (j := 0) rfl rfl, p0, _, _, _, rfl, rfl, h0, at_of (j := 0) rfl rfl, ?_⟩
    refine ⟨_, rfl, p, _, _, _, rfl, rfl, hp, at_of (j := 0) rfl rfl, p0, _, _, _, rfl, rfl, h0, at_of (j := 1) rfl rfl, ?_⟩
    refine mk_ratio (by omega) gs fun a pp qq H1 s1 R nf => ?_
    obtain ⟨rfl, rfl⟩ := low_of gp nf
    refine mk_chs (l := [lowR r0]) (.cons R .nil) (fun r hr => by rw [List.mem_singleton.mp hr]; exact low_ok g0) (by simp) (by simp) fun v H2 s2 G2 => ?_
    have t2 := s1.trans s2
    refine ⟨_, rfl, _, rfl, p, _, rfl, t2.seq hp, fun q3 n3 => ?_⟩
    rw [cut_one]
    have t3 := t2.trans (same_upd (o := .lst yr) n3)
    have len := prLen pr
    have lr : (r0 :: rr).length = rr.length + 1 := rfl
    refine ⟨q3, rfl, ⟨_, SqL.of upd_same⟩, for_list (K := K) (a := q3) (xs := yr) (fun i σ' H' => Same H H' ∧ H' q3 = some (.lst yr) ∧ ∃ v o u, σ' = [some (.ref p), some v, o, u] ∧ Chs K T.c_Chances T.c_Ratio H' v ((r0 :: rr.take i).map lowR))
      ⟨t3, upd_same, _, _, _, rfl, G2.same (same_upd n3)⟩ (fun i σ' H' _ h => SqL.of h.2.1) ?_ ?_⟩
    · rintro i x σ' H4 hx ⟨s4, h4, v, o, u, rfl, G4⟩
      obtain ⟨r, er, p5, rfl, h5⟩ := prAt pr hx
      have g5 := gd r (List.mem_cons_of_mem _ (List.mem_of_getElem? er))
      have gp := low_good g5
      have li := List.getElem?_eq_some_iff.mp er |>.1
      refine ⟨p5, _, rfl, Same.seqT s4 h5, rfl, _, _, rfl, _, _, rfl, rfl, ?_⟩
      refine ⟨_, rfl, _, rfl, _, rfl, mk_ratio (by omega) (by obtain ⟨_, _, _, _⟩ := g5; exact sz_log (n := 200) (by omega) (by decide) (by decide)) fun a pp qq H6 s6 R nf => ?_⟩
      obtain ⟨rfl, rfl⟩ := low_of gp nf
      refine mk_chs (l := [lowR r]) (.cons R .nil) (fun r' hr => by rw [List.mem_singleton.mp hr]; exact low_ok g5) (by simp) (by simp) fun v7 H7 s7 G7 => ?_
      have t7 := s6.trans s7
      refine ch_add (G4.same t7) G7 (by simp; omega) fun w8 H8 s8 G8 => ?_
      have t8 := t7.trans s8
      refine ⟨s4.trans t8, t8 _ _ h4, _, _, _, rfl, ?_⟩
      have e : (r0 :: rr.take (i + 1)).map lowR = (r0 :: rr.take i).map lowR ++ [lowR r] := by
        rw [List.take_add_one, er]
        simp
      rw [e]
      exact G8
    rintro σ' H4 ⟨s4, h4, v, o, u, rfl, G4⟩
    rw [show yr.length = rr.length by omega, List.take_length] at G4
    exact ⟨_, rfl, q _ _ s4 G4⟩
end

def spLWrong (K : PySem.W.Frag) (CR : Addr) : Sp := fun vs H Q _ => ∃ (l t : Addr) (H0 : Hp), vs = [.ref l, .ref t] ∧ Drw K H0 l t H ∧ ∀ y o H', Exc t H H' → Drw K H0 l t H' → ChOf K CR H' o y → okOf o = false → itemV y → Q y H'
def spLTold (K : PySem.W.Frag) (C CR : Addr) : Sp := fun vs H Q _ => ∃ (k : Int) (x f s : V) (w : Str) (z : V), vs = [.int k, x, f, s] ∧
  ((k = 0 ∧ w = "chance" ∧ ∃ o o', ChOf K CR H o f ∧ ChOf K CR H o' s ∧ ((okOf o = false ∧ z = f) ∨ (okOf o = true ∧ okOf o' = false ∧ z = s))) ∨
   (k = 1 ∧ ∃ l o, Chs K C CR H x l ∧ scalV f = true ∧ ChOf K CR H o s ∧ ((copyOk l.length f = false ∧ w = "copy" ∧ z = f) ∨ ((∃ n : Nat, f = .int n ∧ n < l.length) ∧ okOf o = false ∧ w = "chance" ∧ z = s))) ∨
   (k = 2 ∧ ∃ l, Chs K C CR H x l ∧ scalV f = true ∧ copyOk l.length f = false ∧ w = "copy" ∧ z = f) ∨
   (k = 3 ∧ ∃ l l', Chs K C CR H x l ∧ Chs K C CR H s l' ∧ 8 < l.length + l'.length ∧ w = "copies" ∧ z = .int (l.length + l'.length : Nat)) ∨
   (k = 4 ∧ w = "copies" ∧ z = .int 0)) ∧
  ∀ p H', Same H H' → H' p = some (.tup [.str "bad", .str w, z]) → Q (.ref p) H'
section
variable {P : Program} {w : World} {K : PySem.W.Frag} {mg : Str → Option Value} {base : Heap}
theorem ok_l_told (T : Ctx K mg) : FnOk P w K mg base CX0 15 T.f_l_told T.fd_l_told ["_law_kind", "_law_one", "_law_first", "_law_second"] (spLTold K T.c_Chances T.c_Ratio) := by
  refine T.F_l_told.ok sc_l_told (fun vs H Q E h => ?_) (fun cdv A outer s H vs Q E hr h => ?_)
  · obtain ⟨k, x, f, s, w, z, rfl, _⟩ := h
    rfl
  · obtain ⟨k, x, f, s, w, z, rfl, c, q⟩ := h
    refine ⟨_, (pss_one (ps_try_as (i := 4) (Wout := fun _ _ _ _ => False) rfl rfl sc_l_told.nd rfl rfl ⟨rfl, by decide, Or.inl T.gc_BadNumber⟩ takes0
        (fun W pn xe tk po => (pss_cons (ps_if (pt_cmpR op_eq (pv 0) pe_int (nomark _))
          (pss_one (ps_ret (StX.pe_makeR T.M_Chances (ok_Chances_init T) (hr.mono (by decide)) (by rfl) T.gc_Chances (passLenN (n := 5) tk rfl) (pa_cons (pv 2) (pa_cons (pv 3) pa_nil)))))
          pss_nil)
        (pss_cons (ps_if (pt_cmpR op_eq (pv 0) pe_int (nomark _))
          (pss_one (ps_ret (pe_meth (pv 1) T.cl_Chances T.me_Chances_with_chance (ok_Chances_with_chance T) (hr.mono (by decide)) T.b_Chances_with_chance .nil (passLenN (n := 5) tk rfl) (pa_cons (pv 2) (pa_cons (pv 3) pa_nil)))))
          pss_nil)
        (pss_cons (ps_if (pt_cmpR op_eq (pv 0) pe_int (nomark _))
          (pss_one (ps_ret (pe_ixO T.me_Chances_getitem.at_ T.me_Chances_getitem.fn (fun_fnIn T.F_Chances_getitem) (ok_Chances_getitem T) (hr.mono (by decide)) T.b_Chances_getitem (passLenN (n := 5) tk rfl) (pv 1) (pv 2))))
          pss_nil)
        (pss_cons (ps_if (pt_cmpR op_eq (pv 0) pe_int (nomark _))
          (pss_one (ps_ret (pe_op (op_ownB T.oc_Chances T.oh_Chances_add T.me_Chances_add.fn (ok_Chances_add T) (hr.mono (by decide)) T.b_Chances_add (passLenN (n := 5) tk rfl)) (pv 1) (pv 3))))
          pss_nil)
        (pss_one (ps_ret (pe_makeR0 T.M_Chances (ok_Chances_init T) (hr.mono (by decide)) (by rfl) T.gc_Chances (passLenN (n := 5) tk rfl)))))))))
        (fun a oe cls d pn hz hf => (pss_one (ps_ret (pe_tup (pa_cons pe_str (pa_cons (pe_xf T.xf_BadNumber T.n_BadNumber_what hz hf (pv 4)) (pa_cons (pe_xf T.xf_BadNumber T.n_BadNumber_value hz hf (pv 4)) pa_nil))))))))), ?_⟩
    rcases c with ⟨rfl, rfl, o, o', c1, c2, c3⟩ | ⟨rfl, l, o, G, sf, cs, c3⟩ | ⟨rfl, l, G, sf, cf, rfl, rfl⟩ | ⟨rfl, l, l', G, G', l8, rfl, rfl⟩ | ⟨rfl, rfl, rfl⟩
    · refine ⟨_, rfl, rfl, _, rfl, ite2 (fun _ => ?_) fun c => absurd (decide_eq_true rfl) c⟩
      refine ⟨_, rfl, _, rfl, any_chs (xs := [o, o']) (.cons c1 (.cons c2 .nil)) (by simp) (fun z => by simp at z) fun _ _ => ⟨fun i y hy hall hb => ?_, fun l e ok a H' s G => ?_⟩⟩
      · rcases c3 with ⟨c3, rfl⟩ | ⟨c3, c4, rfl⟩
        · obtain rfl : i = 0 := by
            rcases i with _ | i
            · rfl
            · have := hall o (by simp)
              rw [c3] at this
              cases this
          obtain rfl : z = y := by simpa using hy
          exact fun d H' nd sm hx σ hσ => by obtain ⟨z1, z2, z3, z4, z5, rfl⟩ := len5 hσ; exact ⟨true, T.ex_BadNumber_BadNumber, fun _ q0 nq0 => ⟨.ref q0, rfl, rfl, rfl, d, _, _, rfl, hx, rfl, _, rfl, rfl, rfl, d, _, _, rfl, hx, rfl, (by show 3 ≤ sizeLine; decide), fun tt ht => q tt _ (same_upd2 sm (sm.free ht)) upd_same⟩, fun z => nomatch z⟩
        · obtain rfl : i = 1 := by
            rcases i with _ | _ | i
            · simp [c3] at hb
            · rfl
            · simp at hb
          obtain rfl : z = y := by simpa using hy
          exact fun d H' nd sm hx σ hσ => by obtain ⟨z1, z2, z3, z4, z5, rfl⟩ := len5 hσ; exact ⟨true, T.ex_BadNumber_BadNumber, fun _ q0 nq0 => ⟨.ref q0, rfl, rfl, rfl, d, _, _, rfl, hx, rfl, _, rfl, rfl, rfl, d, _, _, rfl, hx, rfl, (by show 3 ≤ sizeLine; decide), fun tt ht => q tt _ (same_upd2 sm (sm.free ht)) upd_same⟩, fun z => nomatch z⟩
      · obtain ⟨r, r', rfl⟩ : ∃ r r', l = [r, r'] := by
          have e2 := congrArg List.length e
          simp at e2
          match l, e2 with
          | [r, r'], _ => exact ⟨r, r', rfl⟩
        simp at e
        obtain ⟨rfl, rfl⟩ := e
        have o1 := ok r (by simp)
        have o2 := ok r' (by simp)
        rcases c3 with ⟨c3, _⟩ | ⟨c3, c4, _⟩
        · exact absurd (o1.symm.trans c3) (by decide)
        · exact absurd (o2.symm.trans c4) (by decide)
    · refine ⟨_, rfl, rfl, _, rfl, ite2 (fun c => absurd (of_decide_eq_true c) (by decide)) fun _ => ?_⟩
      refine ⟨_, rfl, rfl, _, rfl, ite2 (fun _ => ?_) fun c => absurd (decide_eq_true rfl) c⟩
      refine ⟨_, rfl, G.meth (by decide +kernel) ⟨_, rfl, _, rfl, x, f, s, l, o, rfl, G, sf, cs, fun cf => ?_, fun n en hn => ⟨fun ok => ?_, fun r er ok v H' s1 G1 => ?_⟩⟩⟩
      · rcases c3 with ⟨_, rfl, rfl⟩ | ⟨⟨n, rfl, hn⟩, _⟩
        · exact fun d H' nd sm hx σ hσ => by obtain ⟨z1, z2, z3, z4, z5, rfl⟩ := len5 hσ; exact ⟨true, T.ex_BadNumber_BadNumber, fun _ q0 nq0 => ⟨.ref q0, rfl, rfl, rfl, d, _, _, rfl, hx, rfl, _, rfl, rfl, rfl, d, _, _, rfl, hx, rfl, (by show 3 ≤ sizeLine; decide), fun tt ht => q tt _ (same_upd2 sm (sm.free ht)) upd_same⟩, fun z => nomatch z⟩
        · exact absurd (copyOk_nat hn) (by rw [cf]; decide)
      · rcases c3 with ⟨cf, rfl, rfl⟩ | ⟨_, _, rfl, rfl⟩
        · subst en
          exact absurd (copyOk_nat hn) (by rw [cf]; decide)
        · exact fun d H' nd sm hx σ hσ => by obtain ⟨z1, z2, z3, z4, z5, rfl⟩ := len5 hσ; exact ⟨true, T.ex_BadNumber_BadNumber, fun _ q0 nq0 => ⟨.ref q0, rfl, rfl, rfl, d, _, _, rfl, hx, rfl, _, rfl, rfl, rfl, d, _, _, rfl, hx, rfl, (by show 3 ≤ sizeLine; decide), fun tt ht => q tt _ (same_upd2 sm (sm.free ht)) upd_same⟩, fun z => nomatch z⟩
      · subst en
        subst er
        rcases c3 with ⟨cf, rfl, rfl⟩ | ⟨_, c4, rfl, rfl⟩
        · exact absurd (copyOk_nat hn) (by rw [cf]; decide)
        · exact absurd (ok.symm.trans c4) (by decide)
    · refine ⟨_, rfl, rfl, _, rfl, ite2 (fun c => absurd (of_decide_eq_true c) (by decide)) fun _ => ?_⟩
      refine ⟨_, rfl, rfl, _, rfl, ite2 (fun c => absurd (of_decide_eq_true c) (by decide)) fun _ => ?_⟩
      refine ⟨_, rfl, rfl, _, rfl, ite2 (fun _ => ?_) fun c => absurd (decide_eq_true rfl) c⟩
      refine ⟨_, rfl, _, rfl, G.isC, x, z, l, rfl, G, sf, fun n r e er => ?_, fun cf => fun d H' nd sm hx σ hσ => by obtain ⟨z1, z2, z3, z4, z5, rfl⟩ := len5 hσ; exact ⟨true, T.ex_BadNumber_BadNumber, fun _ q0 nq0 => ⟨.ref q0, rfl, rfl, rfl, d, _, _, rfl, hx, rfl, _, rfl, rfl, rfl, d, _, _, rfl, hx, rfl, (by show 3 ≤ sizeLine; decide), fun tt ht => q tt _ (same_upd2 sm (sm.free ht)) upd_same⟩, fun z => nomatch z⟩⟩
      subst e
      have hn := List.getElem?_eq_some_iff.mp er |>.1
      exact absurd (copyOk_nat hn) (by rw [cf]; decide)
    · refine ⟨_, rfl, rfl, _, rfl, ite2 (fun c => absurd (of_decide_eq_true c) (by decide)) fun _ => ?_⟩
      refine ⟨_, rfl, rfl, _, rfl, ite2 (fun c => absurd (of_decide_eq_true c) (by decide)) fun _ => ?_⟩
      refine ⟨_, rfl, rfl, _, rfl, ite2 (fun c => absurd (of_decide_eq_true c) (by decide)) fun _ => ?_⟩
      refine ⟨_, rfl, rfl, _, rfl, ite2 (fun _ => ?_) fun c => absurd (decide_eq_true rfl) c⟩
      exact ⟨_, rfl, _, rfl, G.isC, G'.isC, x, s, l, l', rfl, G, G', fun z => by omega, fun _ => fun d H' nd sm hx σ hσ => by obtain ⟨z1, z2, z3, z4, z5, rfl⟩ := len5 hσ; exact ⟨true, T.ex_BadNumber_BadNumber, fun _ q0 nq0 => ⟨.ref q0, rfl, rfl, rfl, d, _, _, rfl, hx, rfl, _, rfl, rfl, rfl, d, _, _, rfl, hx, rfl, (by show 3 ≤ sizeLine; decide), fun tt ht => q tt _ (same_upd2 sm (sm.free ht)) upd_same⟩, fun z => nomatch z⟩⟩
    · refine ⟨_, rfl, rfl, _, rfl, ite2 (fun c => absurd (of_decide_eq_true c) (by decide)) fun _ => ?_⟩
      refine ⟨_, rfl, rfl, _, rfl, ite2 (fun c => absurd (of_decide_eq_true c) (by decide)) fun _ => ?_⟩
      refine ⟨_, rfl, rfl, _, rfl, ite2 (fun c => absurd (of_decide_eq_true c) (by decide)) fun _ => ?_⟩
      refine ⟨_, rfl, rfl, _, rfl, ite2 (fun c => absurd (of_decide_eq_true c) (by decide)) fun _ => ?_⟩
      refine any_chs (xs := []) .nil (by simp) (fun _ => fun d H' nd sm hx σ hσ => by obtain ⟨z1, z2, z3, z4, z5, rfl⟩ := len5 hσ; exact ⟨true, T.ex_BadNumber_BadNumber, fun _ q0 nq0 => ⟨.ref q0, rfl, rfl, rfl, d, _, _, rfl, hx, rfl, _, rfl, rfl, rfl, d, _, _, rfl, hx, rfl, (by show 3 ≤ sizeLine; decide), fun tt ht => q tt _ (same_upd2 sm (sm.free ht)) upd_same⟩, fun z => nomatch z⟩) fun z => by simp at z
theorem ok_l_wrong (T : Ctx K mg) : FnOk P w K mg base CX0 8 T.f_l_wrong T.fd_l_wrong ["_law_script", "_law_state"] (spLWrong K T.c_Ratio) := by
  refine T.F_l_wrong.ok sc_l_wrong (fun vs H Q E h => ?_) (fun cdv A outer s H vs Q E hr h => ?_)
  · obtain ⟨l, t, H0, rfl, _⟩ := h
    rfl
  · obtain ⟨l, t, H0, rfl, D, q⟩ := h
    refine ⟨_, (pss_cons (ps_set (i := 2) sc_l_wrong.nd rfl (Or.inl rfl) (pe_lst (pa_cons (pe_make T.M_Ratio (ok_Ratio_init T) (hr.mono (by decide)) (by rfl) T.gc_Ratio T.b_Ratio_init2 T.v_Ratio_init2 passL (pa_cons pe_int (pa_cons pe_int pa_nil))) (pa_cons (pe_make T.M_Ratio (ok_Ratio_init T) (hr.mono (by decide)) (by rfl) T.gc_Ratio T.b_Ratio_init1 T.v_Ratio_init1 passL (pa_cons pe_int pa_nil)) (pa_cons (pe_make T.M_Ratio (ok_Ratio_init T) (hr.mono (by decide)) (by rfl) T.gc_Ratio T.b_Ratio_init2 T.v_Ratio_init2 passL (pa_cons pe_int (pa_cons pe_int pa_nil))) (pa_cons (pe_make T.M_Ratio (ok_Ratio_init T) (hr.mono (by decide)) (by rfl) T.gc_Ratio T.b_Ratio_init2 T.v_Ratio_init2 passL (pa_cons pe_int (pa_cons pe_int pa_nil))) (pa_cons (pe_make T.M_Ratio (ok_Ratio_init T) (hr.mono (by decide)) (by rfl) T.gc_Ratio T.b_Ratio_init2 T.v_Ratio_init2 passL (pa_cons (pe_un un_neg pe_int) (pa_cons pe_int pa_nil))) (pa_cons (pe_make T.M_Ratio (ok_Ratio_init T) (hr.mono (by decide)) (by rfl) T.gc_Ratio T.b_Ratio_init2 T.v_Ratio_init2 passL (pa_cons pe_int (pa_cons pe_int pa_nil))) pa_nil))))))))
      (pss_cons (ps_set (i := 2) sc_l_wrong.nd rfl (Or.inl rfl) (pe_op op_cat (pv 2) (pe_lst (pa_cons pe_int (pa_cons pe_int (pa_cons pe_str (pa_cons pe_non (pa_cons pe_bl pa_nil))))))))
      (pss_one (ps_ret (pe_ix ix_list (pv 2) (pe_call (ok_l_draw T) (hr.mono (by decide)) (by rfl) T.g_l_draw T.F_l_draw.kp T.b_l_draw .nil pass0 (pa_cons (pv 0) (pa_cons (pv 1) (pa_cons (pe_callB call_len_seq (by rfl) T.m_len (by decide +kernel) (pa_cons (pv 2) pa_nil)) pa_nil)))) (fun _ _ => rfl)))))), ?_⟩
    have mk2 : ∀ (r : Int × Int) {H : Hp} {Q : Addr → Hp → Prop} {E : XK}, 0 < r.2 → r.2 < 10000 → (∀ a H', Same H H' → Rat T.c_Ratio H' (.ref a) (lowR r).1 (lowR r).2 → Q a H') →
        ∀ x dx, H x = none → H dx = none → dx ≠ x → spInit K T.c_Ratio T.c_BadNumber (.ref x :: ([.int r.1, .int r.2] ++ [])) (upd (upd H dx (.own x)) x (.ins T.c_Ratio dx [])) (fun v H2 => v = .non ∧ Q x H2) E := fun r {H Q E} h1 h2 k =>
      mk_ratio (by omega) (sz_log (n := 200) (by omega) (by decide) (by decide)) fun a pp qq H6 s6 R nf => by
        obtain ⟨rfl, rfl⟩ := low_of h1 nf
        exact k a H6 s6 R
    refine mk2 (1, 3) (by decide) (by decide) fun a1 H1 s1 R1 => ?_
    refine mk_ratio1 fun a2 H2 s2 R2 => ?_
    refine mk2 (3, 2) (by decide) (by decide) fun a3 H3 s3 R3 => ?_
    refine mk2 (1000, 1001) (by decide) (by decide) fun a4 H4 s4 R4 => ?_
    refine ⟨_, rfl, mk2 (-1, 2) (by decide) (by decide) fun a5 H5 s5 R5 => ?_⟩
    refine mk2 (499, 1000) (by decide) (by decide) fun a6 H6 s6 R6 => ?_
    refine ⟨(by show 6 ≤ sizeLine; decide), fun u7 n7 => ?_⟩
    refine ⟨_, rfl, (by show 5 ≤ sizeLine; decide), fun u8 n8 => ?_⟩
    have t6 := s1.trans (s2.trans (s3.trans (s4.trans (s5.trans s6))))
    have r1 := (R1.same (s2.trans (s3.trans (s4.trans (s5.trans s6)))))
    have r2 := (R2.same (s3.trans (s4.trans (s5.trans s6))))
    have r3 := (R3.same (s4.trans (s5.trans s6)))
    have r4 := (R4.same (s5.trans s6))
    have r5 := R5.same s6
    obtain ⟨es, ees⟩ : ∃ es, es = [V.ref a1, .ref a2, .ref a3, .ref a4, .ref a5, .ref a6, .int 1, .int 0, .str "1/2", .non, .bl true] := ⟨_, rfl⟩
    have odd : ∀ y ∈ es, itemV y ∧ ∃ o, okOf o = false ∧ ChOf K T.c_Ratio H6 o y := fun y hy => by
      have z : ∀ (p q : Int), p.natAbs < 2 ^ 200 → q.natAbs < 2 ^ 200 → Sz 200 p q := fun p q h1 h2 => ⟨h1, h2⟩
      rw [ees] at hy
      simp only [List.mem_cons, List.not_mem_nil, or_false] at hy
      rcases hy with rfl | rfl | rfl | rfl | rfl | rfl | rfl | rfl | rfl | rfl | rfl
      · exact ⟨.inr ⟨_, rfl⟩, some _, by decide +kernel, r1, z _ _ (by decide +kernel) (by decide +kernel)⟩
      · exact ⟨.inr ⟨_, rfl⟩, some (1, 1), by decide +kernel, r2, z _ _ (by decide +kernel) (by decide +kernel)⟩
      · exact ⟨.inr ⟨_, rfl⟩, some _, by decide +kernel, r3, z _ _ (by decide +kernel) (by decide +kernel)⟩
      · exact ⟨.inr ⟨_, rfl⟩, some _, by decide +kernel, r4, z _ _ (by decide +kernel) (by decide +kernel)⟩
      · exact ⟨.inr ⟨_, rfl⟩, some _, by decide +kernel, r5, z _ _ (by decide +kernel) (by decide +kernel)⟩
      · exact ⟨.inr ⟨_, rfl⟩, some _, by decide +kernel, R6, z _ _ (by decide +kernel) (by decide +kernel)⟩
      · exact ⟨.inl rfl, none, rfl, fun _ => ⟨_, .base (.int _), T.ki_int_Ratio⟩⟩
      · exact ⟨.inl rfl, none, rfl, fun _ => ⟨_, .base (.int _), T.ki_int_Ratio⟩⟩
      · exact ⟨.inl (by decide +kernel), none, rfl, fun _ => ⟨_, .base (.str _), T.ki_str_Ratio⟩⟩
      · exact ⟨.inl rfl, none, rfl, fun _ => ⟨_, .base .non, T.ki_NoneType_Ratio⟩⟩
      · exact ⟨.inl rfl, none, rfl, fun _ => ⟨_, .base (.bl _), T.ki_bool_Ratio⟩⟩
    have le : es.length = 11 := by rw [ees] <;> rfl
    have s7 := same_upd (o := .lst [V.ref a1, .ref a2, .ref a3, .ref a4, .ref a5, .ref a6]) n7
    have s8 := s7.trans (same_upd (o := .lst [V.int 1, .int 0, .str "1/2", .non, .bl true]) n8)
    refine ⟨u7, u8, [V.ref a1, .ref a2, .ref a3, .ref a4, .ref a5, .ref a6], _, rfl, rfl, same_upd n8 _ _ upd_same, upd_same, (by show 11 ≤ sizeLine; decide), fun u9 n9 => ?_⟩
    rw [show [V.ref a1, .ref a2, .ref a3, .ref a4, .ref a5, .ref a6] ++ [V.int 1, .int 0, .str "1/2", .non, .bl true] = es from ees.symm]
    have s9 := s8.trans (same_upd (o := .lst es) n9)
    have ne9 : u9 ≠ t := (D.mono (t6.trans s8)).ne n9
    refine ⟨_, rfl, _, rfl, _, rfl, _, rfl, u9, es, rfl, .inl (SqL.of upd_same), l, t, _, H0, rfl, D.mono (t6.trans s9), by omega, by omega, fun y H' c1 c2 b D' => ?_⟩
    obtain ⟨yn, rfl⟩ : ∃ yn : Nat, y = (yn : Int) := ⟨y.toNat, by omega⟩
    have hy : es[yn]? = some (es[yn]'(by omega)) := List.getElem?_eq_getElem (by omega)
    refine ⟨u9, es, _, _, rfl, rfl, SqL.of ((b u9 ne9).trans upd_same), atI_nat hy, ?_⟩
    obtain ⟨iv, o, ho, ch⟩ := odd _ (List.mem_of_getElem? hy)
    exact q _ o _ ((exc_same (t6.trans s9)).trans b.exc) D' ((ch.same s9).sameT (But.t (D.mono (t6.trans s9)) b)) ho iv
end
def spLaw (K : PySem.W.Frag) : Sp := fun vs H Q _ => ∃ (a : Addr) (ns : List Int), vs = [.ref a] ∧ SqL K H a (ns.map V.int) ∧ ns.length ≤ 63 ∧ ∀ H', Q (.bl true) H'
theorem items {w : Str} {z : V} (h : itemV z) (s : PyData.strOk w = true) : ∀ x ∈ [V.str "bad", .str w, z], itemV x := fun x hx => by
  simp only [List.mem_cons, List.not_mem_nil, or_false] at hx
  rcases hx with rfl | rfl | rfl
  · exact .inl (by decide +kernel)
  · exact .inl s
  · exact h
theorem cut_k (xs : List V) (k : Nat) : cutV xs none (some (k : Int)) = xs.take k := by
  unfold cutV
  rw [HT.sIx_nat, HT.sIx_none, List.drop_zero, Nat.sub_zero, List.take_eq_take_iff]
  omega
theorem cut_from (xs : List V) (k : Nat) : cutV xs (some (k : Int)) none = xs.drop k := by
  unfold cutV
  rw [HT.sIx_nat, HT.sIx_none]
  rcases Nat.lt_or_ge k xs.length with h | h
  · rw [Nat.min_eq_left (by omega), List.take_of_length_le (by rw [List.length_drop]; omega)]
  · rw [Nat.min_eq_right h, List.drop_length, List.drop_eq_nil_of_le h, List.take_nil]
theorem prDrop {α β : Type} {F : α → β → Prop} : ∀ {xs : List α} {ys : List β} (k : Nat), Paired F xs ys → Paired F (xs.drop k) (ys.drop k)
  | _, _, 0, h => by rw [List.drop_zero, List.drop_zero]; exact h
  | _, _, _ + 1, .nil => by rw [List.drop_nil, List.drop_nil]; exact .nil
  | _, _, k + 1, .cons _ t => by rw [List.drop_succ_cons, List.drop_succ_cons]; exact prDrop k t
theorem set_cut {α : Type} {l : List α} {k : Nat} {r : α} (h : k < l.length) : l.set k r = l.take k ++ [r] ++ l.drop (k + 1) := by
  rw [List.set_eq_take_append_cons_drop, if_pos h, List.append_assoc]
  rfl
theorem low_small {r : Int × Int} (g : goodR r) : (lowR r).2 ≤ 12 := by
  have n := low_nf (low_good g)
  have := n.le2
  obtain ⟨g1, g2, _, _⟩ := g
  have := n.pos
  omega
theorem prRep {α β : Type} {F : α → β → Prop} {x : α} {y : β} (h : F x y) : ∀ m : Nat, Paired F (List.replicate m x) (List.replicate m y)
  | 0 => .nil
  | m + 1 => .cons h (prRep h m)
theorem good12 : goodR (1, 2) := ⟨by decide, by decide, by decide, by decide⟩
theorem good_rep {m : Nat} : ∀ r ∈ List.replicate m ((1 : Int), (2 : Int)), goodR r := fun r hr => by
  rw [List.eq_of_mem_replicate hr]
  exact good12
theorem flat_one {α : Type} (x : α) (m : Nat) : (List.replicate m [x]).flatten = List.replicate m x := by
  induction m with
  | zero => rfl
  | succ m ih => rw [List.replicate_succ, List.flatten_cons, ih, List.replicate_succ] <;> rfl
/-- what the law keeps -/
structure LS (K : PySem.W.Frag) (C CR : Addr) (H0 : Hp) (l t p3 p5 : Addr) (rs : List (Int × Int)) (ys zs : List V) (v : V) (H : Hp) : Prop where
  dr : Drw K H0 l t H
  hp : H p3 = some (.lst ys)
  pr : Paired (fun r y => PrT K H r y) rs ys
  ch : Chs K C CR H v (rs.map lowR)
  hq : H p5 = some (.lst zs)
  ra : Rats CR H (rs.map lowR) zs
theorem LS.same {K : PySem.W.Frag} {C CR : Addr} {H0 H H' : Hp} {l t p3 p5 : Addr} {rs : List (Int × Int)} {ys zs : List V} {v : V} (h : LS K C CR H0 l t p3 p5 rs ys zs v H) (e : Same H H') : LS K C CR H0 l t p3 p5 rs ys zs v H' :=
  ⟨h.dr.mono e, e _ _ h.hp, prImp (fun _ _ z => z.same e) h.pr, h.ch.same e, e _ _ h.hq, h.ra.same e⟩
theorem LS.exc {K : PySem.W.Frag} {C CR : Addr} {H0 H H' : Hp} {l t p3 p5 : Addr} {rs : List (Int × Int)} {ys zs : List V} {v : V} (h : LS K C CR H0 l t p3 p5 rs ys zs v H) (n3 : p3 ≠ t) (n5 : p5 ≠ t) (b : Exc t H H') (D : Drw K H0 l t H') : LS K C CR H0 l t p3 p5 rs ys zs v H' :=
  have e := excT h.dr b
  ⟨D, b _ _ n3 h.hp, prImp (fun _ _ z => z.sameT e) h.pr, h.ch.sameT e, b _ _ n5 h.hq, h.ra.sameT e⟩
section
variable {K : PySem.W.Frag} {C CR : Addr} {H : Hp} {p q : Addr} {x y : V} {l l' : List (Int × Int)} {ys ys' : List V} {Q : VK} {g : Bool → Bool} {E : XK}
theorem rT_eq (hp : SqT K H p ys) (hq : SqT K H q ys') (h : Rats CR H l ys) (h' : Rats CR H l ys') (k : ∀ H', Same H H' → Q (.bl (g true)) H') : rCmpB (DTupB K (DIt CR)) g (.ref p) (.ref q) H Q :=
  cmp_ratsT hp hq h h' fun H' s => by rw [decide_eq_true rfl]; exact k H' s
theorem rL_eq (hp : H p = some (.lst ys)) (hq : H q = some (.lst ys')) (h : Rats CR H l ys) (h' : Rats CR H l ys') (k : ∀ H', Same H H' → Q (.bl (g true)) H') : rCmpB (DLstB (DIt CR)) g (.ref p) (.ref q) H Q :=
  cmp_ratsL hp hq h h' rfl fun H' s => by rw [decide_eq_true rfl]; exact k H' s
theorem ch_eqT (T : InsC K C) (h : Chs K C CR H x l) (h' : Chs K C CR H y l) (k : ∀ H', Same H H' → Q (.bl true) H') : rOwnC K C (spChEq K C CR) E x y H Q :=
  ch_eq T h h' fun H' s => by rw [decide_eq_true rfl]; exact k H' s
theorem ch_neF (T : InsC K C) (h : Chs K C CR H x l) (h' : Chs K C CR H y l) (k : ∀ H', Same H H' → Q (.bl false) H') : rOwnNe K C (spChEq K C CR) E x y H Q :=
  ch_ne T h h' fun H' s => by rw [decide_eq_true rfl]; exact k H' s
end
section
variable {P : Program} {w : World} {K : PySem.W.Frag} {mg : Str → Option Value} {base : Heap}
theorem ok_law (T : Ctx K mg) : FnOk P w K mg base CX0 16 T.f_law T.fd_law ["_law_script"] (spLaw K) := by
  refine T.F_law.ok sc_law (fun vs H Q E h => ?_) (fun cdv A outer s H vs Q E hr h => ?_)
  · obtain ⟨l, ns, rfl, _⟩ := h
    rfl
  · obtain ⟨l, ns, rfl, hS, hlen, q⟩ := h
    refine ⟨_, (pss_cons (ps_set (i := 1) sc_law.nd rfl (Or.inr rfl) (pe_call (ok_l_start T) (hr.mono (by decide)) (by rfl) T.g_l_start T.F_l_start.kp T.b_l_start .nil pass0 (pa_cons (pv 0) pa_nil)))
      (pss_cons (ps_setLc (i := 2) (own := [("_law_k", 3)]) (g := gName 3) (tt := tYes) rfl sc_law.nd rfl rfl (sw_true rfl rfl rfl (by decide +kernel)) (pi_range1 (by rfl) T.m_range (pa_cons (pe_op op_add pe_int (pe_call (ok_l_draw T) (hr.mono (by decide)) (by rfl) T.g_l_draw T.F_l_draw.kp T.b_l_draw .nil pass0 (pa_cons (pv 0) (pa_cons (pv 1) (pa_cons pe_int pa_nil))))) pa_nil)) (blkOk_by (own := [("_law_k", 3)]) (N := ["_law_script", "_law_state", "_law_pairs", "_law_k", "_law_made", "_law_ratios", "_law_over", "_law_under", "_law_ratio", "_law_copy", "_law_odd", "_law_good", "_law_first", "_law_changed", "_law_place", "_law_many", "_law_more", "_law_joined"]) (sc := defScope s_law) (by decide +kernel)) (fun _ _ _ _ _ => (pg_name (i := 3) sc_law.nd rfl (Or.inl rfl))) (fun _ _ _ _ _ => pts_nil) (fun _ _ _ _ _ => (pe_call (ok_l_chance T) (hr.mono (by decide)) (by rfl) T.g_l_chance T.F_l_chance.kp T.b_l_chance .nil pass0 (pa_cons (pv 0) (pa_cons (pv 1) pa_nil)))))
      (pss_cons (ps_set (i := 4) sc_law.nd rfl (Or.inr rfl) (pe_call (ok_l_chances T) (hr.mono (by decide)) (by rfl) T.g_l_chances T.F_l_chances.kp T.b_l_chances .nil pass0 (pa_cons (pv 2) pa_nil)))
      (pss_cons (ps_setLc (i := 5) (own := [("_law_over", 6), ("_law_under", 7)]) (g := gTup K 2 (gCons (gName 6) (gCons (gName 7) gNil))) (tt := tYes) rfl sc_law.nd rfl rfl (sw_true rfl rfl rfl (by decide +kernel)) (pi_list (pv 2)) (blkOk_by (own := [("_law_over", 6), ("_law_under", 7)]) (N := ["_law_script", "_law_state", "_law_pairs", "_law_k", "_law_made", "_law_ratios", "_law_over", "_law_under", "_law_ratio", "_law_copy", "_law_odd", "_law_good", "_law_first", "_law_changed", "_law_place", "_law_many", "_law_more", "_law_joined"]) (sc := defScope s_law) (by decide +kernel)) (fun _ _ _ _ _ => (pg_tup rfl (pgs_cons (pg_name (i := 6) sc_law.nd rfl (Or.inl rfl)) (pgs_cons (pg_name (i := 7) sc_law.nd rfl (Or.inl rfl)) pgs_nil)))) (fun _ _ _ _ _ => pts_nil) (fun _ _ _ _ _ => (pe_make T.M_Ratio (ok_Ratio_init T) (hr.mono (by decide)) (by rfl) T.gc_Ratio T.b_Ratio_init2 T.v_Ratio_init2 passL (pa_cons (pv 6) (pa_cons (pv 7) pa_nil)))))
      (Evl.pss_cut (ps_if (PW.pt (pw_or (pt_cmpR (op_cmpB (fun _ _ => rfl) (rcB_tupN mon_it (eqB_it (ok_Ratio_eq T) T.me_Ratio_eq.at_ T.me_Ratio_eq.fn T.b_Ratio_eq pass0)) (hr.mono (by decide))) (pe_fld (pv 4) rfl) (pe_callTy call_tuple_of (by rfl) T.m_tuple (by decide +kernel) (pa_cons (pv 5) pa_nil)) (nomark _)) (pw_or (pt_cmpR op_ne (pe_callB (call_lenO T.me_Chances_len.at_ T.me_Chances_len.fn (ok_Chances_len T) (hr.mono (by decide)) T.b_Chances_len pass0) (by rfl) T.m_len (by decide +kernel) (pa_cons (pv 4) pa_nil)) (pe_callB call_len_seq (by rfl) T.m_len (by decide +kernel) (pa_cons (pv 2) pa_nil)) (nomark _)) (pw_or1 (pt_cmpR (op_cmpB (fun _ _ => rfl) (rcB_lstN mon_it (eqB_it (ok_Ratio_eq T) T.me_Ratio_eq.at_ T.me_Ratio_eq.fn T.b_Ratio_eq pass0)) (hr.mono (by decide))) (pe_lc (own := [("_law_ratio", 8)]) (g := gName 8) (tt := tYes) rfl sc_law.nd (pi_own T.me_Chances_iter.at_ T.me_Chances_iter.fn (ok_Chances_iter T) (hr.mono (by decide)) T.b_Chances_iter (pv 4)) (blkOk_by (own := [("_law_ratio", 8)]) (N := ["_law_script", "_law_state", "_law_pairs", "_law_k", "_law_made", "_law_ratios", "_law_over", "_law_under", "_law_ratio", "_law_copy", "_law_odd", "_law_good", "_law_first", "_law_changed", "_law_place", "_law_many", "_law_more", "_law_joined"]) (sc := defScope s_law) (by decide +kernel)) (fun _ _ _ _ _ => (pg_name (i := 8) sc_law.nd rfl (Or.inl rfl))) (fun _ _ _ _ _ => pts_nil) (fun _ _ _ _ _ => (pv 8))) (pv 5) (nomark _))))))
        (pss_one (ps_ret pe_bl))
        pss_nil)
      (Evl.pss_cut (ps_if (PW.pt (pw_or (pt_cmpR (op_cmpB (fun _ _ => rfl) (rcB_lstN mon_it (eqB_it (ok_Ratio_eq T) T.me_Ratio_eq.at_ T.me_Ratio_eq.fn T.b_Ratio_eq pass0)) (hr.mono (by decide))) (pe_lc (own := [("_law_copy", 9)]) (g := gName 9) (tt := tYes) rfl sc_law.nd (pi_range1 (by rfl) T.m_range (pa_cons (pe_callB call_len_seq (by rfl) T.m_len (by decide +kernel) (pa_cons (pv 2) pa_nil)) pa_nil)) (blkOk_by (own := [("_law_copy", 9)]) (N := ["_law_script", "_law_state", "_law_pairs", "_law_k", "_law_made", "_law_ratios", "_law_over", "_law_under", "_law_ratio", "_law_copy", "_law_odd", "_law_good", "_law_first", "_law_changed", "_law_place", "_law_many", "_law_more", "_law_joined"]) (sc := defScope s_law) (by decide +kernel)) (fun _ _ _ _ _ => (pg_name (i := 9) sc_law.nd rfl (Or.inl rfl))) (fun _ _ _ _ _ => pts_nil) (fun _ _ _ _ _ => (pe_ixO T.me_Chances_getitem.at_ T.me_Chances_getitem.fn (fun_fnIn T.F_Chances_getitem) (ok_Chances_getitem T) (hr.mono (by decide)) T.b_Chances_getitem passL (pv 4) (pv 9)))) (pv 5) (nomark _)) (pw_or1 (pt_cmpR (op_ownNe T.oc_Chances T.me_Chances_eq.at_ T.me_Chances_eq.fn (ok_Chances_eq T) (hr.mono (by decide)) T.b_Chances_eq pass0) (pv 4) (pe_call (ok_l_chances T) (hr.mono (by decide)) (by rfl) T.g_l_chances T.F_l_chances.kp T.b_l_chances .nil pass0 (pa_cons (pv 2) pa_nil)) (nomark _)))))
        (pss_one (ps_ret pe_bl))
        pss_nil)
      (pss_cons (ps_set (i := 10) sc_law.nd rfl (Or.inl rfl) (pe_call (ok_l_wrong T) (hr.mono (by decide)) (by rfl) T.g_l_wrong T.F_l_wrong.kp T.b_l_wrong .nil pass0 (pa_cons (pv 0) (pa_cons (pv 1) pa_nil))))
      (pss_cons (ps_set (i := 11) sc_law.nd rfl (Or.inl rfl) (pe_make T.M_Ratio (ok_Ratio_init T) (hr.mono (by decide)) (by rfl) T.gc_Ratio T.b_Ratio_init2 T.v_Ratio_init2 passL (pa_cons pe_int (pa_cons pe_int pa_nil))))
      (pss_cons (ps_for PassesOwn.never rfl (pi_list (pe_lst (pa_cons (pv 10) (pa_cons (pv 11) pa_nil)))) (pg_name (i := 12) sc_law.nd rfl (Or.inl rfl))
        (pss_one (ps_if (pt_cmpR (op_cmpB (fun _ _ => rfl) (rcB_tupN mon_it (eqB_it (ok_Ratio_eq T) T.me_Ratio_eq.at_ T.me_Ratio_eq.fn T.b_Ratio_eq pass0)) (hr.mono (by decide))) (pe_call (ok_l_told T) (hr.mono (by decide)) (by rfl) T.g_l_told T.F_l_told.kp T.b_l_told .nil pass0 (pa_cons pe_int (pa_cons (pv 4) (pa_cons (pv 12) (pa_cons (pv 10) pa_nil))))) (pe_tup (pa_cons pe_str (pa_cons pe_str (pa_cons (pv 10) pa_nil)))) (nomark _))
          (pss_one (ps_ret pe_bl))
          pss_nil)))
      (pss_cons (ps_set (i := 9) sc_law.nd rfl (Or.inl rfl) (pe_call (ok_l_draw T) (hr.mono (by decide)) (by rfl) T.g_l_draw T.F_l_draw.kp T.b_l_draw .nil pass0 (pa_cons (pv 0) (pa_cons (pv 1) (pa_cons (pe_callB call_len_seq (by rfl) T.m_len (by decide +kernel) (pa_cons (pv 2) pa_nil)) pa_nil)))))
      (pss_cons (ps_set (i := 13) sc_law.nd rfl (Or.inl rfl) (pe_meth (pv 4) T.cl_Chances T.me_Chances_with_chance (ok_Chances_with_chance T) (hr.mono (by decide)) T.b_Chances_with_chance .nil passL (pa_cons (pv 9) (pa_cons (pv 11) pa_nil))))
      (Evl.pss_cut (ps_if (PW.pt (pw_or (pt_cmpR (op_cmpB (fun _ _ => rfl) (rcB_tupN mon_it (eqB_it (ok_Ratio_eq T) T.me_Ratio_eq.at_ T.me_Ratio_eq.fn T.b_Ratio_eq pass0)) (hr.mono (by decide))) (pe_fld (pv 13) rfl) (pe_callTy call_tuple_of (by rfl) T.m_tuple (by decide +kernel) (pa_cons (pe_op op_cat (pe_op op_cat (pe_slice sl_list (pv 5) po_none (po_some (pv 9))) (pe_lst (pa_cons (pv 11) pa_nil))) (pe_slice sl_list (pv 5) (po_some (pe_op op_add (pv 9) pe_int)) po_none)) pa_nil)) (nomark _)) (pw_or1 (pt_cmpR (op_ownC (fun _ _ => rfl) T.me_Chances_eq.at_ T.me_Chances_eq.fn (ok_Chances_eq T) (hr.mono (by decide)) T.b_Chances_eq pass0) (pv 13) (pv 4) (nomark _)))))
        (pss_one (ps_ret pe_bl))
        pss_nil)
      (pss_cons (ps_if (pt_cmpR (op_cmpB (fun _ _ => rfl) (rcB_tupN mon_it (eqB_it (ok_Ratio_eq T) T.me_Ratio_eq.at_ T.me_Ratio_eq.fn T.b_Ratio_eq pass0)) (hr.mono (by decide))) (pe_call (ok_l_told T) (hr.mono (by decide)) (by rfl) T.g_l_told T.F_l_told.kp T.b_l_told .nil pass0 (pa_cons pe_int (pa_cons (pv 4) (pa_cons (pv 9) (pa_cons (pv 10) pa_nil))))) (pe_tup (pa_cons pe_str (pa_cons pe_str (pa_cons (pv 10) pa_nil)))) (nomark _))
        (pss_one (ps_ret pe_bl))
        pss_nil)
      (pss_cons (ps_for PassesOwn.never rfl (pi_list (pe_lst (pa_cons (pe_un un_neg pe_int) (pa_cons (pe_callB call_len_seq (by rfl) T.m_len (by decide +kernel) (pa_cons (pv 2) pa_nil)) (pa_cons pe_bl (pa_cons pe_non (pa_cons (pe_op op_pow pe_int pe_int) pa_nil))))))) (pg_name (i := 14) sc_law.nd rfl (Or.inl rfl))
        (pss_cons (ps_if (pt_cmpR (op_cmpB (fun _ _ => rfl) (rcB_tupN mon_it (eqB_it (ok_Ratio_eq T) T.me_Ratio_eq.at_ T.me_Ratio_eq.fn T.b_Ratio_eq pass0)) (hr.mono (by decide))) (pe_call (ok_l_told T) (hr.mono (by decide)) (by rfl) T.g_l_told T.F_l_told.kp T.b_l_told .nil pass0 (pa_cons pe_int (pa_cons (pv 4) (pa_cons (pv 14) (pa_cons (pv 10) pa_nil))))) (pe_tup (pa_cons pe_str (pa_cons pe_str (pa_cons (pv 14) pa_nil)))) (nomark _))
          (pss_one (ps_ret pe_bl))
          pss_nil)
        (pss_one (ps_if (pt_cmpR (op_cmpB (fun _ _ => rfl) (rcB_tupN mon_it (eqB_it (ok_Ratio_eq T) T.me_Ratio_eq.at_ T.me_Ratio_eq.fn T.b_Ratio_eq pass0)) (hr.mono (by decide))) (pe_call (ok_l_told T) (hr.mono (by decide)) (by rfl) T.g_l_told T.F_l_told.kp T.b_l_told .nil pass0 (pa_cons pe_int (pa_cons (pv 4) (pa_cons (pv 14) (pa_cons (pv 10) pa_nil))))) (pe_tup (pa_cons pe_str (pa_cons pe_str (pa_cons (pv 14) pa_nil)))) (nomark _))
          (pss_one (ps_ret pe_bl))
          pss_nil))))
      (pss_cons (ps_set (i := 15) sc_law.nd rfl (Or.inl rfl) (pe_op op_sub pe_int (pe_callB call_len_seq (by rfl) T.m_len (by decide +kernel) (pa_cons (pv 2) pa_nil))))
      (pss_cons (ps_set (i := 16) sc_law.nd rfl (Or.inl rfl) (pe_call (ok_l_chances T) (hr.mono (by decide)) (by rfl) T.g_l_chances T.F_l_chances.kp T.b_l_chances .nil pass0 (pa_cons (pe_op op_rep (pe_lst (pa_cons (pe_tup (pa_cons pe_int (pa_cons pe_int pa_nil))) pa_nil)) (pe_callB (call_min2 rfl) (by rfl) T.m_min (by decide +kernel) (pa_cons pe_int (pa_cons (pv 15) pa_nil)))) pa_nil)))
      (Evl.pss_cut (ps_if (PW.pt (pw_and (pt_cmpR op_le (pv 15) pe_int (nomark _)) (pw_and1 (pt_cmpR (op_cmpB (fun _ _ => rfl) (rcB_tupN mon_it (eqB_it (ok_Ratio_eq T) T.me_Ratio_eq.at_ T.me_Ratio_eq.fn T.b_Ratio_eq pass0)) (hr.mono (by decide))) (pe_call (ok_l_told T) (hr.mono (by decide)) (by rfl) T.g_l_told T.F_l_told.kp T.b_l_told .nil pass0 (pa_cons pe_int (pa_cons (pv 4) (pa_cons pe_non (pa_cons (pv 16) pa_nil))))) (pe_tup (pa_cons pe_str (pa_cons pe_str (pa_cons pe_int pa_nil)))) (nomark _)))))
        (pss_one (ps_ret pe_bl))
        pss_nil)
      (Evl.pss_cut (ps_if (pt_cmpR op_gt (pv 15) pe_int (nomark _))
        (pss_cons (ps_set (i := 17) sc_law.nd rfl (Or.inl rfl) (pe_op (op_ownB T.oc_Chances T.oh_Chances_add T.me_Chances_add.fn (ok_Chances_add T) (hr.mono (by decide)) T.b_Chances_add passL) (pv 4) (pe_call (ok_l_chances T) (hr.mono (by decide)) (by rfl) T.g_l_chances T.F_l_chances.kp T.b_l_chances .nil pass0 (pa_cons (pe_op op_rep (pe_lst (pa_cons (pe_tup (pa_cons pe_int (pa_cons pe_int pa_nil))) pa_nil)) (pe_op op_sub (pv 15) pe_int)) pa_nil))))
        (pss_one (ps_if (pt_cmpR (op_cmpB (fun _ _ => rfl) (rcB_tupN mon_it (eqB_it (ok_Ratio_eq T) T.me_Ratio_eq.at_ T.me_Ratio_eq.fn T.b_Ratio_eq pass0)) (hr.mono (by decide))) (pe_fld (pv 17) rfl) (pe_op op_catA (pe_fld (pv 4) rfl) (pe_op (op_repT.or op_repT1) (pe_tup (pa_cons (pe_make T.M_Ratio (ok_Ratio_init T) (hr.mono (by decide)) (by rfl) T.gc_Ratio T.b_Ratio_init2 T.v_Ratio_init2 passL (pa_cons pe_int (pa_cons pe_int pa_nil))) pa_nil)) (pe_op op_sub (pv 15) pe_int))) (nomark _))
          (pss_one (ps_ret pe_bl))
          pss_nil)))
        pss_nil)
      (pss_one (ps_ret (pe_and (pe_cmpR (op_cmpB (fun _ _ => rfl) (rcB_tup mon_it (eqB_it (ok_Ratio_eq T) T.me_Ratio_eq.at_ T.me_Ratio_eq.fn T.b_Ratio_eq pass0)) (hr.mono (by decide))) (pe_call (ok_l_told T) (hr.mono (by decide)) (by rfl) T.g_l_told T.F_l_told.kp T.b_l_told .nil pass0 (pa_cons pe_int (pa_cons (pv 4) (pa_cons pe_non (pa_cons pe_non pa_nil))))) (pe_tup (pa_cons pe_str (pa_cons pe_str (pa_cons pe_int pa_nil)))) (nomark _)) (pe_one (pe_cmpR (op_ownC (fun _ _ => rfl) T.me_Chances_eq.at_ T.me_Chances_eq.fn (ok_Chances_eq T) (hr.mono (by decide)) T.b_Chances_eq pass0) (pv 4) (pe_call (ok_l_chances T) (hr.mono (by decide)) (by rfl) T.g_l_chances T.F_l_chances.kp T.b_l_chances .nil pass0 (pa_cons (pv 2) pa_nil)) (nomark _)))))))))))))))))))))))), ?_⟩
    refine ⟨_, rfl, l, ns, rfl, hS, fun t H1 nt D1 b1 => ?_⟩
    -- pairs
    refine ⟨_, rfl, _, rfl, l, t, 8, H, rfl, D1, by decide, by decide, fun x H2 a1 a2 b2 D2 => ?_⟩
    obtain ⟨n, hn⟩ : ∃ n : Nat, 1 + x = (n : Int) := ⟨(1 + x).toNat, by omega⟩
    refine opN (z := .int n) (congrArg V.int hn) ?_
    have n1 : 1 ≤ n := by omega
    have n8 : n ≤ 8 := by omega
    clear a1 a2 hn
    refine ⟨_, rfl, by omega, by omega, fun p3 np3 => ?_⟩
    rw [Int.toNat_natCast]
    refine lc_drawsR (fun r y H' => PrT K H' r y) (fun _ _ _ _ e h => h.sameT e) goodR n D2 np3 (by omega) ?_ ?_
    · rintro i H3 k1 hi D3 e3 t3 q
      refine ⟨rfl, _, rfl, _, rfl, l, t, H, rfl, D3, fun r p H4 g e4 D4 np hp => ?_⟩
      exact q _ r H4 e4 (excT D3 e4) D4 ⟨p, rfl, .inl (.inl hp)⟩ g
    intro H3 rs ys e3 D3 hp3 pr3 lrs gd
    have len := prLen pr3
    -- made
    refine ⟨_, rfl, p3, rs, ys, rfl, SqL.of hp3, pr3, by omega, by omega, gd, fun v4 H4 s4 G4 => ?_⟩
    -- ratios
    have mkR : ∀ (r : Int × Int) {H : Hp} {Q : Addr → Hp → Prop} {E : XK}, goodR r → (∀ a H', Same H H' → Rat T.c_Ratio H' (.ref a) (lowR r).1 (lowR r).2 → Q a H') →
        ∀ x dx, H x = none → H dx = none → dx ≠ x → spInit K T.c_Ratio T.c_BadNumber (.ref x :: ([.int r.1, .int r.2] ++ [])) (upd (upd H dx (.own x)) x (.ins T.c_Ratio dx [])) (fun v H2 => v = .non ∧ Q x H2) E := fun r {H Q E} g k => by
      obtain ⟨g1, g2, _, _⟩ := g
      exact mk_ratio (by omega) (sz_log (n := 200) (by omega) (by decide) (by decide)) fun a pp qq H6 s6 R nf => by
        obtain ⟨rfl, rfl⟩ := low_of (by omega) nf
        exact k a H6 s6 R
    have hp4 := s4 _ _ hp3
    have pr4 := prImp (fun _ _ (z : PrT K H3 _ _) => z.same s4) pr3
    refine ⟨_, rfl, p3, rfl, ⟨_, SqL.of hp4⟩, fun p5 np5 => ?_⟩
    refine lc_itA (walk_list (a := p3) (xs := ys)) (fun i => lowR (rs.getD i (0, 1))) (fun r y H' => Rat T.c_Ratio H' y r.1 r.2) (fun _ _ _ _ e h => ratT h e) np5 (fun H s => s.seq (SqL.of hp4)) (by omega) ?_ ?_
    · rintro i x H5 H6 k1 hi s5 ⟨rfl, hx⟩ h1
      obtain ⟨r, er, p6, rfl, h6⟩ := prAt pr4 hx
      rw [show rs.getD i (0, 1) = r by rw [List.getD_eq_getElem?_getD, er] <;> rfl] at h1
      refine ⟨p6, _, rfl, Same.seqT s5 h6, rfl, _, _, rfl, _, _, rfl, rfl, rfl, _, rfl, _, rfl, mkR r (gd r (List.mem_of_getElem? er)) fun a H7 s7 R => h1 _ _ s7 R⟩
    intro H5 zs s5 hp5 pr5
    rw [len, range_get lowR (0, 1) rs] at pr5
    have D4 := D3.mono s4
    have n3 : p3 ≠ t := D2.ne np3
    have n5 : p5 ≠ t := D4.ne np5
    have S5 : LS K T.c_Chances T.c_Ratio H l t p3 p5 rs ys zs v4 H5 := ⟨D4.mono s5, s5 _ _ hp4, prImp (fun _ _ z => z.same s5) pr4, G4.same s5, hp5, pr5⟩
    clear pr5 hp5 hp4 pr4 hp3 pr3 D4 s5 s4 np5 np3 G4 D3 e3 D2 b2 D1 b1
    obtain ⟨σ1, hσ1⟩ : ∃ σ1 : L2.St, σ1 = [some (.ref l), some (.ref t), some (.ref p3), none, some v4, some (.ref p5), none, none, none, none, none, none, none, none, none, none, none, none] := ⟨_, rfl⟩
    refine ⟨fun σ' H' => σ' = σ1 ∧ LS K T.c_Chances T.c_Ratio H l t p3 p5 rs ys zs v4 H', ?_, ?_⟩
    · obtain ⟨a, dx, tr, tc, ws, rfl, ha, h2, h3, _⟩ := S5.ch
      refine ⟨_, rfl, a, T.c_Chances, dx, _, _, rfl, ha, T.cl_Chances, T.n_Chances_ratios, chF_ratios _ _ _, _, rfl, p5, zs, rfl, .inl ⟨SqL.of S5.hq, fun u6 n6 => ?_⟩⟩
      have S6 := S5.same (same_upd n6 (o := .tup zs))
      refine rT_eq (Same.seqT (same_upd n6) h2) (.inl (.inl upd_same)) (h3.same (same_upd n6)) S6.ra fun H7 s7 => ⟨_, rfl, iteF ?_⟩
      have S7 := S6.same s7
      have l3 := prLen h3
      have lz := prLen S5.ra
      rw [List.length_map] at l3 lz
      refine ⟨_, rfl, _, rfl, S7.ch.isC, _, _, rfl, S7.ch, _, rfl, by rw [List.length_map]; omega, ?_⟩
      refine ⟨_, rfl, p3, ys, rfl, .inl (SqL.of S7.hp), rfl, ?_⟩
      rw [List.length_map, len, decide_eq_true rfl]
      refine ⟨_, rfl, iteF ?_⟩
      have s57 := (same_upd (o := .tup zs) n6).trans s7
      refine ⟨_, rfl, a, dx, _, tr, ws, rfl, s57 _ _ ha, chF_ratios _ _ _, Same.seqT s57 h2, fun D nD => ?_⟩
      refine lc_xsA (walk_tup (a := tr) (xs := ws)) (fun x => x) (fun a y _ => y = a) (fun _ _ _ _ _ h => h) nD (fun H s => Same.seqT (s57.trans s) h2) (by omega) ?_ ?_
      · intro i x H8 k hx s8 h1
        exact ⟨rfl, _, rfl, h1 _ _ (Same.refl _) rfl⟩
      intro H8 us s8 hD p
      rw [show us = ws by rw [paired_eq p]; simp] at hD
      have S8 := S7.same s8
      refine ⟨_, rfl, rL_eq hD S8.hq (h3.same (s57.trans s8)) S8.ra fun H9 s9 => ⟨_, rfl, iteF ⟨hσ1.symm, S8.same s9⟩⟩⟩
    rintro σ' H6 ⟨eσ, S6⟩
    rw [eσ, hσ1]
    clear eσ S5
    refine ⟨fun σ' H' => σ' = σ1 ∧ LS K T.c_Chances T.c_Ratio H l t p3 p5 rs ys zs v4 H', ?_, ?_⟩
    · refine ⟨_, rfl, p3, _, rfl, .inl (SqL.of S6.hp), _, rfl, by omega, by omega, fun D nD => ?_⟩
      rw [Int.toNat_natCast, len]
      refine lc_itA (walk_range (lo := 0) (n := rs.length)) (fun i => lowR (rs.getD i (0, 1))) (fun r y H' => Rat T.c_Ratio H' y r.1 r.2) (fun _ _ _ _ e h => ratT h e) nD (fun _ _ => trivial) (by omega) ?_ ?_
      · rintro i x H7 H8 k1 hi s7 ⟨rfl, rfl⟩ h1
        have S7 := S6.same s7
        have er : rs[i]? = some rs[i] := List.getElem?_eq_getElem hi
        rw [show rs.getD i (0, 1) = rs[i] by rw [List.getD_eq_getElem?_getD, er] <;> rfl] at h1
        refine ⟨rfl, _, rfl, _, rfl, S7.ch.isC, v4, _, _, rfl, S7.ch, rfl, fun n' r en er' y R => ?_, fun cf => ?_⟩
        · obtain rfl : n' = i := by
            have : (0 : Int) + (i : Int) = (n' : Int) := by injection en
            omega
          rw [List.getElem?_map, er] at er'
          cases er'
          exact h1 _ _ (Same.refl _) R
        · have cf : copyOk (rs.map lowR).length (.int (0 + (i : Int))) = false := cf
          rw [show (0 : Int) + (i : Int) = (i : Nat) by omega, copyOk_nat (by rw [List.length_map]; exact hi)] at cf
          cases cf
      intro H7 us s7 hD p
      rw [range_get lowR (0, 1) rs] at p
      have S7 := S6.same s7
      refine ⟨_, rfl, rL_eq hD S7.hq p S7.ra fun H8 s8 => ⟨_, rfl, iteF ?_⟩⟩
      have S8 := S7.same s8
      refine ⟨_, rfl, _, rfl, p3, rs, ys, rfl, SqL.of S8.hp, S8.pr, by omega, by omega, gd, fun v9 H9 s9 G9 => ?_⟩
      have S9 := S8.same s9
      exact ch_neF T.ic_Chances S9.ch G9 fun H10 s10 => ⟨_, rfl, iteF ⟨hσ1.symm, S9.same s10⟩⟩
    clear S6
    rintro σ' H6 ⟨eσ, S6⟩
    rw [eσ, hσ1]
    clear eσ hσ1
    -- odd, good
    refine ⟨_, rfl, _, rfl, l, t, H, rfl, S6.dr, fun odd o H7 e7 D7 ho okO iv => ?_⟩
    have S7 := S6.exc n3 n5 e7 D7
    clear S6 e7 D7
    refine mk_ratio (by decide) (sz_log (n := 200) (by decide) (by decide) (by decide)) fun gd1 pg qg H8 s8 Rg ng => ?_
    obtain ⟨rfl, rfl⟩ := low_of (r := (999, 1000)) (by decide) ng
    have S8 := S7.same s8
    have ho := ho.same s8
    have okG : okOf (some (lowR (999, 1000))) = true := by decide +kernel
    have hg : ChOf K T.c_Ratio H8 (some (lowR (999, 1000))) (.ref gd1) := ⟨Rg, ⟨by decide +kernel, by decide +kernel⟩⟩
    clear Rg S7 s8
    refine ⟨_, rfl, _, rfl, (by show 2 ≤ sizeLine; decide), fun u9 n9 => ?_⟩
    have s9 := same_upd n9 (o := .lst [odd, .ref gd1])
    have S9 := S8.same s9
    have ho := ho.same s9
    have hg := hg.same s9
    have h9 : upd H8 u9 (.lst [odd, .ref gd1]) u9 = some (.lst [odd, .ref gd1]) := upd_same
    revert S9 ho hg h9
    generalize upd H8 u9 _ = H9
    intro S9 ho hg h9
    clear s9 S8
    refine ⟨u9, rfl, ⟨_, SqL.of h9⟩, for_list (K := K) (a := u9) (xs := [odd, V.ref gd1]) (fun i σ' H' => Same H9 H' ∧ ∃ v, σ' = [some (.ref l), some (.ref t), some (.ref p3), none, some v4, some (.ref p5), none, none, none, none, some odd, some (.ref gd1), v, none, none, none, none, none])
      ⟨Same.refl _, _, rfl⟩ (fun i σ' H' _ h => SqL.of (h.1 _ _ h9)) ?_ ?_⟩
    · rintro i x σ' H10 hx ⟨s10, v, rfl⟩
      refine ⟨_, rfl, _, rfl, _, rfl, 0, v4, x, odd, "chance", odd, rfl, .inl ⟨rfl, rfl, ?_⟩, fun p11 H11 s11 h11 => ?_⟩
      · rcases i with _ | _ | i
        · cases hx
          exact ⟨o, o, ho.same s10, ho.same s10, .inl ⟨okO, rfl⟩⟩
        · cases hx
          exact ⟨_, o, hg.same s10, ho.same s10, .inr ⟨okG, okO, rfl⟩⟩
        · simp at hx
      · refine ⟨_, rfl, (by show 3 ≤ sizeLine; decide), fun p12 n12 => ?_⟩
        refine cmp_selfT (xs := [.str "bad", .str "chance", odd]) (.inl (.inl (same_upd n12 _ _ h11))) (.inl (.inl upd_same)) (items iv (by decide +kernel)) fun H13 s13 => ⟨_, rfl, iteF ?_⟩
        exact ⟨s10.trans (s11.trans ((same_upd n12).trans s13)), _, rfl⟩
    rintro σ' H10 ⟨s10, v, rfl⟩
    have S10 := S9.same s10
    have ho := ho.same s10
    have hg := hg.same s10
    clear S9 s10 h9
    -- copy
    refine ⟨_, rfl, _, rfl, _, rfl, p3, ys, rfl, .inl (SqL.of S10.hp), l, t, _, H, rfl, S10.dr, by omega, by omega, fun y H11 c1 c2 b11 D11 => ?_⟩
    have S11 := S10.exc n3 n5 b11.exc D11
    have ho := ho.sameT (But.t S10.dr b11)
    have hg := hg.sameT (But.t S10.dr b11)
    obtain ⟨c, rfl⟩ : ∃ c : Nat, y = (c : Int) := ⟨y.toNat, by omega⟩
    have hc : c < rs.length := by omega
    have hcL : c < (rs.map lowR).length := by rw [List.length_map]; exact hc
    clear c1 c2 D11 b11 S10
    -- changed
    refine ⟨_, rfl, S11.ch.meth (by decide +kernel) ⟨_, rfl, _, rfl, v4, .int c, .ref gd1, rs.map lowR, some (lowR (999, 1000)), rfl, S11.ch, rfl, hg, fun cf => absurd (copyOk_nat hcL) (by rw [cf]; decide), fun n' en hn' => ⟨fun bad => absurd okG (by rw [bad]; decide), fun r er okr v13 H13 s13 G13 => ?_⟩⟩⟩
    cases er
    obtain rfl : n' = c := by
      have : (c : Int) = (n' : Int) := by injection en
      omega
    have S13 := S11.same s13
    have ho := ho.same s13
    have hg := hg.same s13
    clear S11 s13 en hn' okr
    obtain ⟨σ3, hσ3⟩ : ∃ σ3 : L2.St, σ3 = [some (.ref l), some (.ref t), some (.ref p3), none, some v4, some (.ref p5), none, none, none, some (.int n'), some odd, some (.ref gd1), v, some v13, none, none, none, none] := ⟨_, rfl⟩
    refine ⟨fun σ' H' => σ' = σ3 ∧ Same H13 H', ?_, ?_⟩
    · obtain ⟨a, dx, tr, tc, ws, rfl, ha, h2, h3, _⟩ := id G13
      refine ⟨_, rfl, a, T.c_Chances, dx, _, _, rfl, ha, T.cl_Chances, T.n_Chances_ratios, chF_ratios _ _ _, ?_⟩
      have lz := prLen S13.ra
      rw [List.length_map] at lz
      refine ⟨_, rfl, _, rfl, _, rfl, p5, zs, rfl, SqL.of S13.hq, fun u1 g1 => ?_⟩
      rw [cut_k]
      have t1 := same_upd (o := .lst (zs.take n')) g1
      refine ⟨_, rfl, (by show 1 ≤ sizeLine; decide), fun u2 g2 => ?_⟩
      have t2 := t1.trans (same_upd (o := .lst [.ref gd1]) g2)
      refine ⟨u1, u2, _, _, rfl, rfl, same_upd g2 _ _ upd_same, upd_same, ?_, fun u3 g3 => ?_⟩
      · have e : (100 : Nat) ≤ sizeLine := by decide
        rw [List.length_take]
        show _ + 1 ≤ _
        omega
      have t3 := t2.trans (same_upd (o := .lst (zs.take n' ++ [.ref gd1])) g3)
      refine ⟨_, rfl, _, rfl, _, _, rfl, rfl, _, rfl, p5, zs, rfl, SqL.of (t3 _ _ S13.hq), fun u4 g4 => ?_⟩
      have ec : cutV zs (some ((n' : Int) + 1)) none = zs.drop (n' + 1) := by rw [show (n' : Int) + 1 = ((n' + 1 : Nat) : Int) by omega]; exact cut_from zs (n' + 1)
      rw [ec]
      have t4 := t3.trans (same_upd (o := .lst (zs.drop (n' + 1))) g4)
      refine ⟨u3, u4, _, _, rfl, rfl, same_upd g4 _ _ upd_same, upd_same, ?_, fun u5 g5 => ?_⟩
      · have e : (100 : Nat) ≤ sizeLine := by decide
        rw [List.length_append, List.length_take, List.length_drop]
        show _ + 1 + _ ≤ _
        omega
      have t5 := t4.trans (same_upd (o := .lst (zs.take n' ++ [.ref gd1] ++ zs.drop (n' + 1))) g5)
      refine ⟨u5, _, rfl, .inl ⟨SqL.of upd_same, fun u6 g6 => ?_⟩⟩
      have t6 := t5.trans (same_upd (o := .tup (zs.take n' ++ [.ref gd1] ++ zs.drop (n' + 1))) g6)
      have ra : Rats T.c_Ratio (upd (upd (upd (upd (upd (upd H13 u1 (.lst (zs.take n'))) u2 (.lst [.ref gd1])) u3 (.lst (zs.take n' ++ [.ref gd1]))) u4 (.lst (zs.drop (n' + 1)))) u5 (.lst (zs.take n' ++ [.ref gd1] ++ zs.drop (n' + 1)))) u6 (.tup (zs.take n' ++ [.ref gd1] ++ zs.drop (n' + 1)))) ((rs.map lowR).set n' (lowR (999, 1000))) (zs.take n' ++ [.ref gd1] ++ zs.drop (n' + 1)) := by
        rw [set_cut hcL]
        exact prApp (prApp (prTake _ (S13.ra.same t6)) (.cons (hg.1.same t6) .nil)) (prDrop _ (S13.ra.same t6))
      refine rT_eq (Same.seqT t6 h2) (.inl (.inl upd_same)) (h3.same t6) ra fun H14 s14 => ⟨_, rfl, iteF ?_⟩
      have t7 := t6.trans s14
      refine ⟨_, rfl, _, rfl, ch_eq T.ic_Chances (G13.same t7) (S13.ch.same t7) fun H15 s15 => ?_⟩
      have ne : ¬ (rs.map lowR).set n' (lowR (999, 1000)) = rs.map lowR := fun z => by
        have z := congrArg (fun l => (l[n']?).map Prod.snd) z
        simp only [List.getElem?_set_self hcL, List.getElem?_map, List.getElem?_eq_getElem hc, Option.map_some] at z
        have := low_small (gd _ (List.getElem_mem hc))
        rw [← Option.some.inj z] at this
        exact absurd this (by decide +kernel)
      rw [decide_eq_false ne]
      exact ⟨_, rfl, iteF ⟨hσ3.symm, t7.trans s15⟩⟩
    rintro σ' H14 ⟨eσ, s14⟩
    rw [eσ, hσ3]
    clear eσ
    have S14 := S13.same s14
    have ho := ho.same s14
    clear S13 G13 hg s14
    refine ⟨_, rfl, _, rfl, _, rfl, 1, v4, .int n', odd, "chance", odd, rfl, .inr (.inl ⟨rfl, _, o, S14.ch, rfl, ho, .inr ⟨⟨n', rfl, hcL⟩, okO, rfl, rfl⟩⟩), fun p15 H15 s15 h15 => ?_⟩
    refine ⟨_, rfl, (by show 3 ≤ sizeLine; decide), fun p16 g16 => ?_⟩
    refine cmp_selfT (xs := [.str "bad", .str "chance", odd]) (.inl (.inl (same_upd g16 _ _ h15))) (.inl (.inl upd_same)) (items iv (by decide +kernel)) fun H16 s16 => ⟨_, rfl, iteF ?_⟩
    have s16 := s15.trans ((same_upd g16).trans s16)
    have S16 := S14.same s16
    have ho := ho.same s16
    clear S14 s15 s16 g16 h15
    refine ⟨_, rfl, _, rfl, p3, ys, rfl, .inl (SqL.of S16.hp), _, _, rfl, rfl, ⟨by decide, by decide, by decide⟩, (by show 5 ≤ sizeLine; decide), fun u1 g1 => ?_⟩
    obtain ⟨es, ees⟩ : ∃ es, es = [V.int (-1), .int (ys.length : Nat), .bl true, .non, .int (10 ^ 20)] := ⟨_, rfl⟩
    have bad : ∀ x ∈ es, scalV x = true ∧ copyOk (rs.map lowR).length x = false := fun x hx => by
      rw [ees] at hx
      simp only [List.mem_cons, List.not_mem_nil, or_false] at hx
      rw [List.length_map]
      rcases hx with rfl | rfl | rfl | rfl | rfl
      · exact ⟨rfl, by unfold copyOk good; simp⟩
      · exact ⟨rfl, by unfold copyOk good; simp; omega⟩
      · exact ⟨rfl, rfl⟩
      · exact ⟨rfl, rfl⟩
      · exact ⟨rfl, by unfold copyOk good; simp; omega⟩
    have le : es.length = 5 := by rw [ees] <;> rfl
    refine ⟨u1, rfl, ⟨_, SqL.of upd_same⟩, for_list (K := K) (a := u1) (xs := es) (fun i σ' H' => LS K T.c_Chances T.c_Ratio H l t p3 p5 rs ys zs v4 H' ∧ ChOf K T.c_Ratio H' o odd ∧ H' u1 = some (.lst es) ∧
        ∃ v14, σ' = [some (.ref l), some (.ref t), some (.ref p3), none, some v4, some (.ref p5), none, none, none, some (.int n'), some odd, some (.ref gd1), v, some v13, v14, none, none, none])
      ⟨S16.same (same_upd g1), ho.same (same_upd g1), by rw [ees]; exact upd_same, _, rfl⟩ (fun i σ' H' _ h => SqL.of h.2.2.1) ?_ ?_⟩
    · clear S16 ho g1
      rintro i x σ' H17 hx ⟨S17, ho, hu, v14, rfl⟩
      obtain ⟨sx, bx⟩ := bad x (List.mem_of_getElem? hx)
      refine ⟨_, rfl, _, rfl, _, rfl, 1, v4, x, odd, "copy", x, rfl, .inr (.inl ⟨rfl, _, o, S17.ch, sx, ho, .inl ⟨bx, rfl, rfl⟩⟩), fun p18 H18 s18 h18 => ?_⟩
      refine ⟨_, rfl, (by show 3 ≤ sizeLine; decide), fun p19 g19 => ?_⟩
      refine cmp_selfT (xs := [.str "bad", .str "copy", x]) (.inl (.inl (same_upd g19 _ _ h18))) (.inl (.inl upd_same)) (items (.inl sx) (by decide +kernel)) fun H19 s19 => ⟨_, rfl, iteF ?_⟩
      have t19 := s18.trans ((same_upd g19).trans s19)
      have S19 := S17.same t19
      have ho := ho.same t19
      have hu := t19 _ _ hu
      clear S17 t19 s19 s18 h18 g19
      refine ⟨_, rfl, _, rfl, _, rfl, 2, v4, x, odd, "copy", x, rfl, .inr (.inr (.inl ⟨rfl, _, S19.ch, sx, bx, rfl, rfl⟩)), fun p18 H20 s18 h18 => ?_⟩
      refine ⟨_, rfl, (by show 3 ≤ sizeLine; decide), fun p19 g19 => ?_⟩
      refine cmp_selfT (xs := [.str "bad", .str "copy", x]) (.inl (.inl (same_upd g19 _ _ h18))) (.inl (.inl upd_same)) (items (.inl sx) (by decide +kernel)) fun H21 s19 => ⟨_, rfl, iteF ?_⟩
      have t19 := s18.trans ((same_upd g19).trans s19)
      exact ⟨S19.same t19, ho.same t19, t19 _ _ hu, _, rfl⟩
    clear S16 ho g1
    rintro σ' H17 ⟨S17, _, _, v14, rfl⟩
    -- many
    refine ⟨_, rfl, p3, ys, rfl, .inl (SqL.of S17.hp), _, _, rfl, rfl, ?_⟩
    obtain ⟨k, hk⟩ : ∃ k : Nat, k = 9 - rs.length := ⟨_, rfl⟩
    have hk9 : (9 : Int) - (ys.length : Int) = (k : Int) := by omega
    show gName 15 (.int ((9 : Int) - (ys.length : Int))) _ _ _
    rw [hk9]
    have k1 : 1 ≤ k := by omega
    have k8 : k ≤ 8 := by omega
    refine ⟨(by show 2 ≤ sizeLine; decide), fun p20 g20 => ⟨(by show 1 ≤ sizeLine; decide), fun u21 g21 => ?_⟩⟩
    have t20 := same_upd (o := .tup [V.int 1, .int 2]) g20
    have t21 := t20.trans (same_upd (o := .lst [V.ref p20]) g21)
    refine ⟨_, rfl, _, _, rfl, ?_⟩
    rw [show (if (k : Int) < 8 then (k : Int) else 8) = (k : Int) by split <;> omega]
    refine ⟨u21, _, [.ref p20], rfl, rfl, upd_same, by omega, by omega, ?_, fun u22 g22 => ?_⟩
    · have e : (100 : Nat) ≤ sizeLine := by decide
      rw [Int.toNat_natCast]
      show 1 * k ≤ _
      omega
    rw [Int.toNat_natCast, flat_one]
    have t22 := t21.trans (same_upd (o := .lst (List.replicate k (V.ref p20))) g22)
    have p12 : ∀ {H'}, Same (upd (upd (upd H17 p20 (.tup [V.int 1, .int 2])) u21 (.lst [V.ref p20])) u22 (.lst (List.replicate k (V.ref p20)))) H' → PrT K H' (1, 2) (.ref p20) := fun s => ⟨p20, rfl, .inl (.inl (s _ _ (same_upd g22 _ _ (same_upd g21 _ _ upd_same))))⟩
    refine ⟨u22, List.replicate k (1, 2), List.replicate k (.ref p20), rfl, SqL.of upd_same, prRep (p12 (Same.refl _)) k, by rw [List.length_replicate]; exact k1, by rw [List.length_replicate]; exact k8, good_rep, fun v16 H23 s23 G16 => ?_⟩
    rw [List.map_replicate] at G16
    have S23 := S17.same (t22.trans s23)
    clear S17 p12 s23 t22 t21 t20 g22 g21 g20
    obtain ⟨σ4, hσ4⟩ : ∃ σ4 : L2.St, σ4 = [some (.ref l), some (.ref t), some (.ref p3), none, some v4, some (.ref p5), none, none, none, some (.int n'), some odd, some (.ref gd1), v, some v13, v14, some (.int k), some v16, none] := ⟨_, rfl⟩
    refine ⟨fun σ' H' => σ' = σ4 ∧ Same H23 H', ?_, ?_⟩
    · refine ⟨_, rfl, _, _, rfl, rfl, _, rfl, ite2 (fun _ => ?_) fun c => ⟨hσ4.symm, Same.refl _⟩⟩
      refine ⟨_, rfl, _, rfl, 3, v4, .non, v16, "copies", .int 9, rfl, .inr (.inr (.inr (.inl ⟨rfl, _, _, S23.ch, G16, ?_, rfl, ?_⟩))), fun p24 H24 s24 h24 => ?_⟩
      · rw [List.length_map, List.length_replicate]
        omega
      · rw [List.length_map, List.length_replicate, show rs.length + k = 9 by omega]
        rfl
      refine ⟨(by show 3 ≤ sizeLine; decide), fun p25 g25 => ?_⟩
      refine cmp_selfT (xs := [.str "bad", .str "copies", .int 9]) (.inl (.inl (same_upd g25 _ _ h24))) (.inl (.inl upd_same)) (items (.inl rfl) (by decide +kernel)) fun H26 s26 => ⟨_, rfl, iteF ?_⟩
      exact ⟨hσ4.symm, s24.trans ((same_upd g25).trans s26)⟩
    rintro σ' H24 ⟨eσ, s24⟩
    rw [eσ, hσ4]
    clear eσ hσ4
    have S24 := S23.same s24
    clear S23 G16 s24
    refine ⟨fun σ' H' => Same H24 H' ∧ ∃ v17, σ' = [some (.ref l), some (.ref t), some (.ref p3), none, some v4, some (.ref p5), none, none, none, some (.int n'), some odd, some (.ref gd1), v, some v13, v14, some (.int k), some v16, v17], ?_, ?_⟩
    · refine ⟨_, rfl, _, _, rfl, rfl, _, rfl, ite2 (fun c => ?_) fun c => ⟨Same.refl _, _, rfl⟩⟩
      have c := of_decide_eq_true c
      obtain ⟨m, hm⟩ : ∃ m : Nat, m = k - 1 := ⟨_, rfl⟩
      have m1 : 1 ≤ m := by omega
      refine ⟨_, rfl, (by show 2 ≤ sizeLine; decide), fun p20 g20 => ⟨(by show 1 ≤ sizeLine; decide), fun u21 g21 => ?_⟩⟩
      have t20 := same_upd (o := .tup [V.int 1, .int 2]) g20
      have t21 := t20.trans (same_upd (o := .lst [V.ref p20]) g21)
      refine ⟨_, rfl, _, _, rfl, rfl, ?_⟩
      have em : V.int ((k : Int) - 1) = V.int (m : Int) := congrArg V.int (by omega)
      refine ⟨u21, m, [.ref p20], rfl, em, upd_same, by omega, by omega, ?_, fun u22 g22 => ?_⟩
      · have e : (100 : Nat) ≤ sizeLine := by decide
        rw [Int.toNat_natCast]
        show 1 * m ≤ _
        omega
      rw [Int.toNat_natCast, flat_one]
      have t22 := t21.trans (same_upd (o := .lst (List.replicate m (V.ref p20))) g22)
      have p12 : PrT K (upd (upd (upd H24 p20 (.tup [V.int 1, .int 2])) u21 (.lst [V.ref p20])) u22 (.lst (List.replicate m (V.ref p20)))) (1, 2) (.ref p20) := ⟨p20, rfl, .inl (.inl (same_upd g22 _ _ (same_upd g21 _ _ upd_same)))⟩
      refine ⟨u22, List.replicate m (1, 2), List.replicate m (.ref p20), rfl, SqL.of upd_same, prRep p12 m, by rw [List.length_replicate]; exact m1, by rw [List.length_replicate]; omega, good_rep, fun v25 H25 s25 G25 => ?_⟩
      rw [List.map_replicate] at G25
      have S25 := S24.same (t22.trans s25)
      refine ch_add S25.ch G25 (by rw [List.length_map, List.length_replicate]; omega) fun v26 H26 s26 G26 => ?_
      have S26 := S25.same s26
      have t26 := t22.trans (s25.trans s26)
      clear S25 G25 p12 t22 t21 t20 s25 s26
      obtain ⟨a, dx, tr, tc, ws, rfl, ha, h2, h3, _⟩ := G26
      obtain ⟨b, dy, ur, uc, xs, rfl, hb, g2, g3, _⟩ := id S26.ch
      refine ⟨_, rfl, a, T.c_Chances, dx, _, _, rfl, ha, T.cl_Chances, T.n_Chances_ratios, chF_ratios _ _ _, _, rfl, b, T.c_Chances, dy, _, _, rfl, hb, T.cl_Chances, T.n_Chances_ratios, chF_ratios _ _ _, ?_⟩
      refine mkR (1, 2) good12 fun y27 H27 s27 R27 => ?_
      refine ⟨(by show 1 ≤ sizeLine; decide), fun u28 g28 => ?_⟩
      have t28 := s27.trans (same_upd (o := .tup [V.ref y27]) g28)
      have R28 := R27.same (same_upd (o := .tup [V.ref y27]) g28)
      have lxs := prLen g3
      rw [List.length_map] at lxs
      refine ⟨_, rfl, _, _, rfl, rfl, ?_⟩
      have last : ∀ (Z : VK) p H29, Same (upd H27 u28 (.tup [V.ref y27])) H29 → SqT K H29 p (List.replicate m (V.ref y27)) → (∀ H31, Same H26 H31 → Z (.bl false) H31) → rCatA K (.ref ur) (.ref p) H29 (fun z H30 => rCmpB (DTupB K (DIt T.c_Ratio)) not (.ref tr) z H30 Z) := fun Z p H29 s29 hp z => by
        have t29 := t28.trans s29
        have e : (100 : Nat) ≤ sizeLine := by decide
        refine ⟨ur, p, xs, _, rfl, rfl, Same.seqT t29 g2, hp, by rw [List.length_replicate]; omega, fun w => by rw [w] at lxs; simp at lxs; omega, fun _ w => by have := congrArg List.length w; simp at this; omega, fun _ _ u30 g30 => ?_⟩
        have t30 := t29.trans (same_upd (o := .tup (xs ++ List.replicate m (V.ref y27))) g30)
        exact rT_eq (Same.seqT t30 h2) (.inl (.inl upd_same)) (h3.same t30) (prApp (g3.same t30) (prRep (F := fun (r : Int × Int) y => Rat T.c_Ratio _ y r.1 r.2) (x := lowR (1, 2)) (R28.same (s29.trans (same_upd g30))) m)) fun H31 s31 => z _ (t30.trans s31)
      have fin : ∀ H31, Same H26 H31 → Same H24 H31 := fun H31 s => t26.trans s
      by_cases hm1 : m = 1
      · refine .inr ⟨u28, _, rfl, em.trans (by rw [hm1] <;> rfl), .inl (.inl upd_same), last _ _ _ (Same.refl _) (by rw [hm1]; exact .inl (.inl upd_same)) fun H31 s31 => ⟨_, rfl, iteF ⟨fin _ s31, _, rfl⟩⟩⟩
      · refine .inl ⟨u28, m, _, rfl, em, .inl (.inl upd_same), by simp, by omega, by omega, by simp, fun u29 g29 => ?_⟩
        rw [Int.toNat_natCast, flat_one]
        exact last _ _ _ (same_upd g29) (.inl (.inl upd_same)) fun H31 s31 => ⟨_, rfl, iteF ⟨fin _ s31, _, rfl⟩⟩
    rintro σ' H25 ⟨s25, v17, rfl⟩
    have S25 := S24.same s25
    refine ⟨_, rfl, 4, v4, .non, .non, "copies", .int 0, rfl, .inr (.inr (.inr (.inr ⟨rfl, rfl, rfl⟩))), fun p26 H26 s26 h26 => ?_⟩
    refine ⟨(by show 3 ≤ sizeLine; decide), fun p27 g27 => ?_⟩
    refine cmp_selfT (xs := [.str "bad", .str "copies", .int 0]) (.inl (.inl (same_upd g27 _ _ h26))) (.inl (.inl upd_same)) (items (.inl rfl) (by decide +kernel)) fun H28 s28 => ?_
    have S28 := S25.same (s26.trans ((same_upd g27).trans s28))
    refine ⟨_, rfl, iteT ?_⟩
    refine ⟨_, rfl, _, rfl, p3, rs, ys, rfl, SqL.of S28.hp, S28.pr, by omega, by omega, gd, fun v29 H29 s29 G29 => ?_⟩
    exact ch_eqT T.ic_Chances (S28.same s29).ch G29 fun H30 s30 => q _
end
theorem all_mk {l : PySem.W.OpenLaw} {w : World} {K : PySem.W.Frag} {h : Heap} {mg : Str → Option Value} {fa ca_VoteError ca_BadNumber ca_Ratio ca_Chances fa_BadNumber_init fa_is_integer fa_check_number fa_check_copies fa_check_copy fa_Ratio_init fa_ratio_of fa_Ratio_eq fa_Ratio_lt fa_Ratio_ge fa_Ratio_half fa_is_short fa_check_chance fa_scale_of fa_counts_of fa_Chances_init fa_Chances_eq fa_Chances_add fa_Chances_getitem fa_Chances_len fa_Chances_iter fa_Chances_with_chance fa_l_start fa_l_draw fa_l_chance fa_l_chances fa_l_told fa_l_wrong fa_law : Addr} (X : K.In h) (G : h.Ns mainGlobals mg) (hfa : mg "law" = some (.ref fa))
    {od_BadNumber_init an_BadNumber_init : Option Addr} {sl_BadNumber_init : Array (Option Value)} {oc_BadNumber_init kV_BadNumber_init dc_BadNumber_init pm_BadNumber_init cd_BadNumber_init ct_BadNumber_init : Value}
    {od_is_integer an_is_integer : Option Addr} {sl_is_integer : Array (Option Value)} {oc_is_integer kV_is_integer dc_is_integer pm_is_integer cd_is_integer ct_is_integer : Value}
    {od_check_number an_check_number : Option Addr} {sl_check_number : Array (Option Value)} {oc_check_number kV_check_number dc_check_number pm_check_number cd_check_number ct_check_number : Value}
    {od_check_copies an_check_copies : Option Addr} {sl_check_copies : Array (Option Value)} {oc_check_copies kV_check_copies dc_check_copies pm_check_copies cd_check_copies ct_check_copies : Value}
    {od_check_copy an_check_copy : Option Addr} {sl_check_copy : Array (Option Value)} {oc_check_copy kV_check_copy dc_check_copy pm_check_copy cd_check_copy ct_check_copy : Value}
    {od_Ratio_init an_Ratio_init : Option Addr} {sl_Ratio_init : Array (Option Value)} {oc_Ratio_init kV_Ratio_init dc_Ratio_init pm_Ratio_init cd_Ratio_init ct_Ratio_init : Value}
    {dt_Ratio_init : Addr} {dto_Ratio_init : Obj} {dtn_Ratio_init : Nat} {dk_Ratio_init0 : Tok}
    {od_ratio_of an_ratio_of : Option Addr} {sl_ratio_of : Array (Option Value)} {oc_ratio_of kV_ratio_of dc_ratio_of pm_ratio_of cd_ratio_of ct_ratio_of : Value}
    {od_Ratio_eq an_Ratio_eq : Option Addr} {sl_Ratio_eq : Array (Option Value)} {oc_Ratio_eq kV_Ratio_eq dc_Ratio_eq pm_Ratio_eq cd_Ratio_eq ct_Ratio_eq : Value}
    {od_Ratio_lt an_Ratio_lt : Option Addr} {sl_Ratio_lt : Array (Option Value)} {oc_Ratio_lt kV_Ratio_lt dc_Ratio_lt pm_Ratio_lt cd_Ratio_lt ct_Ratio_lt : Value}
    {od_Ratio_ge an_Ratio_ge : Option Addr} {sl_Ratio_ge : Array (Option Value)} {oc_Ratio_ge kV_Ratio_ge dc_Ratio_ge pm_Ratio_ge cd_Ratio_ge ct_Ratio_ge : Value}
    {sp_Ratio_half : Addr} {sr_Ratio_half : List Value}
    {od_Ratio_half an_Ratio_half : Option Addr} {sl_Ratio_half : Array (Option Value)} {oc_Ratio_half kV_Ratio_half dc_Ratio_half pm_Ratio_half cd_Ratio_half ct_Ratio_half : Value}
    {od_is_short an_is_short : Option Addr} {sl_is_short : Array (Option Value)} {oc_is_short kV_is_short dc_is_short pm_is_short cd_is_short ct_is_short : Value}
    {od_check_chance an_check_chance : Option Addr} {sl_check_chance : Array (Option Value)} {oc_check_chance kV_check_chance dc_check_chance pm_check_chance cd_check_chance ct_check_chance : Value}
    {od_scale_of an_scale_of : Option Addr} {sl_scale_of : Array (Option Value)} {oc_scale_of kV_scale_of dc_scale_of pm_scale_of cd_scale_of ct_scale_of : Value}
    {od_counts_of an_counts_of : Option Addr} {sl_counts_of : Array (Option Value)} {oc_counts_of kV_counts_of dc_counts_of pm_counts_of cd_counts_of ct_counts_of : Value}
    {od_Chances_init an_Chances_init : Option Addr} {sl_Chances_init : Array (Option Value)} {oc_Chances_init kV_Chances_init dc_Chances_init pm_Chances_init cd_Chances_init ct_Chances_init : Value}
    {od_Chances_eq an_Chances_eq : Option Addr} {sl_Chances_eq : Array (Option Value)} {oc_Chances_eq kV_Chances_eq dc_Chances_eq pm_Chances_eq cd_Chances_eq ct_Chances_eq : Value}
    {od_Chances_add an_Chances_add : Option Addr} {sl_Chances_add : Array (Option Value)} {oc_Chances_add kV_Chances_add dc_Chances_add pm_Chances_add cd_Chances_add ct_Chances_add : Value}
    {od_Chances_getitem an_Chances_getitem : Option Addr} {sl_Chances_getitem : Array (Option Value)} {oc_Chances_getitem kV_Chances_getitem dc_Chances_getitem pm_Chances_getitem cd_Chances_getitem ct_Chances_getitem : Value}
    {od_Chances_len an_Chances_len : Option Addr} {sl_Chances_len : Array (Option Value)} {oc_Chances_len kV_Chances_len dc_Chances_len pm_Chances_len cd_Chances_len ct_Chances_len : Value}
    {od_Chances_iter an_Chances_iter : Option Addr} {sl_Chances_iter : Array (Option Value)} {oc_Chances_iter kV_Chances_iter dc_Chances_iter pm_Chances_iter cd_Chances_iter ct_Chances_iter : Value}
    {od_Chances_with_chance an_Chances_with_chance : Option Addr} {sl_Chances_with_chance : Array (Option Value)} {oc_Chances_with_chance kV_Chances_with_chance dc_Chances_with_chance pm_Chances_with_chance cd_Chances_with_chance ct_Chances_with_chance : Value}
    {od_l_start an_l_start : Option Addr} {sl_l_start : Array (Option Value)} {oc_l_start kV_l_start dc_l_start pm_l_start cd_l_start ct_l_start : Value}
    {od_l_draw an_l_draw : Option Addr} {sl_l_draw : Array (Option Value)} {oc_l_draw kV_l_draw dc_l_draw pm_l_draw cd_l_draw ct_l_draw : Value}
    {od_l_chance an_l_chance : Option Addr} {sl_l_chance : Array (Option Value)} {oc_l_chance kV_l_chance dc_l_chance pm_l_chance cd_l_chance ct_l_chance : Value}
    {od_l_chances an_l_chances : Option Addr} {sl_l_chances : Array (Option Value)} {oc_l_chances kV_l_chances dc_l_chances pm_l_chances cd_l_chances ct_l_chances : Value}
    {od_l_told an_l_told : Option Addr} {sl_l_told : Array (Option Value)} {oc_l_told kV_l_told dc_l_told pm_l_told cd_l_told ct_l_told : Value}
    {od_l_wrong an_l_wrong : Option Addr} {sl_l_wrong : Array (Option Value)} {oc_l_wrong kV_l_wrong dc_l_wrong pm_l_wrong cd_l_wrong ct_l_wrong : Value}
    {od_law an_law : Option Addr} {sl_law : Array (Option Value)} {oc_law kV_law dc_law pm_law cd_law ct_law : Value}
    {nm_BadNumber q_BadNumber : Str} {N_BadNumber : Addr} {bs_BadNumber bm_BadNumber : List Value} {sn_BadNumber : List Str} {sub_BadNumber : List Value} {ab_BadNumber : Bool} {col_BadNumber : Option Bool} {dd_BadNumber : Option Addr} {m0_BadNumber m1_BadNumber m2_BadNumber m3_BadNumber m5_BadNumber : Option Value}
    {gt_MOST_COPIES : Tok}
    {gt_MOST_UNDER : Tok}
    (aC_VoteError : PySem.W.nsIn K mainGlobals "VoteError" = some (some (.ref ca_VoteError)))
    (aC_BadNumber : PySem.W.nsIn K mainGlobals "BadNumber" = some (some (.ref ca_BadNumber)))
    (aC_Ratio : PySem.W.nsIn K mainGlobals "Ratio" = some (some (.ref ca_Ratio)))
    (aC_Chances : PySem.W.nsIn K mainGlobals "Chances" = some (some (.ref ca_Chances)))
    (a_BadNumber_init : PySem.W.findIn K (.ref ca_BadNumber) "__init__" = some (some (.ref fa_BadNumber_init)))
    (l_BadNumber_init : K.lookup fa_BadNumber_init = some ⟨oc_BadNumber_init, od_BadNumber_init, .func (PySem.W.fnOf "__init__" "BadNumber.__init__" (defArgs s_BadNumber_init) (defBody s_BadNumber_init) (defScope s_BadNumber_init) .none kV_BadNumber_init dc_BadNumber_init pm_BadNumber_init an_BadNumber_init cd_BadNumber_init ct_BadNumber_init), sl_BadNumber_init⟩)
    (cc_BadNumber_init : PySem.W.codeIn K cd_BadNumber_init "BadNumber.__init__" = true)
    (kk_BadNumber_init : PySem.W.keepIn K (.ref fa_BadNumber_init) = true)
    (a_is_integer : PySem.W.nsIn K mainGlobals "is_integer" = some (some (.ref fa_is_integer)))
    (l_is_integer : K.lookup fa_is_integer = some ⟨oc_is_integer, od_is_integer, .func (PySem.W.fnOf "is_integer" "is_integer" (defArgs s_is_integer) (defBody s_is_integer) (defScope s_is_integer) .none kV_is_integer dc_is_integer pm_is_integer an_is_integer cd_is_integer ct_is_integer), sl_is_integer⟩)
    (cc_is_integer : PySem.W.codeIn K cd_is_integer "is_integer" = true)
    (kk_is_integer : PySem.W.keepIn K (.ref fa_is_integer) = true)
    (a_check_number : PySem.W.nsIn K mainGlobals "check_number" = some (some (.ref fa_check_number)))
    (l_check_number : K.lookup fa_check_number = some ⟨oc_check_number, od_check_number, .func (PySem.W.fnOf "check_number" "check_number" (defArgs s_check_number) (defBody s_check_number) (defScope s_check_number) .none kV_check_number dc_check_number pm_check_number an_check_number cd_check_number ct_check_number), sl_check_number⟩)
    (cc_check_number : PySem.W.codeIn K cd_check_number "check_number" = true)
    (kk_check_number : PySem.W.keepIn K (.ref fa_check_number) = true)
    (a_check_copies : PySem.W.nsIn K mainGlobals "check_copies" = some (some (.ref fa_check_copies)))
    (l_check_copies : K.lookup fa_check_copies = some ⟨oc_check_copies, od_check_copies, .func (PySem.W.fnOf "check_copies" "check_copies" (defArgs s_check_copies) (defBody s_check_copies) (defScope s_check_copies) .none kV_check_copies dc_check_copies pm_check_copies an_check_copies cd_check_copies ct_check_copies), sl_check_copies⟩)
    (cc_check_copies : PySem.W.codeIn K cd_check_copies "check_copies" = true)
    (kk_check_copies : PySem.W.keepIn K (.ref fa_check_copies) = true)
    (a_check_copy : PySem.W.nsIn K mainGlobals "check_copy" = some (some (.ref fa_check_copy)))
    (l_check_copy : K.lookup fa_check_copy = some ⟨oc_check_copy, od_check_copy, .func (PySem.W.fnOf "check_copy" "check_copy" (defArgs s_check_copy) (defBody s_check_copy) (defScope s_check_copy) .none kV_check_copy dc_check_copy pm_check_copy an_check_copy cd_check_copy ct_check_copy), sl_check_copy⟩)
    (cc_check_copy : PySem.W.codeIn K cd_check_copy "check_copy" = true)
    (kk_check_copy : PySem.W.keepIn K (.ref fa_check_copy) = true)
    (a_Ratio_init : PySem.W.findIn K (.ref ca_Ratio) "__init__" = some (some (.ref fa_Ratio_init)))
    (i_Ratio_init : PySem.W.isFn K (.ref fa_Ratio_init) = true)
    (l_Ratio_init : K.lookup fa_Ratio_init = some ⟨oc_Ratio_init, od_Ratio_init, .func (PySem.W.fnOf "__init__" "Ratio.__init__" (defArgs s_Ratio_init) (defBody s_Ratio_init) (defScope s_Ratio_init) (.ref dt_Ratio_init) kV_Ratio_init dc_Ratio_init pm_Ratio_init an_Ratio_init cd_Ratio_init ct_Ratio_init), sl_Ratio_init⟩)
    (cc_Ratio_init : PySem.W.codeIn K cd_Ratio_init "Ratio.__init__" = true)
    (kk_Ratio_init : PySem.W.keepIn K (.ref fa_Ratio_init) = true)
    (dl_Ratio_init : K.lookup dt_Ratio_init = some dto_Ratio_init)
    (dd_Ratio_init : dto_Ratio_init.data = .seq [.int 1 dk_Ratio_init0].toArray dtn_Ratio_init)
    (a_ratio_of : PySem.W.nsIn K mainGlobals "ratio_of" = some (some (.ref fa_ratio_of)))
    (l_ratio_of : K.lookup fa_ratio_of = some ⟨oc_ratio_of, od_ratio_of, .func (PySem.W.fnOf "ratio_of" "ratio_of" (defArgs s_ratio_of) (defBody s_ratio_of) (defScope s_ratio_of) .none kV_ratio_of dc_ratio_of pm_ratio_of an_ratio_of cd_ratio_of ct_ratio_of), sl_ratio_of⟩)
    (cc_ratio_of : PySem.W.codeIn K cd_ratio_of "ratio_of" = true)
    (kk_ratio_of : PySem.W.keepIn K (.ref fa_ratio_of) = true)
    (a_Ratio_eq : PySem.W.findIn K (.ref ca_Ratio) "__eq__" = some (some (.ref fa_Ratio_eq)))
    (i_Ratio_eq : PySem.W.isFn K (.ref fa_Ratio_eq) = true)
    (l_Ratio_eq : K.lookup fa_Ratio_eq = some ⟨oc_Ratio_eq, od_Ratio_eq, .func (PySem.W.fnOf "__eq__" "Ratio.__eq__" (defArgs s_Ratio_eq) (defBody s_Ratio_eq) (defScope s_Ratio_eq) .none kV_Ratio_eq dc_Ratio_eq pm_Ratio_eq an_Ratio_eq cd_Ratio_eq ct_Ratio_eq), sl_Ratio_eq⟩)
    (cc_Ratio_eq : PySem.W.codeIn K cd_Ratio_eq "Ratio.__eq__" = true)
    (kk_Ratio_eq : PySem.W.keepIn K (.ref fa_Ratio_eq) = true)
    (a_Ratio_lt : PySem.W.findIn K (.ref ca_Ratio) "__lt__" = some (some (.ref fa_Ratio_lt)))
    (i_Ratio_lt : PySem.W.isFn K (.ref fa_Ratio_lt) = true)
    (l_Ratio_lt : K.lookup fa_Ratio_lt = some ⟨oc_Ratio_lt, od_Ratio_lt, .func (PySem.W.fnOf "__lt__" "Ratio.__lt__" (defArgs s_Ratio_lt) (defBody s_Ratio_lt) (defScope s_Ratio_lt) .none kV_Ratio_lt dc_Ratio_lt pm_Ratio_lt an_Ratio_lt cd_Ratio_lt ct_Ratio_lt), sl_Ratio_lt⟩)
    (cc_Ratio_lt : PySem.W.codeIn K cd_Ratio_lt "Ratio.__lt__" = true)
    (kk_Ratio_lt : PySem.W.keepIn K (.ref fa_Ratio_lt) = true)
    (a_Ratio_ge : PySem.W.findIn K (.ref ca_Ratio) "__ge__" = some (some (.ref fa_Ratio_ge)))
    (i_Ratio_ge : PySem.W.isFn K (.ref fa_Ratio_ge) = true)
    (l_Ratio_ge : K.lookup fa_Ratio_ge = some ⟨oc_Ratio_ge, od_Ratio_ge, .func (PySem.W.fnOf "__ge__" "Ratio.__ge__" (defArgs s_Ratio_ge) (defBody s_Ratio_ge) (defScope s_Ratio_ge) .none kV_Ratio_ge dc_Ratio_ge pm_Ratio_ge an_Ratio_ge cd_Ratio_ge ct_Ratio_ge), sl_Ratio_ge⟩)
    (cc_Ratio_ge : PySem.W.codeIn K cd_Ratio_ge "Ratio.__ge__" = true)
    (kk_Ratio_ge : PySem.W.keepIn K (.ref fa_Ratio_ge) = true)
    (rd_Ratio_half : PySem.W.readsIn K ca_Ratio (.type "type") = true)
    (sg_Ratio_half : PySem.W.specialIn K (.ref ca_Ratio) "__getattribute__" = some (some (.builtin "type.__getattribute__")))
    (sa1_Ratio_half : PySem.W.findCls K (.ref ca_Ratio) (.type "type") "half" = some (.get (.builtin "staticmethod.__get__") (.ref sp_Ratio_half) .none (.ref ca_Ratio)))
    (sa2_Ratio_half : PySem.W.recIn K sp_Ratio_half "staticmethod" = some (.ref fa_Ratio_half :: sr_Ratio_half))
    (l_Ratio_half : K.lookup fa_Ratio_half = some ⟨oc_Ratio_half, od_Ratio_half, .func (PySem.W.fnOf "half" "Ratio.half" (defArgs s_Ratio_half) (defBody s_Ratio_half) (defScope s_Ratio_half) .none kV_Ratio_half dc_Ratio_half pm_Ratio_half an_Ratio_half cd_Ratio_half ct_Ratio_half), sl_Ratio_half⟩)
    (cc_Ratio_half : PySem.W.codeIn K cd_Ratio_half "Ratio.half" = true)
    (kk_Ratio_half : PySem.W.keepIn K (.ref fa_Ratio_half) = true)
    (a_is_short : PySem.W.nsIn K mainGlobals "is_short" = some (some (.ref fa_is_short)))
    (l_is_short : K.lookup fa_is_short = some ⟨oc_is_short, od_is_short, .func (PySem.W.fnOf "is_short" "is_short" (defArgs s_is_short) (defBody s_is_short) (defScope s_is_short) .none kV_is_short dc_is_short pm_is_short an_is_short cd_is_short ct_is_short), sl_is_short⟩)
    (cc_is_short : PySem.W.codeIn K cd_is_short "is_short" = true)
    (kk_is_short : PySem.W.keepIn K (.ref fa_is_short) = true)
    (a_check_chance : PySem.W.nsIn K mainGlobals "check_chance" = some (some (.ref fa_check_chance)))
    (l_check_chance : K.lookup fa_check_chance = some ⟨oc_check_chance, od_check_chance, .func (PySem.W.fnOf "check_chance" "check_chance" (defArgs s_check_chance) (defBody s_check_chance) (defScope s_check_chance) .none kV_check_chance dc_check_chance pm_check_chance an_check_chance cd_check_chance ct_check_chance), sl_check_chance⟩)
    (cc_check_chance : PySem.W.codeIn K cd_check_chance "check_chance" = true)
    (kk_check_chance : PySem.W.keepIn K (.ref fa_check_chance) = true)
    (a_scale_of : PySem.W.nsIn K mainGlobals "scale_of" = some (some (.ref fa_scale_of)))
    (l_scale_of : K.lookup fa_scale_of = some ⟨oc_scale_of, od_scale_of, .func (PySem.W.fnOf "scale_of" "scale_of" (defArgs s_scale_of) (defBody s_scale_of) (defScope s_scale_of) .none kV_scale_of dc_scale_of pm_scale_of an_scale_of cd_scale_of ct_scale_of), sl_scale_of⟩)
    (cc_scale_of : PySem.W.codeIn K cd_scale_of "scale_of" = true)
    (kk_scale_of : PySem.W.keepIn K (.ref fa_scale_of) = true)
    (a_counts_of : PySem.W.nsIn K mainGlobals "counts_of" = some (some (.ref fa_counts_of)))
    (l_counts_of : K.lookup fa_counts_of = some ⟨oc_counts_of, od_counts_of, .func (PySem.W.fnOf "counts_of" "counts_of" (defArgs s_counts_of) (defBody s_counts_of) (defScope s_counts_of) .none kV_counts_of dc_counts_of pm_counts_of an_counts_of cd_counts_of ct_counts_of), sl_counts_of⟩)
    (cc_counts_of : PySem.W.codeIn K cd_counts_of "counts_of" = true)
    (kk_counts_of : PySem.W.keepIn K (.ref fa_counts_of) = true)
    (a_Chances_init : PySem.W.findIn K (.ref ca_Chances) "__init__" = some (some (.ref fa_Chances_init)))
    (i_Chances_init : PySem.W.isFn K (.ref fa_Chances_init) = true)
    (l_Chances_init : K.lookup fa_Chances_init = some ⟨oc_Chances_init, od_Chances_init, .func (PySem.W.fnOf "__init__" "Chances.__init__" (defArgs s_Chances_init) (defBody s_Chances_init) (defScope s_Chances_init) .none kV_Chances_init dc_Chances_init pm_Chances_init an_Chances_init cd_Chances_init ct_Chances_init), sl_Chances_init⟩)
    (cc_Chances_init : PySem.W.codeIn K cd_Chances_init "Chances.__init__" = true)
    (kk_Chances_init : PySem.W.keepIn K (.ref fa_Chances_init) = true)
    (a_Chances_eq : PySem.W.findIn K (.ref ca_Chances) "__eq__" = some (some (.ref fa_Chances_eq)))
    (i_Chances_eq : PySem.W.isFn K (.ref fa_Chances_eq) = true)
    (l_Chances_eq : K.lookup fa_Chances_eq = some ⟨oc_Chances_eq, od_Chances_eq, .func (PySem.W.fnOf "__eq__" "Chances.__eq__" (defArgs s_Chances_eq) (defBody s_Chances_eq) (defScope s_Chances_eq) .none kV_Chances_eq dc_Chances_eq pm_Chances_eq an_Chances_eq cd_Chances_eq ct_Chances_eq), sl_Chances_eq⟩)
    (cc_Chances_eq : PySem.W.codeIn K cd_Chances_eq "Chances.__eq__" = true)
    (kk_Chances_eq : PySem.W.keepIn K (.ref fa_Chances_eq) = true)
    (a_Chances_add : PySem.W.findIn K (.ref ca_Chances) "__add__" = some (some (.ref fa_Chances_add)))
    (i_Chances_add : PySem.W.isFn K (.ref fa_Chances_add) = true)
    (l_Chances_add : K.lookup fa_Chances_add = some ⟨oc_Chances_add, od_Chances_add, .func (PySem.W.fnOf "__add__" "Chances.__add__" (defArgs s_Chances_add) (defBody s_Chances_add) (defScope s_Chances_add) .none kV_Chances_add dc_Chances_add pm_Chances_add an_Chances_add cd_Chances_add ct_Chances_add), sl_Chances_add⟩)
    (cc_Chances_add : PySem.W.codeIn K cd_Chances_add "Chances.__add__" = true)
    (kk_Chances_add : PySem.W.keepIn K (.ref fa_Chances_add) = true)
    (a_Chances_getitem : PySem.W.findIn K (.ref ca_Chances) "__getitem__" = some (some (.ref fa_Chances_getitem)))
    (i_Chances_getitem : PySem.W.isFn K (.ref fa_Chances_getitem) = true)
    (l_Chances_getitem : K.lookup fa_Chances_getitem = some ⟨oc_Chances_getitem, od_Chances_getitem, .func (PySem.W.fnOf "__getitem__" "Chances.__getitem__" (defArgs s_Chances_getitem) (defBody s_Chances_getitem) (defScope s_Chances_getitem) .none kV_Chances_getitem dc_Chances_getitem pm_Chances_getitem an_Chances_getitem cd_Chances_getitem ct_Chances_getitem), sl_Chances_getitem⟩)
    (cc_Chances_getitem : PySem.W.codeIn K cd_Chances_getitem "Chances.__getitem__" = true)
    (kk_Chances_getitem : PySem.W.keepIn K (.ref fa_Chances_getitem) = true)
    (a_Chances_len : PySem.W.findIn K (.ref ca_Chances) "__len__" = some (some (.ref fa_Chances_len)))
    (i_Chances_len : PySem.W.isFn K (.ref fa_Chances_len) = true)
    (l_Chances_len : K.lookup fa_Chances_len = some ⟨oc_Chances_len, od_Chances_len, .func (PySem.W.fnOf "__len__" "Chances.__len__" (defArgs s_Chances_len) (defBody s_Chances_len) (defScope s_Chances_len) .none kV_Chances_len dc_Chances_len pm_Chances_len an_Chances_len cd_Chances_len ct_Chances_len), sl_Chances_len⟩)
    (cc_Chances_len : PySem.W.codeIn K cd_Chances_len "Chances.__len__" = true)
    (kk_Chances_len : PySem.W.keepIn K (.ref fa_Chances_len) = true)
    (a_Chances_iter : PySem.W.findIn K (.ref ca_Chances) "__iter__" = some (some (.ref fa_Chances_iter)))
    (i_Chances_iter : PySem.W.isFn K (.ref fa_Chances_iter) = true)
    (l_Chances_iter : K.lookup fa_Chances_iter = some ⟨oc_Chances_iter, od_Chances_iter, .func (PySem.W.fnOf "__iter__" "Chances.__iter__" (defArgs s_Chances_iter) (defBody s_Chances_iter) (defScope s_Chances_iter) .none kV_Chances_iter dc_Chances_iter pm_Chances_iter an_Chances_iter cd_Chances_iter ct_Chances_iter), sl_Chances_iter⟩)
    (cc_Chances_iter : PySem.W.codeIn K cd_Chances_iter "Chances.__iter__" = true)
    (kk_Chances_iter : PySem.W.keepIn K (.ref fa_Chances_iter) = true)
    (a_Chances_with_chance : PySem.W.findIn K (.ref ca_Chances) "with_chance" = some (some (.ref fa_Chances_with_chance)))
    (i_Chances_with_chance : PySem.W.isFn K (.ref fa_Chances_with_chance) = true)
    (l_Chances_with_chance : K.lookup fa_Chances_with_chance = some ⟨oc_Chances_with_chance, od_Chances_with_chance, .func (PySem.W.fnOf "with_chance" "Chances.with_chance" (defArgs s_Chances_with_chance) (defBody s_Chances_with_chance) (defScope s_Chances_with_chance) .none kV_Chances_with_chance dc_Chances_with_chance pm_Chances_with_chance an_Chances_with_chance cd_Chances_with_chance ct_Chances_with_chance), sl_Chances_with_chance⟩)
    (cc_Chances_with_chance : PySem.W.codeIn K cd_Chances_with_chance "Chances.with_chance" = true)
    (kk_Chances_with_chance : PySem.W.keepIn K (.ref fa_Chances_with_chance) = true)
    (a_l_start : PySem.W.nsIn K mainGlobals "_law_start" = some (some (.ref fa_l_start)))
    (l_l_start : K.lookup fa_l_start = some ⟨oc_l_start, od_l_start, .func (PySem.W.fnOf "_law_start" "_law_start" (defArgs s_l_start) (defBody s_l_start) (defScope s_l_start) .none kV_l_start dc_l_start pm_l_start an_l_start cd_l_start ct_l_start), sl_l_start⟩)
    (cc_l_start : PySem.W.codeIn K cd_l_start "_law_start" = true)
    (kk_l_start : PySem.W.keepIn K (.ref fa_l_start) = true)
    (a_l_draw : PySem.W.nsIn K mainGlobals "_law_draw" = some (some (.ref fa_l_draw)))
    (l_l_draw : K.lookup fa_l_draw = some ⟨oc_l_draw, od_l_draw, .func (PySem.W.fnOf "_law_draw" "_law_draw" (defArgs s_l_draw) (defBody s_l_draw) (defScope s_l_draw) .none kV_l_draw dc_l_draw pm_l_draw an_l_draw cd_l_draw ct_l_draw), sl_l_draw⟩)
    (cc_l_draw : PySem.W.codeIn K cd_l_draw "_law_draw" = true)
    (kk_l_draw : PySem.W.keepIn K (.ref fa_l_draw) = true)
    (a_l_chance : PySem.W.nsIn K mainGlobals "_law_chance" = some (some (.ref fa_l_chance)))
    (l_l_chance : K.lookup fa_l_chance = some ⟨oc_l_chance, od_l_chance, .func (PySem.W.fnOf "_law_chance" "_law_chance" (defArgs s_l_chance) (defBody s_l_chance) (defScope s_l_chance) .none kV_l_chance dc_l_chance pm_l_chance an_l_chance cd_l_chance ct_l_chance), sl_l_chance⟩)
    (cc_l_chance : PySem.W.codeIn K cd_l_chance "_law_chance" = true)
    (kk_l_chance : PySem.W.keepIn K (.ref fa_l_chance) = true)
    (a_l_chances : PySem.W.nsIn K mainGlobals "_law_chances" = some (some (.ref fa_l_chances)))
    (l_l_chances : K.lookup fa_l_chances = some ⟨oc_l_chances, od_l_chances, .func (PySem.W.fnOf "_law_chances" "_law_chances" (defArgs s_l_chances) (defBody s_l_chances) (defScope s_l_chances) .none kV_l_chances dc_l_chances pm_l_chances an_l_chances cd_l_chances ct_l_chances), sl_l_chances⟩)
    (cc_l_chances : PySem.W.codeIn K cd_l_chances "_law_chances" = true)
    (kk_l_chances : PySem.W.keepIn K (.ref fa_l_chances) = true)
    (a_l_told : PySem.W.nsIn K mainGlobals "_law_told" = some (some (.ref fa_l_told)))
    (l_l_told : K.lookup fa_l_told = some ⟨oc_l_told, od_l_told, .func (PySem.W.fnOf "_law_told" "_law_told" (defArgs s_l_told) (defBody s_l_told) (defScope s_l_told) .none kV_l_told dc_l_told pm_l_told an_l_told cd_l_told ct_l_told), sl_l_told⟩)
    (cc_l_told : PySem.W.codeIn K cd_l_told "_law_told" = true)
    (kk_l_told : PySem.W.keepIn K (.ref fa_l_told) = true)
    (a_l_wrong : PySem.W.nsIn K mainGlobals "_law_wrong" = some (some (.ref fa_l_wrong)))
    (l_l_wrong : K.lookup fa_l_wrong = some ⟨oc_l_wrong, od_l_wrong, .func (PySem.W.fnOf "_law_wrong" "_law_wrong" (defArgs s_l_wrong) (defBody s_l_wrong) (defScope s_l_wrong) .none kV_l_wrong dc_l_wrong pm_l_wrong an_l_wrong cd_l_wrong ct_l_wrong), sl_l_wrong⟩)
    (cc_l_wrong : PySem.W.codeIn K cd_l_wrong "_law_wrong" = true)
    (kk_l_wrong : PySem.W.keepIn K (.ref fa_l_wrong) = true)
    (a_law : PySem.W.nsIn K mainGlobals "law" = some (some (.ref fa_law)))
    (l_law : K.lookup fa_law = some ⟨oc_law, od_law, .func (PySem.W.fnOf "law" "law" (defArgs s_law) (defBody s_law) (defScope s_law) .none kV_law dc_law pm_law an_law cd_law ct_law), sl_law⟩)
    (cc_law : PySem.W.codeIn K cd_law "law" = true)
    (kk_law : PySem.W.keepIn K (.ref fa_law) = true)
    (xL_BadNumber : K.lookup ca_BadNumber = some (excClassObj nm_BadNumber q_BadNumber ca_BadNumber N_BadNumber bs_BadNumber bm_BadNumber true sn_BadNumber sub_BadNumber ab_BadNumber col_BadNumber dd_BadNumber m0_BadNumber m1_BadNumber m2_BadNumber m3_BadNumber m5_BadNumber "ValueError.__new__"))
    (bm_ok_BadNumber : PySem.HandSPX.refsVE bm_BadNumber = true)
    (sa_BadNumber : PySem.W.findIn K (.ref ca_BadNumber) "__setattr__" = some (some (.builtin "object.__setattr__")))
    (eC_BadNumber : PySem.W.subIn K (.ref ca_BadNumber) (.type "BaseException") = some true)
    (tC_BadNumber : PySem.W.typeIn K (.ref ca_BadNumber) = some (.type "type"))
    (kC_BadNumber : PySem.W.keepIn K (.ref ca_BadNumber) = true)
    (tI_BadNumber : PySem.W.typeIn K (.ref fa_BadNumber_init) = some (.type "function"))
    (ga_BadNumber : PySem.W.findIn K (.ref ca_BadNumber) "__getattribute__" = some (some (.builtin "BaseException.__getattribute__")))
    (gg_BadNumber : PySem.W.findIn K (.ref ca_BadNumber) "__getattr__" = some none)
    (hd_BadNumber : PySem.W.hasDictIn K ca_BadNumber = true)
    (ic_BadNumber : PySem.W.isClsIn K ca_BadNumber = true)
    (cc_BadNumber : PySem.W.findIn K (.ref ca_BadNumber) "__class__" = some (some (.builtin "object.__class__")))
    (cm_BadNumber : PySem.W.mroIn K ca_BadNumber (.type "object") = some true)
    (n_BadNumber_what : PySem.W.findIn K (.ref ca_BadNumber) "what" = some none)
    (n_BadNumber_value : PySem.W.findIn K (.ref ca_BadNumber) "value" = some none)
    (cn_ : PySem.W.specialIn K (.builtin "object.__class__") "__get__" = some (some (.builtin "getset_descriptor.__get__")))
    (ct_ : PySem.W.takesIn K (.builtin "object.__class__") = some true)
    (pg_Ratio : PySem.W.plainGet K ca_Ratio Str.empty = true)
    (hd_Ratio : PySem.W.hasDictIn K ca_Ratio = true)
    (po_Ratio : PySem.W.plainOver K ca_Ratio = true)
    (sa_Ratio : PySem.W.findIn K (.ref ca_Ratio) "__setattr__" = some (some (.builtin "object.__setattr__")))
    (mk_Ratio : PySem.W.makesIn K ca_Ratio = true)
    (kc_Ratio : PySem.W.keepIn K (.ref ca_Ratio) = true)
    (sf_Ratio : PySem.W.selfFirst K ca_Ratio = true)
    (ni_Ratio : PySem.W.subIn K (.ref ca_Ratio) (.type "int") = some false)
    (in_Ratio : PySem.W.subIn K (.type "int") (.ref ca_Ratio) = some false)
    (ne_Ratio : PySem.W.findIn K (.ref ca_Ratio) "__ne__" = some (some (.builtin "object.__ne__")))
    (cc_Ratio : PySem.W.findIn K (.ref ca_Ratio) "__class__" = some (some (.builtin "object.__class__")))
    (cm_Ratio : PySem.W.mroIn K ca_Ratio (.type "object") = some true)
    (n_Ratio_over : PySem.W.findIn K (.ref ca_Ratio) "over" = some none)
    (n_Ratio_under : PySem.W.findIn K (.ref ca_Ratio) "under" = some none)
    (pg_Chances : PySem.W.plainGet K ca_Chances Str.empty = true)
    (hd_Chances : PySem.W.hasDictIn K ca_Chances = true)
    (po_Chances : PySem.W.plainOver K ca_Chances = true)
    (sa_Chances : PySem.W.findIn K (.ref ca_Chances) "__setattr__" = some (some (.builtin "object.__setattr__")))
    (mk_Chances : PySem.W.makesIn K ca_Chances = true)
    (kc_Chances : PySem.W.keepIn K (.ref ca_Chances) = true)
    (oh_Chances_add : PySem.W.findIn K (.ref ca_Chances) (PySem.dunder "add") = some (some (.ref fa_Chances_add)))
    (sf_Chances : PySem.W.selfFirst K ca_Chances = true)
    (ni_Chances : PySem.W.subIn K (.ref ca_Chances) (.type "int") = some false)
    (in_Chances : PySem.W.subIn K (.type "int") (.ref ca_Chances) = some false)
    (ne_Chances : PySem.W.findIn K (.ref ca_Chances) "__ne__" = some (some (.builtin "object.__ne__")))
    (cc_Chances : PySem.W.findIn K (.ref ca_Chances) "__class__" = some (some (.builtin "object.__class__")))
    (cm_Chances : PySem.W.mroIn K ca_Chances (.type "object") = some true)
    (n_Chances_ratios : PySem.W.findIn K (.ref ca_Chances) "ratios" = some none)
    (n_Chances_scale : PySem.W.findIn K (.ref ca_Chances) "scale" = some none)
    (n_Chances_counts : PySem.W.findIn K (.ref ca_Chances) "counts" = some none)
    (ki_Ratio_Ratio : PySem.W.kitOne K (.ref ca_Ratio) (.ref ca_Ratio) = some true)
    (ki_Chances_Chances : PySem.W.kitOne K (.ref ca_Chances) (.ref ca_Chances) = some true)
    (ki_int_Ratio : PySem.W.kitOne K (.type "int") (.ref ca_Ratio) = some false)
    (ki_bool_Ratio : PySem.W.kitOne K (.type "bool") (.ref ca_Ratio) = some false)
    (ki_NoneType_Ratio : PySem.W.kitOne K (.type "NoneType") (.ref ca_Ratio) = some false)
    (ki_str_Ratio : PySem.W.kitOne K (.type "str") (.ref ca_Ratio) = some false)
    (sb_BadNumber_BadNumber : PySem.W.subIn K (.ref ca_BadNumber) (.ref ca_BadNumber) = some true)
    (gi_gcd : PySem.W.nsIn K mainGlobals "gcd" = some (some (.builtin "math.gcd")))
    (gk_MOST_COPIES : PySem.W.nsIn K mainGlobals "MOST_COPIES" = some (some (.int 8 gt_MOST_COPIES)))
    (gk_MOST_UNDER : PySem.W.nsIn K mainGlobals "MOST_UNDER" = some (some (.int 1000 gt_MOST_UNDER)))
    (mb_abs : PySem.W.nsIn K mainGlobals "abs" = some none)
    (mb_bool : PySem.W.nsIn K mainGlobals "bool" = some none)
    (mb_int : PySem.W.nsIn K mainGlobals "int" = some none)
    (mb_isinstance : PySem.W.nsIn K mainGlobals "isinstance" = some none)
    (mb_iter : PySem.W.nsIn K mainGlobals "iter" = some none)
    (mb_len : PySem.W.nsIn K mainGlobals "len" = some none)
    (mb_list : PySem.W.nsIn K mainGlobals "list" = some none)
    (mb_min : PySem.W.nsIn K mainGlobals "min" = some none)
    (mb_range : PySem.W.nsIn K mainGlobals "range" = some none)
    (mb_tuple : PySem.W.nsIn K mainGlobals "tuple" = some none) :
    ∃ fd : FuncData, (∀ (s : Shared) (v : Value), BindsTo s fd ⟨[v], []⟩ [("_law_script", v)]) ∧ ∀ base : Heap, K.In base → base.Ns mainGlobals mg → FnOk l.prog w K mg base CX0 16 fa fd ["_law_script"] (spLaw K) := by
  have e := hfa.symm.trans (PySem.W.mg_of X G a_law)
  cases e
  have FF_BadNumber_init := fun_mk (st := s_BadNumber_init) l_BadNumber_init cc_BadNumber_init kk_BadNumber_init
  have bb_BadNumber_init := FF_BadNumber_init.binds (ps := ["self", "what", "value"]) fun _ _ _ _ _ _ us hl => match us, hl with | [_, _, _], _ => rfl
  have FF_is_integer := fun_mk (st := s_is_integer) l_is_integer cc_is_integer kk_is_integer
  have bb_is_integer := FF_is_integer.binds (ps := ["value"]) fun _ _ _ _ _ _ us hl => match us, hl with | [_], _ => rfl
  have FF_check_number := fun_mk (st := s_check_number) l_check_number cc_check_number kk_check_number
  have bb_check_number := FF_check_number.binds (ps := ["what", "value", "low", "high"]) fun _ _ _ _ _ _ us hl => match us, hl with | [_, _, _, _], _ => rfl
  have FF_check_copies := fun_mk (st := s_check_copies) l_check_copies cc_check_copies kk_check_copies
  have bb_check_copies := FF_check_copies.binds (ps := ["copies"]) fun _ _ _ _ _ _ us hl => match us, hl with | [_], _ => rfl
  have FF_check_copy := fun_mk (st := s_check_copy) l_check_copy cc_check_copy kk_check_copy
  have bb_check_copy := FF_check_copy.binds (ps := ["copies", "copy"]) fun _ _ _ _ _ _ us hl => match us, hl with | [_, _], _ => rfl
  have FF_Ratio_init : FunD K "__init__" "Ratio.__init__" (defArgs s_Ratio_init) (defBody s_Ratio_init) (defScope s_Ratio_init) [.int 1] [] fa_Ratio_init _ := ⟨⟨_, _, _, _, _, _, _, _, _, _, rfl, l_Ratio_init, cc_Ratio_init, .inr ⟨by simp, dt_Ratio_init, dto_Ratio_init, _, dtn_Ratio_init, rfl, dl_Ratio_init, dd_Ratio_init, (.cons ⟨_, rfl⟩ .nil)⟩, .inl rfl⟩, kk_Ratio_init⟩
  obtain ⟨dv_Ratio_init1, vv_Ratio_init1, bb_Ratio_init1⟩ := FF_Ratio_init.binds1 (ps := ["self", "over", "under"]) 2 0 (by simp) (by simp) fun _ _ _ _ _ _ _ us its hl hi => match us, its, hl, hi with | [_, _], [_], _, _ => ⟨_, rfl, rfl⟩
  obtain ⟨dv_Ratio_init2, vv_Ratio_init2, bb_Ratio_init2⟩ := FF_Ratio_init.binds1 (ps := ["self", "over", "under"]) 3 1 (by simp) (by simp) fun _ _ _ _ _ _ _ us its hl hi => match us, its, hl, hi with | [_, _, _], [_], _, _ => ⟨_, rfl, rfl⟩
  have FF_ratio_of := fun_mk (st := s_ratio_of) l_ratio_of cc_ratio_of kk_ratio_of
  have bb_ratio_of := FF_ratio_of.binds (ps := ["value"]) fun _ _ _ _ _ _ us hl => match us, hl with | [_], _ => rfl
  have FF_Ratio_eq := fun_mk (st := s_Ratio_eq) l_Ratio_eq cc_Ratio_eq kk_Ratio_eq
  have bb_Ratio_eq := FF_Ratio_eq.binds (ps := ["self", "other"]) fun _ _ _ _ _ _ us hl => match us, hl with | [_, _], _ => rfl
  have FF_Ratio_lt := fun_mk (st := s_Ratio_lt) l_Ratio_lt cc_Ratio_lt kk_Ratio_lt
  have bb_Ratio_lt := FF_Ratio_lt.binds (ps := ["self", "other"]) fun _ _ _ _ _ _ us hl => match us, hl with | [_, _], _ => rfl
  have FF_Ratio_ge := fun_mk (st := s_Ratio_ge) l_Ratio_ge cc_Ratio_ge kk_Ratio_ge
  have bb_Ratio_ge := FF_Ratio_ge.binds (ps := ["self", "other"]) fun _ _ _ _ _ _ us hl => match us, hl with | [_, _], _ => rfl
  have FF_Ratio_half := fun_mk (st := s_Ratio_half) l_Ratio_half cc_Ratio_half kk_Ratio_half
  have bb_Ratio_half := FF_Ratio_half.binds (ps := []) fun _ _ _ _ _ _ us hl => match us, hl with | [], _ => rfl
  have FF_is_short := fun_mk (st := s_is_short) l_is_short cc_is_short kk_is_short
  have bb_is_short := FF_is_short.binds (ps := ["value"]) fun _ _ _ _ _ _ us hl => match us, hl with | [_], _ => rfl
  have FF_check_chance := fun_mk (st := s_check_chance) l_check_chance cc_check_chance kk_check_chance
  have bb_check_chance := FF_check_chance.binds (ps := ["chance"]) fun _ _ _ _ _ _ us hl => match us, hl with | [_], _ => rfl
  have FF_scale_of := fun_mk (st := s_scale_of) l_scale_of cc_scale_of kk_scale_of
  have bb_scale_of := FF_scale_of.binds (ps := ["ratios"]) fun _ _ _ _ _ _ us hl => match us, hl with | [_], _ => rfl
  have FF_counts_of := fun_mk (st := s_counts_of) l_counts_of cc_counts_of kk_counts_of
  have bb_counts_of := FF_counts_of.binds (ps := ["ratios"]) fun _ _ _ _ _ _ us hl => match us, hl with | [_], _ => rfl
  have FF_Chances_init := fun_mk (st := s_Chances_init) l_Chances_init cc_Chances_init kk_Chances_init
  have FF_Chances_eq := fun_mk (st := s_Chances_eq) l_Chances_eq cc_Chances_eq kk_Chances_eq
  have bb_Chances_eq := FF_Chances_eq.binds (ps := ["self", "other"]) fun _ _ _ _ _ _ us hl => match us, hl with | [_, _], _ => rfl
  have FF_Chances_add := fun_mk (st := s_Chances_add) l_Chances_add cc_Chances_add kk_Chances_add
  have bb_Chances_add := FF_Chances_add.binds (ps := ["self", "other"]) fun _ _ _ _ _ _ us hl => match us, hl with | [_, _], _ => rfl
  have FF_Chances_getitem := fun_mk (st := s_Chances_getitem) l_Chances_getitem cc_Chances_getitem kk_Chances_getitem
  have bb_Chances_getitem := FF_Chances_getitem.binds (ps := ["self", "at"]) fun _ _ _ _ _ _ us hl => match us, hl with | [_, _], _ => rfl
  have FF_Chances_len := fun_mk (st := s_Chances_len) l_Chances_len cc_Chances_len kk_Chances_len
  have bb_Chances_len := FF_Chances_len.binds (ps := ["self"]) fun _ _ _ _ _ _ us hl => match us, hl with | [_], _ => rfl
  have FF_Chances_iter := fun_mk (st := s_Chances_iter) l_Chances_iter cc_Chances_iter kk_Chances_iter
  have bb_Chances_iter := FF_Chances_iter.binds (ps := ["self"]) fun _ _ _ _ _ _ us hl => match us, hl with | [_], _ => rfl
  have FF_Chances_with_chance := fun_mk (st := s_Chances_with_chance) l_Chances_with_chance cc_Chances_with_chance kk_Chances_with_chance
  have bb_Chances_with_chance := FF_Chances_with_chance.binds (ps := ["self", "copy", "chance"]) fun _ _ _ _ _ _ us hl => match us, hl with | [_, _, _], _ => rfl
  have FF_l_start := fun_mk (st := s_l_start) l_l_start cc_l_start kk_l_start
  have bb_l_start := FF_l_start.binds (ps := ["_law_script"]) fun _ _ _ _ _ _ us hl => match us, hl with | [_], _ => rfl
  have FF_l_draw := fun_mk (st := s_l_draw) l_l_draw cc_l_draw kk_l_draw
  have bb_l_draw := FF_l_draw.binds (ps := ["_law_script", "_law_state", "_law_limit"]) fun _ _ _ _ _ _ us hl => match us, hl with | [_, _, _], _ => rfl
  have FF_l_chance := fun_mk (st := s_l_chance) l_l_chance cc_l_chance kk_l_chance
  have bb_l_chance := FF_l_chance.binds (ps := ["_law_script", "_law_state"]) fun _ _ _ _ _ _ us hl => match us, hl with | [_, _], _ => rfl
  have FF_l_chances := fun_mk (st := s_l_chances) l_l_chances cc_l_chances kk_l_chances
  have bb_l_chances := FF_l_chances.binds (ps := ["_law_pairs"]) fun _ _ _ _ _ _ us hl => match us, hl with | [_], _ => rfl
  have FF_l_told := fun_mk (st := s_l_told) l_l_told cc_l_told kk_l_told
  have bb_l_told := FF_l_told.binds (ps := ["_law_kind", "_law_one", "_law_first", "_law_second"]) fun _ _ _ _ _ _ us hl => match us, hl with | [_, _, _, _], _ => rfl
  have FF_l_wrong := fun_mk (st := s_l_wrong) l_l_wrong cc_l_wrong kk_l_wrong
  have bb_l_wrong := FF_l_wrong.binds (ps := ["_law_script", "_law_state"]) fun _ _ _ _ _ _ us hl => match us, hl with | [_, _], _ => rfl
  have FF_law := fun_mk (st := s_law) l_law cc_law kk_law
  have bb_law := FF_law.binds (ps := ["_law_script"]) fun _ _ _ _ _ _ us hl => match us, hl with | [_], _ => rfl
  exact ⟨PySem.W.fnOf "law" "law" (defArgs s_law) (defBody s_law) (defScope s_law) .none kV_law dc_law pm_law an_law cd_law ct_law, fun s v => .of_eq rfl, fun base _ _ => ok_law (T := {
    c_VoteError := ca_VoteError,
    gc_VoteError := PySem.W.mg_of X G aC_VoteError,
    c_BadNumber := ca_BadNumber,
    gc_BadNumber := PySem.W.mg_of X G aC_BadNumber,
    c_Ratio := ca_Ratio,
    gc_Ratio := PySem.W.mg_of X G aC_Ratio,
    c_Chances := ca_Chances,
    gc_Chances := PySem.W.mg_of X G aC_Chances,
    f_BadNumber_init := fa_BadNumber_init,
    fd_BadNumber_init := _,
    F_BadNumber_init := FF_BadNumber_init,
    b_BadNumber_init := bb_BadNumber_init,
    f_is_integer := fa_is_integer,
    fd_is_integer := _,
    F_is_integer := FF_is_integer,
    b_is_integer := bb_is_integer,
    g_is_integer := PySem.W.mg_of X G a_is_integer,
    f_check_number := fa_check_number,
    fd_check_number := _,
    F_check_number := FF_check_number,
    b_check_number := bb_check_number,
    g_check_number := PySem.W.mg_of X G a_check_number,
    f_check_copies := fa_check_copies,
    fd_check_copies := _,
    F_check_copies := FF_check_copies,
    b_check_copies := bb_check_copies,
    g_check_copies := PySem.W.mg_of X G a_check_copies,
    f_check_copy := fa_check_copy,
    fd_check_copy := _,
    F_check_copy := FF_check_copy,
    b_check_copy := bb_check_copy,
    g_check_copy := PySem.W.mg_of X G a_check_copy,
    f_Ratio_init := fa_Ratio_init,
    fd_Ratio_init := _,
    F_Ratio_init := FF_Ratio_init,
    d_Ratio_init1 := dv_Ratio_init1,
    v_Ratio_init1 := vv_Ratio_init1,
    b_Ratio_init1 := bb_Ratio_init1,
    d_Ratio_init2 := dv_Ratio_init2,
    v_Ratio_init2 := vv_Ratio_init2,
    b_Ratio_init2 := bb_Ratio_init2,
    f_ratio_of := fa_ratio_of,
    fd_ratio_of := _,
    F_ratio_of := FF_ratio_of,
    b_ratio_of := bb_ratio_of,
    g_ratio_of := PySem.W.mg_of X G a_ratio_of,
    f_Ratio_eq := fa_Ratio_eq,
    fd_Ratio_eq := _,
    F_Ratio_eq := FF_Ratio_eq,
    b_Ratio_eq := bb_Ratio_eq,
    me_Ratio_eq := ⟨a_Ratio_eq, i_Ratio_eq, kk_Ratio_eq⟩,
    f_Ratio_lt := fa_Ratio_lt,
    fd_Ratio_lt := _,
    F_Ratio_lt := FF_Ratio_lt,
    b_Ratio_lt := bb_Ratio_lt,
    me_Ratio_lt := ⟨a_Ratio_lt, i_Ratio_lt, kk_Ratio_lt⟩,
    f_Ratio_ge := fa_Ratio_ge,
    fd_Ratio_ge := _,
    F_Ratio_ge := FF_Ratio_ge,
    b_Ratio_ge := bb_Ratio_ge,
    me_Ratio_ge := ⟨a_Ratio_ge, i_Ratio_ge, kk_Ratio_ge⟩,
    f_Ratio_half := fa_Ratio_half,
    fd_Ratio_half := _,
    F_Ratio_half := FF_Ratio_half,
    b_Ratio_half := bb_Ratio_half,
    sm_Ratio_half := ⟨rd_Ratio_half, sg_Ratio_half, _, _, sa1_Ratio_half, sa2_Ratio_half⟩,
    f_is_short := fa_is_short,
    fd_is_short := _,
    F_is_short := FF_is_short,
    b_is_short := bb_is_short,
    g_is_short := PySem.W.mg_of X G a_is_short,
    f_check_chance := fa_check_chance,
    fd_check_chance := _,
    F_check_chance := FF_check_chance,
    b_check_chance := bb_check_chance,
    g_check_chance := PySem.W.mg_of X G a_check_chance,
    f_scale_of := fa_scale_of,
    fd_scale_of := _,
    F_scale_of := FF_scale_of,
    b_scale_of := bb_scale_of,
    g_scale_of := PySem.W.mg_of X G a_scale_of,
    f_counts_of := fa_counts_of,
    fd_counts_of := _,
    F_counts_of := FF_counts_of,
    b_counts_of := bb_counts_of,
    g_counts_of := PySem.W.mg_of X G a_counts_of,
    f_Chances_init := fa_Chances_init,
    fd_Chances_init := _,
    F_Chances_init := FF_Chances_init,
    f_Chances_eq := fa_Chances_eq,
    fd_Chances_eq := _,
    F_Chances_eq := FF_Chances_eq,
    b_Chances_eq := bb_Chances_eq,
    me_Chances_eq := ⟨a_Chances_eq, i_Chances_eq, kk_Chances_eq⟩,
    f_Chances_add := fa_Chances_add,
    fd_Chances_add := _,
    F_Chances_add := FF_Chances_add,
    b_Chances_add := bb_Chances_add,
    me_Chances_add := ⟨a_Chances_add, i_Chances_add, kk_Chances_add⟩,
    f_Chances_getitem := fa_Chances_getitem,
    fd_Chances_getitem := _,
    F_Chances_getitem := FF_Chances_getitem,
    b_Chances_getitem := bb_Chances_getitem,
    me_Chances_getitem := ⟨a_Chances_getitem, i_Chances_getitem, kk_Chances_getitem⟩,
    f_Chances_len := fa_Chances_len,
    fd_Chances_len := _,
    F_Chances_len := FF_Chances_len,
    b_Chances_len := bb_Chances_len,
    me_Chances_len := ⟨a_Chances_len, i_Chances_len, kk_Chances_len⟩,
    f_Chances_iter := fa_Chances_iter,
    fd_Chances_iter := _,
    F_Chances_iter := FF_Chances_iter,
    b_Chances_iter := bb_Chances_iter,
    me_Chances_iter := ⟨a_Chances_iter, i_Chances_iter, kk_Chances_iter⟩,
    f_Chances_with_chance := fa_Chances_with_chance,
    fd_Chances_with_chance := _,
    F_Chances_with_chance := FF_Chances_with_chance,
    b_Chances_with_chance := bb_Chances_with_chance,
    me_Chances_with_chance := ⟨a_Chances_with_chance, i_Chances_with_chance, kk_Chances_with_chance⟩,
    f_l_start := fa_l_start,
    fd_l_start := _,
    F_l_start := FF_l_start,
    b_l_start := bb_l_start,
    g_l_start := PySem.W.mg_of X G a_l_start,
    f_l_draw := fa_l_draw,
    fd_l_draw := _,
    F_l_draw := FF_l_draw,
    b_l_draw := bb_l_draw,
    g_l_draw := PySem.W.mg_of X G a_l_draw,
    f_l_chance := fa_l_chance,
    fd_l_chance := _,
    F_l_chance := FF_l_chance,
    b_l_chance := bb_l_chance,
    g_l_chance := PySem.W.mg_of X G a_l_chance,
    f_l_chances := fa_l_chances,
    fd_l_chances := _,
    F_l_chances := FF_l_chances,
    b_l_chances := bb_l_chances,
    g_l_chances := PySem.W.mg_of X G a_l_chances,
    f_l_told := fa_l_told,
    fd_l_told := _,
    F_l_told := FF_l_told,
    b_l_told := bb_l_told,
    g_l_told := PySem.W.mg_of X G a_l_told,
    f_l_wrong := fa_l_wrong,
    fd_l_wrong := _,
    F_l_wrong := FF_l_wrong,
    b_l_wrong := bb_l_wrong,
    g_l_wrong := PySem.W.mg_of X G a_l_wrong,
    f_law := fa,
    fd_law := _,
    F_law := FF_law,
    b_law := bb_law,
    g_law := PySem.W.mg_of X G a_law,
    ox_BadNumber := ⟨⟨_, _, _, _, _, _, _, _, _, _, _, _, _, _, _, xL_BadNumber, bm_ok_BadNumber⟩, sa_BadNumber, eC_BadNumber, tC_BadNumber, kC_BadNumber⟩,
    xn_BadNumber := a_BadNumber_init,
    xt_BadNumber := tI_BadNumber,
    xf_BadNumber := ⟨ga_BadNumber, gg_BadNumber, eC_BadNumber, hd_BadNumber⟩,
    xi_BadNumber := ⟨ic_BadNumber, ga_BadNumber, gg_BadNumber, eC_BadNumber, cc_BadNumber, cn_, ct_, cm_BadNumber⟩,
    n_BadNumber_what := n_BadNumber_what,
    n_BadNumber_value := n_BadNumber_value,
    oc_Ratio := ⟨sf_Ratio, PySem.W.ksp_first sf_Ratio, ni_Ratio, in_Ratio, ne_Ratio, cm_Ratio⟩,
    ic_Ratio := ⟨⟨pg_Ratio, hd_Ratio, po_Ratio, sa_Ratio⟩, cc_Ratio, cn_, ct_, cm_Ratio⟩,
    cl_Ratio := ⟨pg_Ratio, hd_Ratio, po_Ratio, sa_Ratio⟩,
    M_Ratio := ⟨mk_Ratio, a_Ratio_init, i_Ratio_init, kc_Ratio⟩,
    n_Ratio_over := n_Ratio_over,
    n_Ratio_under := n_Ratio_under,
    oh_Chances_add := oh_Chances_add,
    oc_Chances := ⟨sf_Chances, PySem.W.ksp_first sf_Chances, ni_Chances, in_Chances, ne_Chances, cm_Chances⟩,
    ic_Chances := ⟨⟨pg_Chances, hd_Chances, po_Chances, sa_Chances⟩, cc_Chances, cn_, ct_, cm_Chances⟩,
    cl_Chances := ⟨pg_Chances, hd_Chances, po_Chances, sa_Chances⟩,
    M_Chances := ⟨mk_Chances, a_Chances_init, i_Chances_init, kc_Chances⟩,
    n_Chances_ratios := n_Chances_ratios,
    n_Chances_scale := n_Chances_scale,
    n_Chances_counts := n_Chances_counts,
    ki_Ratio_Ratio := ki_Ratio_Ratio,
    ki_Chances_Chances := ki_Chances_Chances,
    ki_int_Ratio := ki_int_Ratio,
    ki_bool_Ratio := ki_bool_Ratio,
    ki_NoneType_Ratio := ki_NoneType_Ratio,
    ki_str_Ratio := ki_str_Ratio,
    ex_BadNumber_BadNumber := exm_own eC_BadNumber ic_BadNumber tC_BadNumber sb_BadNumber_BadNumber,
    gi_gcd := PySem.W.mg_of X G gi_gcd,
    gt_MOST_COPIES := gt_MOST_COPIES,
    gk_MOST_COPIES := PySem.W.mg_of X G gk_MOST_COPIES,
    gt_MOST_UNDER := gt_MOST_UNDER,
    gk_MOST_UNDER := PySem.W.mg_of X G gk_MOST_UNDER,
    m_abs := PySem.W.mg_none_of X G mb_abs,
    m_bool := PySem.W.mg_none_of X G mb_bool,
    m_int := PySem.W.mg_none_of X G mb_int,
    m_isinstance := PySem.W.mg_none_of X G mb_isinstance,
    m_iter := PySem.W.mg_none_of X G mb_iter,
    m_len := PySem.W.mg_none_of X G mb_len,
    m_list := PySem.W.mg_none_of X G mb_list,
    m_min := PySem.W.mg_none_of X G mb_min,
    m_range := PySem.W.mg_none_of X G mb_range,
    m_tuple := PySem.W.mg_none_of X G mb_tuple })⟩
theorem walk {l : PySem.W.OpenLaw} {q : Program} {loose : List Str} {XP : (Str → Option Value) → Heap → Prop} {YP : World → Heap → Prop} {d : DefRec} {K : Params → PySem.W.Frag} (hn : l.most = some 63) (hdf : d.params.defaults = [])
    (hY : ∀ (w : World) (h : Heap), YP w h → (K w.params).In h)
    (F : ∀ (w : World) (mg : Str → Option Value) (fa : Addr) (h : Heap), (K w.params).In h → h.Ns mainGlobals mg → mg d.name = some (.ref fa) →
      ∃ fd : FuncData, (∀ (s : Shared) (u : Value), BindsTo s fd ⟨[u], []⟩ [("_law_script", u)]) ∧ ∀ base : Heap, (K w.params).In base → base.Ns mainGlobals mg → FnOk l.prog w (K w.params) mg base CX0 16 fa fd ["_law_script"] (spLaw (K w.params))) :
    PySem.W.WalkO q loose XP YP l.row.toRowW d [] (fun f vs => PySem.call f vs) :=
  L2.walk_of (n := 63) (k := 16) (x := "_law_script") (CX := fun _ => CX0) (sp := fun w => spLaw (K w.params)) hn (by decide) hdf ⟨rfl, by decide, by decide⟩ hY F (fun _ _ a ns hl _ hS => ⟨a, ns, rfl, hS, hl, fun _ => rfl⟩) fun _ _ _ _ _ z => z
end Cv
open PySem PySem.W PyProof.Rows
set_option maxRecDepth 100000 in
set_option maxHeartbeats 0 in
theorem PySem.Challenge.cw_copyvotes_k14_chances_holds : PySem.Challenge.rw_copyvotes_k14_chances.Holds := by
  w_on; o_law; k_head; (case hw => w_witness2)
  k_fill
  refine Cv.walk (l := PySem.Challenge.rw_copyvotes_k14_chances) rfl rfl (fun w h Y => PySem.W.kIn_of Y) ?F
  case F =>
    intro w mg fa h KX G hmg
    refine' Cv.all_mk KX G hmg ?aC_VoteError ?aC_BadNumber ?aC_Ratio ?aC_Chances ?a_BadNumber_init ?l_BadNumber_init ?cc_BadNumber_init ?kk_BadNumber_init ?a_is_integer ?l_is_integer ?cc_is_integer ?kk_is_integer ?a_check_number ?l_check_number ?cc_check_number ?kk_check_number ?a_check_copies ?l_check_copies ?cc_check_copies ?kk_check_copies ?a_check_copy ?l_check_copy ?cc_check_copy ?kk_check_copy ?a_Ratio_init ?i_Ratio_init ?l_Ratio_init ?cc_Ratio_init ?kk_Ratio_init ?dl_Ratio_init ?dd_Ratio_init ?a_ratio_of ?l_ratio_of ?cc_ratio_of ?kk_ratio_of ?a_Ratio_eq ?i_Ratio_eq ?l_Ratio_eq ?cc_Ratio_eq ?kk_Ratio_eq ?a_Ratio_lt ?i_Ratio_lt ?l_Ratio_lt ?cc_Ratio_lt ?kk_Ratio_lt ?a_Ratio_ge ?i_Ratio_ge ?l_Ratio_ge ?cc_Ratio_ge ?kk_Ratio_ge ?rd_Ratio_half ?sg_Ratio_half ?sa1_Ratio_half ?sa2_Ratio_half ?l_Ratio_half ?cc_Ratio_half ?kk_Ratio_half ?a_is_short ?l_is_short ?cc_is_short ?kk_is_short ?a_check_chance ?l_check_chance ?cc_check_chance ?kk_check_chance ?a_scale_of ?l_scale_of ?cc_scale_of ?kk_scale_of ?a_counts_of ?l_counts_of ?cc_counts_of ?kk_counts_of ?a_Chances_init ?i_Chances_init ?l_Chances_init ?cc_Chances_init ?kk_Chances_init ?a_Chances_eq ?i_Chances_eq ?l_Chances_eq ?cc_Chances_eq ?kk_Chances_eq ?a_Chances_add ?i_Chances_add ?l_Chances_add ?cc_Chances_add ?kk_Chances_add ?a_Chances_getitem ?i_Chances_getitem ?l_Chances_getitem ?cc_Chances_getitem ?kk_Chances_getitem ?a_Chances_len ?i_Chances_len ?l_Chances_len ?cc_Chances_len ?kk_Chances_len ?a_Chances_iter ?i_Chances_iter ?l_Chances_iter ?cc_Chances_iter ?kk_Chances_iter ?a_Chances_with_chance ?i_Chances_with_chance ?l_Chances_with_chance ?cc_Chances_with_chance ?kk_Chances_with_chance ?a_l_start ?l_l_start ?cc_l_start ?kk_l_start ?a_l_draw ?l_l_draw ?cc_l_draw ?kk_l_draw ?a_l_chance ?l_l_chance ?cc_l_chance ?kk_l_chance ?a_l_chances ?l_l_chances ?cc_l_chances ?kk_l_chances ?a_l_told ?l_l_told ?cc_l_told ?kk_l_told ?a_l_wrong ?l_l_wrong ?cc_l_wrong ?kk_l_wrong ?a_law ?l_law ?cc_law ?kk_law ?xL_BadNumber ?bm_ok_BadNumber ?sa_BadNumber ?eC_BadNumber ?tC_BadNumber ?kC_BadNumber ?tI_BadNumber ?ga_BadNumber ?gg_BadNumber ?hd_BadNumber ?ic_BadNumber ?cc_BadNumber ?cm_BadNumber ?n_BadNumber_what ?n_BadNumber_value ?cn_ ?ct_ ?pg_Ratio ?hd_Ratio ?po_Ratio ?sa_Ratio ?mk_Ratio ?kc_Ratio ?sf_Ratio ?ni_Ratio ?in_Ratio ?ne_Ratio ?cc_Ratio ?cm_Ratio ?n_Ratio_over ?n_Ratio_under ?pg_Chances ?hd_Chances ?po_Chances ?sa_Chances ?mk_Chances ?kc_Chances ?oh_Chances_add ?sf_Chances ?ni_Chances ?in_Chances ?ne_Chances ?cc_Chances ?cm_Chances ?n_Chances_ratios ?n_Chances_scale ?n_Chances_counts ?ki_Ratio_Ratio ?ki_Chances_Chances ?ki_int_Ratio ?ki_bool_Ratio ?ki_NoneType_Ratio ?ki_str_Ratio ?sb_BadNumber_BadNumber ?gi_gcd ?gk_MOST_COPIES ?gk_MOST_UNDER ?mb_abs ?mb_bool ?mb_int ?mb_isinstance ?mb_iter ?mb_len ?mb_list ?mb_min ?mb_range ?mb_tuple
    (case aC_VoteError => k_is)
    (case aC_BadNumber => k_is)
    (case aC_Ratio => k_is)
    (case aC_Chances => k_is)
    (case a_BadNumber_init => k_is)
    (case l_BadNumber_init => k_is)
    (case cc_BadNumber_init => k_is)
    (case kk_BadNumber_init => k_is)
    (case a_is_integer => k_is)
    (case l_is_integer => k_is)
    (case cc_is_integer => k_is)
    (case kk_is_integer => k_is)
    (case a_check_number => k_is)
    (case l_check_number => k_is)
    (case cc_check_number => k_is)
    (case kk_check_number => k_is)
    (case a_check_copies => k_is)
    (case l_check_copies => k_is)
    (case cc_check_copies => k_is)
    (case kk_check_copies => k_is)
    (case a_check_copy => k_is)
    (case l_check_copy => k_is)
    (case cc_check_copy => k_is)
    (case kk_check_copy => k_is)
    (case a_Ratio_init => k_is)
    (case i_Ratio_init => k_is)
    (case l_Ratio_init => k_is)
    (case cc_Ratio_init => k_is)
    (case kk_Ratio_init => k_is)
    (case dl_Ratio_init => k_is)
    (case dd_Ratio_init => rfl)
    (case a_ratio_of => k_is)
    (case l_ratio_of => k_is)
    (case cc_ratio_of => k_is)
    (case kk_ratio_of => k_is)
    (case a_Ratio_eq => k_is)
    (case i_Ratio_eq => k_is)
    (case l_Ratio_eq => k_is)
    (case cc_Ratio_eq => k_is)
    (case kk_Ratio_eq => k_is)
    (case a_Ratio_lt => k_is)
    (case i_Ratio_lt => k_is)
    (case l_Ratio_lt => k_is)
    (case cc_Ratio_lt => k_is)
    (case kk_Ratio_lt => k_is)
    (case a_Ratio_ge => k_is)
    (case i_Ratio_ge => k_is)
    (case l_Ratio_ge => k_is)
    (case cc_Ratio_ge => k_is)
    (case kk_Ratio_ge => k_is)
    (case rd_Ratio_half => k_is)
    (case sg_Ratio_half => k_is)
    (case sa1_Ratio_half => k_is)
    (case sa2_Ratio_half => k_is)
    (case l_Ratio_half => k_is)
    (case cc_Ratio_half => k_is)
    (case kk_Ratio_half => k_is)
    (case a_is_short => k_is)
    (case l_is_short => k_is)
    (case cc_is_short => k_is)
    (case kk_is_short => k_is)
    (case a_check_chance => k_is)
    (case l_check_chance => k_is)
    (case cc_check_chance => k_is)
    (case kk_check_chance => k_is)
    (case a_scale_of => k_is)
    (case l_scale_of => k_is)
    (case cc_scale_of => k_is)
    (case kk_scale_of => k_is)
    (case a_counts_of => k_is)
    (case l_counts_of => k_is)
    (case cc_counts_of => k_is)
    (case kk_counts_of => k_is)
    (case a_Chances_init => k_is)
    (case i_Chances_init => k_is)
    (case l_Chances_init => k_is)
    (case cc_Chances_init => k_is)
    (case kk_Chances_init => k_is)
    (case a_Chances_eq => k_is)
    (case i_Chances_eq => k_is)
    (case l_Chances_eq => k_is)
    (case cc_Chances_eq => k_is)
    (case kk_Chances_eq => k_is)
    (case a_Chances_add => k_is)
    (case i_Chances_add => k_is)
    (case l_Chances_add => k_is)
    (case cc_Chances_add => k_is)
    (case kk_Chances_add => k_is)
    (case a_Chances_getitem => k_is)
    (case i_Chances_getitem => k_is)
    (case l_Chances_getitem => k_is)
    (case cc_Chances_getitem => k_is)
    (case kk_Chances_getitem => k_is)
    (case a_Chances_len => k_is)
    (case i_Chances_len => k_is)
    (case l_Chances_len => k_is)
    (case cc_Chances_len => k_is)
    (case kk_Chances_len => k_is)
    (case a_Chances_iter => k_is)
    (case i_Chances_iter => k_is)
    (case l_Chances_iter => k_is)
    (case cc_Chances_iter => k_is)
    (case kk_Chances_iter => k_is)
    (case a_Chances_with_chance => k_is)
    (case i_Chances_with_chance => k_is)
    (case l_Chances_with_chance => k_is)
    (case cc_Chances_with_chance => k_is)
    (case kk_Chances_with_chance => k_is)
    (case a_l_start => k_is)
    (case l_l_start => k_is)
    (case cc_l_start => k_is)
    (case kk_l_start => k_is)
    (case a_l_draw => k_is)
    (case l_l_draw => k_is)
    (case cc_l_draw => k_is)
    (case kk_l_draw => k_is)
    (case a_l_chance => k_is)
    (case l_l_chance => k_is)
    (case cc_l_chance => k_is)
    (case kk_l_chance => k_is)
    (case a_l_chances => k_is)
    (case l_l_chances => k_is)
    (case cc_l_chances => k_is)
    (case kk_l_chances => k_is)
    (case a_l_told => k_is)
    (case l_l_told => k_is)
    (case cc_l_told => k_is)
    (case kk_l_told => k_is)
    (case a_l_wrong => k_is)
    (case l_l_wrong => k_is)
    (case cc_l_wrong => k_is)
    (case kk_l_wrong => k_is)
    (case a_law => k_is)
    (case l_law => k_is)
    (case cc_law => k_is)
    (case kk_law => k_is)
    (case xL_BadNumber => k_is)
    (case bm_ok_BadNumber => decide +kernel)
    (case sa_BadNumber => k_is)
    (case eC_BadNumber => k_is)
    (case tC_BadNumber => k_is)
    (case kC_BadNumber => k_is)
    (case tI_BadNumber => k_is)
    (case ga_BadNumber => k_is)
    (case gg_BadNumber => k_is)
    (case hd_BadNumber => k_is)
    (case ic_BadNumber => k_is)
    (case cc_BadNumber => k_is)
    (case cm_BadNumber => k_is)
    (case n_BadNumber_what => k_is)
    (case n_BadNumber_value => k_is)
    (case cn_ => k_is)
    (case ct_ => k_is)
    (case pg_Ratio => k_is)
    (case hd_Ratio => k_is)
    (case po_Ratio => k_is)
    (case sa_Ratio => k_is)
    (case mk_Ratio => k_is)
    (case kc_Ratio => k_is)
    (case sf_Ratio => k_is)
    (case ni_Ratio => k_is)
    (case in_Ratio => k_is)
    (case ne_Ratio => k_is)
    (case cc_Ratio => k_is)
    (case cm_Ratio => k_is)
    (case n_Ratio_over => k_is)
    (case n_Ratio_under => k_is)
    (case pg_Chances => k_is)
    (case hd_Chances => k_is)
    (case po_Chances => k_is)
    (case sa_Chances => k_is)
    (case mk_Chances => k_is)
    (case kc_Chances => k_is)
    (case oh_Chances_add => k_is)
    (case sf_Chances => k_is)
    (case ni_Chances => k_is)
    (case in_Chances => k_is)
    (case ne_Chances => k_is)
    (case cc_Chances => k_is)
    (case cm_Chances => k_is)
    (case n_Chances_ratios => k_is)
    (case n_Chances_scale => k_is)
    (case n_Chances_counts => k_is)
    (case ki_Ratio_Ratio => kit_is)
    (case ki_Chances_Chances => kit_is)
    (case ki_int_Ratio => kit_is)
    (case ki_bool_Ratio => kit_is)
    (case ki_NoneType_Ratio => kit_is)
    (case ki_str_Ratio => kit_is)
    (case sb_BadNumber_BadNumber => k_is)
    (case gi_gcd => k_is)
    (case gk_MOST_COPIES => k_is)
    (case gk_MOST_UNDER => k_is)
    (case mb_abs => k_is)
    (case mb_bool => k_is)
    (case mb_int => k_is)
    (case mb_isinstance => k_is)
    (case mb_iter => k_is)
    (case mb_len => k_is)
    (case mb_list => k_is)
    (case mb_min => k_is)
    (case mb_range => k_is)
    (case mb_tuple => k_is)

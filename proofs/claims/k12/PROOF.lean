import PyProof.Rows.All
import Wide.All
import OpenK.AllK
import Wide.FinOn
import KE.RegKIsAll
import KE.KExcIs
import KE.KOpsOwn
import KE.KCallOwn
import KE.GoesEnum
import KE.GoesMore
import HandS.ForSpec
import HandS.ExcInit
import HandS.ExcField
import HandS.IsInst
import HandS.Style
import HandS.Evl
import HandS.OwnEq
import HandS.Wide
import HandS.Defaults
import HandS.Comp
import HandS.Conv
import HandS.Walk
import HandS.WideBits
import HandS.TupAny
import HandS.Zip
import HandS.Star
import HandS.SetFor
import HandS.ClsMeth
import HandS.TryOnly
import HandS.TryMany
import PySem.Challenge.RW_copyvotes_k12_whole_duals
set_option Elab.async false
set_option linter.all false
set_option maxRecDepth 100000
set_option maxHeartbeats 4000000

namespace Cv
open PySem PySem.Spec PyProof.Rows L2
def topS (i : Nat) : Stmt := PySem.Challenge.pw_copyvotes_k12_whole_duals.main.body.getD i (.Pass ⟨0, 0, 0, 0⟩)
abbrev s_BadNumber_init : Stmt := inClass (topS 3) 0
theorem sc_BadNumber_init : FnScope ["self", "what", "value"] ["self", "what", "value"] (defScope s_BadNumber_init) := ⟨rfl, rfl, rfl, by decide +kernel, rfl, by decide +kernel, by decide +kernel⟩
abbrev s_BadLot_init : Stmt := inClass (topS 4) 0
theorem sc_BadLot_init : FnScope ["self", "place"] ["self", "place"] (defScope s_BadLot_init) := ⟨rfl, rfl, rfl, by decide +kernel, rfl, by decide +kernel, by decide +kernel⟩
abbrev s_is_integer : Stmt := topS 7
theorem sc_is_integer : FnScope ["value"] ["value"] (defScope s_is_integer) := ⟨rfl, rfl, rfl, by decide +kernel, rfl, by decide +kernel, by decide +kernel⟩
abbrev s_check_number : Stmt := topS 8
theorem sc_check_number : FnScope ["what", "value", "low", "high"] ["what", "value", "low", "high"] (defScope s_check_number) := ⟨rfl, rfl, rfl, by decide +kernel, rfl, by decide +kernel, by decide +kernel⟩
abbrev s_check_copies : Stmt := topS 11
theorem sc_check_copies : FnScope ["copies"] ["copies"] (defScope s_check_copies) := ⟨rfl, rfl, rfl, by decide +kernel, rfl, by decide +kernel, by decide +kernel⟩
abbrev s_check_copy : Stmt := topS 12
theorem sc_check_copy : FnScope ["copies", "copy"] ["copies", "copy"] (defScope s_check_copy) := ⟨rfl, rfl, rfl, by decide +kernel, rfl, by decide +kernel, by decide +kernel⟩
abbrev s_mask_of : Stmt := topS 13
theorem sc_mask_of : FnScope ["copies", "numbers", "mask", "number"] ["copies", "numbers"] (defScope s_mask_of) := ⟨rfl, rfl, rfl, by decide +kernel, rfl, by decide +kernel, by decide +kernel⟩
abbrev s_lot_at : Stmt := topS 15
theorem sc_lot_at : FnScope ["mask", "copy"] ["mask"] (defScope s_lot_at) := ⟨rfl, rfl, rfl, by decide +kernel, rfl, by decide +kernel, by decide +kernel⟩
abbrev s_check_alike : Stmt := topS 18
theorem sc_check_alike : FnScope ["copies", "other"] ["copies", "other"] (defScope s_check_alike) := ⟨rfl, rfl, rfl, by decide +kernel, rfl, by decide +kernel, by decide +kernel⟩
abbrev s_is_within : Stmt := topS 19
theorem sc_is_within : FnScope ["marks", "more", "mine", "theirs"] ["marks", "more"] (defScope s_is_within) := ⟨rfl, rfl, rfl, by decide +kernel, rfl, by decide +kernel, by decide +kernel⟩
abbrev s_masks_of : Stmt := topS 20
theorem sc_masks_of : FnScope ["copies", "lots", "masks", "place", "lot", "mask"] ["copies", "lots"] (defScope s_masks_of) := ⟨rfl, rfl, rfl, by decide +kernel, rfl, by decide +kernel, by decide +kernel⟩
abbrev s_marks_above : Stmt := topS 21
theorem sc_marks_above : FnScope ["copies", "masks", "marks", "_", "mask", "copy", "bit", "mark"] ["copies", "masks"] (defScope s_marks_above) := ⟨rfl, rfl, rfl, by decide +kernel, rfl, by decide +kernel, by decide +kernel⟩
abbrev s_minimal_lots : Stmt := topS 22
theorem sc_minimal_lots : FnScope ["copies", "marks", "bits", "copy", "found", "mask", "mark", "bit"] ["copies", "marks"] (defScope s_minimal_lots) := ⟨rfl, rfl, rfl, by decide +kernel, rfl, by decide +kernel, by decide +kernel⟩
abbrev s_Family_init : Stmt := inClass (topS 17) 0
theorem bs_Family_init (kV doc pm : Value) (an : Option Addr) (cdv ct : Value) : ∀ us rest : List Value, us.length = (["self", "copies"] : List Str).length → bindArgs (PySem.W.fnOf "__init__" "Family.__init__" (defArgs s_Family_init) (defBody s_Family_init) (defScope s_Family_init) .none kV doc pm an cdv ct) ⟨us ++ rest, []⟩ = (newTuple rest >>= fun t => pure ((["self", "copies"] : List Str).zip us ++ [(("lots" : Str), t)])) := StX.bind_star2 (B := fun z => bindArgs (PySem.W.fnOf "__init__" "Family.__init__" (defArgs s_Family_init) (defBody s_Family_init) (defScope s_Family_init) .none kV doc pm an cdv ct) ⟨z, []⟩) (fun a b => rfl) (fun a b r rs => rfl)
theorem sc_Family_init : FnScope ["self", "copies", "lots", "marks"] ["self", "copies", "lots"] (defScope s_Family_init) := ⟨rfl, rfl, rfl, by decide +kernel, rfl, by decide +kernel, by decide +kernel⟩
abbrev s_marked : Stmt := topS 23
theorem sc_marked : FnScope ["copies", "marks", "lots"] ["copies", "marks"] (defScope s_marked) := ⟨rfl, rfl, rfl, by decide +kernel, rfl, by decide +kernel, by decide +kernel⟩
abbrev s_Family_eq : Stmt := inClass (topS 17) 3
theorem sc_Family_eq : FnScope ["self", "other"] ["self", "other"] (defScope s_Family_eq) := ⟨rfl, rfl, rfl, by decide +kernel, rfl, by decide +kernel, by decide +kernel⟩
abbrev s_Family_le : Stmt := inClass (topS 17) 4
theorem sc_Family_le : FnScope ["self", "other"] ["self", "other"] (defScope s_Family_le) := ⟨rfl, rfl, rfl, by decide +kernel, rfl, by decide +kernel, by decide +kernel⟩
abbrev s_Family_or : Stmt := inClass (topS 17) 5
theorem sc_Family_or : FnScope ["self", "other", "mine", "theirs"] ["self", "other"] (defScope s_Family_or) := ⟨rfl, rfl, rfl, by decide +kernel, rfl, by decide +kernel, by decide +kernel⟩
abbrev s_Family_and : Stmt := inClass (topS 17) 6
theorem sc_Family_and : FnScope ["self", "other", "mine", "theirs"] ["self", "other"] (defScope s_Family_and) := ⟨rfl, rfl, rfl, by decide +kernel, rfl, by decide +kernel, by decide +kernel⟩
abbrev s_mask_in : Stmt := topS 14
theorem sc_mask_in : FnScope ["copies", "value"] ["copies", "value"] (defScope s_mask_in) := ⟨rfl, rfl, rfl, by decide +kernel, rfl, by decide +kernel, by decide +kernel⟩
abbrev s_Family_contains : Stmt := inClass (topS 17) 7
theorem sc_Family_contains : FnScope ["self", "lot", "mask"] ["self", "lot"] (defScope s_Family_contains) := ⟨rfl, rfl, rfl, by decide +kernel, rfl, by decide +kernel, by decide +kernel⟩
abbrev s_Family_meets : Stmt := inClass (topS 17) 13
theorem sc_Family_meets : FnScope ["self", "other", "mine", "theirs"] ["self", "other"] (defScope s_Family_meets) := ⟨rfl, rfl, rfl, by decide +kernel, rfl, by decide +kernel, by decide +kernel⟩
abbrev s_Family_is_strict : Stmt := inClass (topS 17) 14
theorem sc_Family_is_strict : FnScope ["self"] ["self"] (defScope s_Family_is_strict) := ⟨rfl, rfl, rfl, by decide +kernel, rfl, by decide +kernel, by decide +kernel⟩
abbrev s_Family_dual : Stmt := inClass (topS 17) 15
theorem sc_Family_dual : FnScope ["self", "mark"] ["self"] (defScope s_Family_dual) := ⟨rfl, rfl, rfl, by decide +kernel, rfl, by decide +kernel, by decide +kernel⟩
abbrev s_l_start : Stmt := topS 25
theorem sc_l_start : FnScope ["_law_script", "_law_first"] ["_law_script"] (defScope s_l_start) := ⟨rfl, rfl, rfl, by decide +kernel, rfl, by decide +kernel, by decide +kernel⟩
abbrev s_l_draw : Stmt := topS 26
theorem sc_l_draw : FnScope ["_law_script", "_law_state", "_law_limit", "_law_number", "_law_cell", "_law_mixed"] ["_law_script", "_law_state", "_law_limit"] (defScope s_l_draw) := ⟨rfl, rfl, rfl, by decide +kernel, rfl, by decide +kernel, by decide +kernel⟩
abbrev s_l_lots : Stmt := topS 28
theorem sc_l_lots : FnScope ["_law_copies", "_law_lots_here", "_law_copy", "_law_lot"] ["_law_copies"] (defScope s_l_lots) := ⟨rfl, rfl, rfl, by decide +kernel, rfl, by decide +kernel, by decide +kernel⟩
abbrev s_l_drawn : Stmt := topS 31
theorem sc_l_drawn : FnScope ["_law_script", "_law_state", "_law_copies", "_law_lots_here", "_law_k"] ["_law_script", "_law_state", "_law_copies"] (defScope s_l_drawn) := ⟨rfl, rfl, rfl, by decide +kernel, rfl, by decide +kernel, by decide +kernel⟩
abbrev s_l_family : Stmt := topS 32
theorem sc_l_family : FnScope ["_law_copies", "_law_chosen", "_law_family_here", "_law_lot"] ["_law_copies", "_law_chosen"] (defScope s_l_family) := ⟨rfl, rfl, rfl, by decide +kernel, rfl, by decide +kernel, by decide +kernel⟩
abbrev s_l_holds : Stmt := topS 29
theorem sc_l_holds : FnScope ["_law_lot", "_law_part", "_law_copy"] ["_law_lot", "_law_part"] (defScope s_l_holds) := ⟨rfl, rfl, rfl, by decide +kernel, rfl, by decide +kernel, by decide +kernel⟩
abbrev s_l_grown : Stmt := topS 30
theorem sc_l_grown : FnScope ["_law_copies", "_law_chosen", "_law_part", "_law_lot"] ["_law_copies", "_law_chosen"] (defScope s_l_grown) := ⟨rfl, rfl, rfl, by decide +kernel, rfl, by decide +kernel, by decide +kernel⟩
abbrev s_l_meet : Stmt := topS 34
theorem sc_l_meet : FnScope ["_law_first", "_law_second", "_law_copy"] ["_law_first", "_law_second"] (defScope s_l_meet) := ⟨rfl, rfl, rfl, by decide +kernel, rfl, by decide +kernel, by decide +kernel⟩
abbrev s_l_all_meet : Stmt := topS 35
theorem sc_l_all_meet : FnScope ["_law_first", "_law_second", "_law_lot", "_law_other"] ["_law_first", "_law_second"] (defScope s_l_all_meet) := ⟨rfl, rfl, rfl, by decide +kernel, rfl, by decide +kernel, by decide +kernel⟩
abbrev s_law : Stmt := topS 36
theorem sc_law : FnScope ["_law_script", "_law_state", "_law_copies", "_law_lots_here", "_law_chosen", "_law_family_here", "_law_marks_here", "_law_inside", "_law_code_here", "_law_dual", "_law_due", "_law_lot", "_law_other", "_law_found", "_law_theirs", "_law_second"] ["_law_script"] (defScope s_law) := ⟨rfl, rfl, rfl, by decide +kernel, rfl, by decide +kernel, by decide +kernel⟩
/-! ## What every law's text wants: heaps, exceptions, the draws -/
theorem same_upd {H : Hp} {p : Addr} {o : HO} (h : H p = none) : Same H (upd H p o) := fun b x e => by
  rw [upd_ne (ne_of_none e h)]
  exact e
theorem same_upd2 {H H' : Hp} {p : Addr} {o : HO} (e : Same H H') (h : H p = none) : Same H (upd H' p o) := fun b x k => by
  rw [upd_ne (ne_of_none k h)]
  exact e b x k
/-- an except clause that names an own class -/
theorem exm_own {K : PySem.W.Frag} {cls : Value} {S : Addr} {b : Bool} (h1 : PySem.W.subIn K (.ref S) (.type "BaseException") = some true) (h2 : PySem.W.isClsIn K S = true) (h3 : PySem.W.typeIn K (.ref S) = some (.type "type")) (h4 : PySem.W.subIn K cls (.ref S) = some b) :
    PySem.W.exmOne K cls (.ref S) = some b := by
  have e1 : (PySem.W.subIn K (.ref S) (.type "BaseException") == some true) = true := by rw [h1] <;> rfl
  have e2 : ((PySem.W.clsIn K S).isSome && PySem.W.typeIn K (.ref S) == some (.type "type")) = true := by
    have h2' : (PySem.W.clsIn K S).isSome = true := h2
    rw [h2', h3] <;> rfl
  show (if (PySem.W.subIn K (.ref S) (.type "BaseException") == some true) = true then (if ((PySem.W.clsIn K S).isSome && PySem.W.typeIn K (.ref S) == some (.type "type")) = true then PySem.W.subIn K cls (.ref S) else none) else none) = some b
  rw [if_pos e1, if_pos e2]
  exact h4
/-- what isinstance asks of an own exception class -/
structure XiC (K : PySem.W.Frag) (C : Addr) : Prop where
  cl : PySem.W.isClsIn K C = true
  ga : PySem.W.findIn K (.ref C) "__getattribute__" = some (some (.builtin "BaseException.__getattribute__"))
  gg : PySem.W.findIn K (.ref C) "__getattr__" = some none
  sb : PySem.W.subIn K (.ref C) (.type "BaseException") = some true
  ha : PySem.W.findIn K (.ref C) "__class__" = some (some (.builtin "object.__class__"))
  hn : PySem.W.specialIn K (.builtin "object.__class__") "__get__" = some (some (.builtin "getset_descriptor.__get__"))
  ht : PySem.W.takesIn K (.builtin "object.__class__") = some true
  hm : PySem.W.mroIn K C (.type "object") = some true
/-- isinstance(e, c) within the suite that holds e, an error with its own dict -/
def rIsX (K : PySem.W.Frag) (a C : Addr) (cls : Value) (d : Option Addr) : List V → Hp → VK → Prop := fun xs H Q => ∃ (c : V) (cv : Value) (b : Bool) (dd : Addr) (fs : List (Str × V)), xs = [.ref a, c] ∧ cls = .ref C ∧ d = some dd ∧ H dd = some (.xd fs) ∧ ClsV c cv ∧ PySem.W.kitOne K (.ref C) cv = some b ∧ Q (.bl b) H
theorem call_isX {X : Cx} {a C : Addr} {oe : Obj} {cls : Value} {d : Option Addr} {pn : List (Addr × Obj)} (T : XiC X.K C) (hz : Zc cls d oe) (hf : ∃ vs, oe.data = .fields vs) : CallR (X.suite a ((a, oe) :: pn)) (.builtin "isinstance") (rIsX X.K a C cls d) := by
  intro pins s σ H xs us Q I r h
  obtain ⟨c, cv, b, dd, fs, rfl, rfl, rfl, ea, hcv, e, q⟩ := h
  obtain ⟨u1, u2, rfl, r1, r2⟩ := vals2 r
  cases (show u1 = Value.ref a from r1)
  have ec := hcv.eq r2
  subst ec
  obtain ⟨ha, _⟩ := I.pin (a, oe) (List.mem_append_left _ List.mem_cons_self)
  obtain ⟨vs, hd⟩ := hf
  have hx : ObjOk X.prog X.w H s.heap dd (.xd fs) := I.hok dd _ ea
  obtain ⟨mA, hns, hr⟩ := hx
  obtain ⟨od, ho, hl⟩ := lookIn_ns hns
  have J : PySem.W.InstAt s.heap a oe C (some od) := ⟨ha, hz.1, by unfold PySem.W.notCls; rw [hd] <;> rfl, by rw [hz.2]; exact ho⟩
  exact PySem.W.kia_one (PySem.W.kitx_exc T.cl T.ga T.gg T.sb T.ha T.hn T.ht T.hm) I.kIn J e (fun z => nomatch z) fun tk => ⟨.bl b, H, I.kept (t' := tk) fun _ _ z => z, rfl, q⟩
/-! ### the state of the draws -/
def St4 (H : Hp) (t : Addr) : Prop := ∃ a b c d : Int, H t = some (.lst [.int a, .int b, .int c, .int d])
/-- H0: the heap of old, t: the state's list, l: the script -/
structure Drw (K : PySem.W.Frag) (H0 : Hp) (l t : Addr) (H : Hp) : Prop where
  scr : ∃ ns : List Int, SqL K H0 l (ns.map V.int)
  new : H0 t = none
  same : Same H0 H
  st : St4 H t
theorem Drw.sc {K : PySem.W.Frag} {H0 H : Hp} {l t : Addr} (D : Drw K H0 l t H) : ∃ ns : List Int, SqL K H l (ns.map V.int) := by
  obtain ⟨ns, h⟩ := D.scr
  exact ⟨ns, D.same.seq h⟩
theorem Drw.upd {K : PySem.W.Frag} {H0 H : Hp} {l t : Addr} {a b c d : Int} (D : Drw K H0 l t H) : Drw K H0 l t (upd H t (.lst [.int a, .int b, .int c, .int d])) :=
  ⟨D.scr, D.new, same_upd2 D.same D.new, ⟨a, b, c, d, upd_same⟩⟩
theorem Drw.mono {K : PySem.W.Frag} {H0 H H' : Hp} {l t : Addr} (D : Drw K H0 l t H) (e : Same H H') : Drw K H0 l t H' := by
  obtain ⟨a, b, c, d, h⟩ := D.st
  exact ⟨D.scr, D.new, D.same.trans e, ⟨a, b, c, d, e _ _ h⟩⟩
/-- all but what stands at t -/
def But (t : Addr) (H H' : Hp) : Prop := ∀ b, b ≠ t → H' b = H b
theorem But.refl {t : Addr} {H : Hp} : But t H H := fun _ _ => rfl
theorem But.trans {t : Addr} {H H1 H2 : Hp} (a : But t H H1) (b : But t H1 H2) : But t H H2 := fun c h => (b c h).trans (a c h)
theorem But.upd {t : Addr} {H H1 : Hp} {o : HO} (a : But t H H1) : But t H (upd H1 t o) := fun c h => (upd_ne h).trans (a c h)
def spStart (K : PySem.W.Frag) : Sp := fun vs H Q _ => ∃ (l : Addr) (ns : List Int), vs = [.ref l] ∧ SqL K H l (ns.map V.int) ∧ ∀ t H', H t = none → Drw K H l t H' → But t H H' → Q (.ref t) H'
def spDraw (K : PySem.W.Frag) : Sp := fun vs H Q _ => ∃ (l t : Addr) (m : Int) (H0 : Hp), vs = [.ref l, .ref t, .int m] ∧ Drw K H0 l t H ∧ 0 < m ∧ m < 1073741824 ∧ ∀ (v : Int) H', 0 ≤ v → v < m → But t H H' → Drw K H0 l t H' → Q (.int v) H'
theorem at0 {a b c d : V} : atI [a, b, c, d] 0 = some a := rfl
theorem at1 {a b c d : V} : atI [a, b, c, d] 1 = some b := rfl
theorem at2 {a b c d : V} : atI [a, b, c, d] 2 = some c := rfl
theorem at3 {a b c d : V} : atI [a, b, c, d] 3 = some d := rfl
/-- the plain steps of a reading -/
local macro_rules | `(tactic| walk_at "rd") => `(tactic| repeat (first | refine ⟨_, rfl, ?_⟩ | refine ⟨_, _, rfl, rfl, ?_⟩ | refine ⟨⟨by decide, by decide⟩, ?_⟩ | refine ⟨⟨by decide, by decide, by decide⟩, ?_⟩ | refine ⟨show (0 : Int) < _ by decide, ?_⟩))
/-! ### data, errors, numbers -/
theorem Same.seqT {K : PySem.W.Frag} {H H' : Hp} {a : Addr} {xs : List V} (e : Same H H') (h : SqT K H a xs) : SqT K H' a xs := by
  rcases h with (h | ⟨o, h⟩) | h
  · exact .inl (.inl (e _ _ h))
  · exact .inl (.inr ⟨o, e _ _ h⟩)
  · exact .inr h
mutual
theorem dp_same {K : PySem.W.Frag} {H H' : Hp} (e : Same H H') : ∀ {v : V} {d : PyData}, Dp K H v d → Dp K H' v d
  | _, _, .non => .non
  | _, _, .bl b => .bl b
  | _, _, .int i => .int i
  | _, _, .str x => .str x
  | _, _, .lst h a => .lst (e.seq h) (dps_same e a)
  | _, _, .tup h a => .tup (Same.seqT e h) (dps_same e a)
theorem dps_same {K : PySem.W.Frag} {H H' : Hp} (e : Same H H') : ∀ {vs : List V} {ds : List PyData}, DpAll K H vs ds → DpAll K H' vs ds
  | _, _, .nil => .nil
  | _, _, .cons h a => .cons (dp_same e h) (dps_same e a)
end
theorem ne_self {d : PyData} (h : SeqAt.shaped d = true) : (!PyData.eqv d d) = false := by
  rw [SeqAt.eqv_refl d (SeqAt.canLay_of_shaped h)] <;> rfl
theorem eq_self {d : PyData} (h : SeqAt.shaped d = true) : PyData.eqv d d = true := SeqAt.eqv_refl d (SeqAt.canLay_of_shaped h)
/-- an error of two fields, being made -/
def spX2 (C : Addr) (f1 f2 : Str) : Sp := fun vs H Q _ => ∃ (a : Addr) (x y : V), vs = [.ref a, x, y] ∧ H a = some (exo a C none) ∧
  ∀ d, H d = none → d ≠ a → Q .non (upd (upd (upd H d (exd d [(f1, x)])) a (exo a C (some d))) d (exd d [(f2, y), (f1, x)]))
theorem mk2 {C : Addr} {f1 f2 : Str} {H1 : Hp} {x y : V} {Q : XK} (h : ∀ d H', H1 d = none → Same H1 H' → H' d = some (.xd [(f2, y), (f1, x)]) → Q (.ref C) (some d) H') :
    ([x, y] : List V).length ≤ 1000 ∧ ∀ a, H1 a = none → spX2 C f1 f2 (.ref a :: ([x, y] ++ [])) (upd H1 a (exo a C none)) (fun v H2 => v = .non ∧ ∃ (d : Addr) (fs : List (Str × V)), H2 a = some (exo a C (some d)) ∧ H2 d = some (exd d fs) ∧ H1 d = none ∧ Q (.ref C) (some d) (upd (del H2 a) d (.xd fs))) (fun _ _ _ => False) := by
  refine ⟨by show 2 ≤ 1000; decide, fun a ha => ⟨a, x, y, rfl, upd_same, fun d hd hda => ⟨rfl, d, _, ?_, upd_same, ?_, ?_⟩⟩⟩
  · rw [upd_ne (Ne.symm hda), upd_same]
  · rw [upd_ne hda] at hd
    exact hd
  · have hd1 : H1 d = none := by
      rw [upd_ne hda] at hd
      exact hd
    refine h d _ hd1 (fun b o e => ?_) upd_same
    have hba : b ≠ a := ne_of_none e ha
    have hbd : b ≠ d := ne_of_none e hd1
    rw [upd_ne hbd, del_ne hba, upd_ne hbd, upd_ne hba, upd_ne hbd, upd_ne hba]
    exact e
/-- what is an integer -/
def isInt : V → Bool
  | .int _ => true
  | _ => false
/-- a value that isinstance can ask -/
def Kn (K : PySem.W.Frag) (H : Hp) (x : V) : Prop := ∃ t b1 b2, TyX K H x t ∧ PySem.W.kitOne K t (.type "int") = some b1 ∧ (b1 = true → PySem.W.kitOne K t (.type "bool") = some b2) ∧ (b1 && !b2) = isInt x
theorem kn_int {K : PySem.W.Frag} {H : Hp} (i : Int) : Kn K H (.int i) := ⟨_, true, false, .base (.int i), kit_ty (by decide +kernel), fun _ => kit_ty (by decide +kernel), rfl⟩
theorem kn_bl {K : PySem.W.Frag} {H : Hp} (b : Bool) : Kn K H (.bl b) := ⟨_, true, true, .base (.bl b), kit_ty (by decide +kernel), fun _ => kit_ty (by decide +kernel), rfl⟩
theorem kn_non {K : PySem.W.Frag} {H : Hp} : Kn K H .non := ⟨_, false, false, .base .non, kit_ty (by decide +kernel), fun z => (nomatch z), rfl⟩
theorem kn_str {K : PySem.W.Frag} {H : Hp} (x : Str) : Kn K H (.str x) := ⟨_, false, false, .base (.str x), kit_ty (by decide +kernel), fun z => (nomatch z), rfl⟩
theorem kn_tup {K : PySem.W.Frag} {H : Hp} {a : Addr} {xs : List V} (e : H a = some (.tup xs)) : Kn K H (.ref a) := ⟨_, false, false, .base (.tup e), kit_ty (by decide +kernel), fun z => (nomatch z), rfl⟩
def spIsInt (K : PySem.W.Frag) : Sp := fun vs H Q _ => ∃ x, vs = [x] ∧ Kn K H x ∧ Q (.bl (isInt x)) H
def oV : Option Int → V
  | none => .non
  | some i => .int i
/-- within the bounds -/
def good (x : V) (lo hi : Option Int) : Bool := match x with
  | .int i => lo.all (fun l => decide (l ≤ i)) && hi.all (fun h => decide (i ≤ h))
  | _ => false
def spCheck (K : PySem.W.Frag) (C : Addr) : Sp := fun vs H Q E => ∃ (w : Str) (x : V) (lo hi : Option Int), vs = [.str w, x, oV lo, oV hi] ∧ Kn K H x ∧ (good x lo hi = true → Q x H) ∧
  (good x lo hi = false → ∀ d H', H d = none → Same H H' → H' d = some (.xd [("value", x), ("what", .str w)]) → E (.ref C) (some d) H')
/-- subscripts whose written part is named (within a comprehension) -/
theorem ixK_list {X : Cx} {K : PySem.W.Frag} (h : X.K = K) : IxR X (rIxL K) := h ▸ ix_list
theorem ixK_tup {X : Cx} {K : PySem.W.Frag} (h : X.K = K) : IxR X (rIxT K) := h ▸ ix_tup
/-- a field, the written part named (within a try) -/
theorem pe_fldK {X : Cx} {K : PySem.W.Frag} {e : Expr} {f : Str} {pos : Pos} {ta : TE} (h : X.K = K) (he : PE X e ta) (hb : attributeBase e f X.env (eval e X.env) = eval e X.env) : PE X (.Attribute e f pos) (tFld K ta f) := h ▸ pe_fld he hb
/-! ### own exceptions of one field, and of none -/
def spX1 (C : Addr) (f1 : Str) : Sp := fun vs H Q _ => ∃ (a : Addr) (x : V), vs = [.ref a, x] ∧ H a = some (exo a C none) ∧ ∀ d, H d = none → d ≠ a → Q .non (upd (upd H d (exd d [(f1, x)])) a (exo a C (some d)))
theorem mk1 {C : Addr} {f1 : Str} {H1 : Hp} {x : V} {Q : XK} (h : ∀ d H', H1 d = none → Same H1 H' → H' d = some (.xd [(f1, x)]) → Q (.ref C) (some d) H') :
    ([x] : List V).length ≤ 1000 ∧ ∀ a, H1 a = none → spX1 C f1 (.ref a :: ([x] ++ [])) (upd H1 a (exo a C none)) (fun v H2 => v = .non ∧ ∃ (d : Addr) (fs : List (Str × V)), H2 a = some (exo a C (some d)) ∧ H2 d = some (exd d fs) ∧ H1 d = none ∧ Q (.ref C) (some d) (upd (del H2 a) d (.xd fs))) (fun _ _ _ => False) := by
  refine ⟨by show 1 ≤ 1000; decide, fun a ha => ⟨a, x, rfl, upd_same, fun d hd hda => ⟨rfl, d, _, upd_same, (upd_ne hda).trans upd_same, ?_, ?_⟩⟩⟩
  · rw [upd_ne hda] at hd
    exact hd
  · have hd1 : H1 d = none := by
      rw [upd_ne hda] at hd
      exact hd
    refine h d _ hd1 (fun b o e => ?_) upd_same
    have hba : b ≠ a := ne_of_none e ha
    have hbd : b ≠ d := ne_of_none e hd1
    rw [upd_ne hbd, del_ne hba, upd_ne hba, upd_ne hbd, upd_ne hba]
    exact e
abbrev VEb : List Value := [.type "ValueError", .type "Exception", .type "BaseException", .type "object"]
/-- what the written part says of a class without an own __init__ -/
structure Ex0C (K : PySem.W.Frag) (C : Addr) : Prop where
  q : PySem.W.excIn K C VEb "ValueError.__new__" = true
  kC : PySem.W.keepIn K (.ref C) = true
  exC : PySem.W.subIn K (.ref C) (.type "BaseException") = some true
  tyC : PySem.W.typeIn K (.ref C) = some (.type "type")
/-- C() -/
theorem pmk_own0 {X : Cx} {C : Addr} {x : Str} {p pos : Pos} (T : Ex0C X.K C) (gC : X.mg x = some (.ref C)) (hg : Gl X x) (hdb : (x == ("__debug__" : Str)) = false := by decide) : PMk X (.Call (.Name x p) [] [] pos) (fun _ H Q => Q (.ref C) none H) := by
  intro pins s σ H Q I h
  refine wpAny_Call_Name_kw (ld_glob I hg gC ?_ hdb)
  refine PySem.W.callWith_K0 I.kIn T.kC ?_
  show wpAny _ _ (call (.ref C) []) _ _ _
  obtain ⟨bm, N, nm, qn, bs, hdct, sn, sub, ab, col, dd, k0, k1, k2, k3, k5, mN, hC, hN, hni, tail⟩ := exc_obj I.kIn T.q
  refine wpAny_call_exc_subT PySem.F.excBase_ValueError tail hC hN hni ?_ (Nat.zero_le _)
  intro h' e made
  exact mk_of I made (raises_own T.exC T.tyC) h (I.hok.gone made.new)
/-! ### operators of an own class: x op y, x op int, int op x, !=, str -/
section
variable {prog : Program} {w : World} {A : Around} {E : Value → Shared → Prop} {s : Shared} {K : PySem.W.Frag} {x C f : Addr} {ox : Obj} {od : Option Obj}
theorem bin_declines {nm : String} {g : Int → Int → Sem Fin} {n : Int} {t : Tok} {Q : Fin → Shared → Prop} {R : Value → Shared → Prop} (hs : slotArgs nm 1 ⟨[.int n t, .ref x], []⟩ = pure (.int n t, [.ref x]))
    (hx : s.heap.get? x = some ox) (hp : ∀ v, ox.data ≠ .prim v) (h : Q (.done (.ret .notImplemented)) s) :
    wpAny (model prog w) A (Builtin.Int.intBinary nm g false ⟨[.int n t, .ref x], []⟩) Q R s := by
  unfold Builtin.Int.intBinary
  refine wpAny_bind (wpAny_of_eq (a := ((Value.int n t, [Value.ref x]) : Value × List Value)) hs ?_)
  dsimp only
  unfold Builtin.Int.intOfSelf asInt?
  refine wpAny_bind (wpAny_bind (wpAny_pure ?_))
  dsimp only
  refine wpAny_pure (wpAny_bind ?_)
  show wpAny _ _ (load x >>= _) _ _ _
  refine wpAny_bind (wpAny_load hx ?_)
  have fin : wpAny (model prog w) A (do rule "int.binary.not-an-int"; ret Value.notImplemented) Q R s := wpAny_bind (wpAny_rule (wpAny_pure h))
  cases e : ox.data with
  | prim v => exact absurd e (hp v)
  | _ => exact wpAny_pure fin
/-- int's slot with an instance on the right declines -/
theorem int_try {name : Str} {id nm : String} {g : Int → Int → Sem Fin} {n : Int} {t : Tok} {Q : Value → Shared → Prop} (slot : Slot "int" name id) (entry : entryFor table id = some (Builtin.Int.intBinary nm g false)) (args : argsOk id ⟨[.int n t, .ref x], []⟩)
    (hs : slotArgs nm 1 ⟨[.int n t, .ref x], []⟩ = pure (.int n t, [.ref x])) (hx : s.heap.get? x = some ox) (hp : ∀ v, ox.data ≠ .prim v) (h : Q .notImplemented s) : wpAny (model prog w) A (call (.builtin id) [.int n t, .ref x]) Q E s :=
  GQ.call_here slot (typeIs_int s n t) entry args (bin_declines hs hx hp h)
theorem refl_bin {op : Operator} {id nm : String} {g : Int → Int → Sem Fin} {n : Int} {t : Tok} {fr : Addr} {cd : ClassData} {rest : List Value} {Q : Value → Shared → Prop} (X : K.In s.heap) (I : PySem.W.InstAt s.heap x ox C od)
    (slot : Slot "int" (PySem.dunder op.info.2) id) (entry : entryFor table id = some (Builtin.Int.intBinary nm g false)) (args : argsOk id ⟨[.int n t, .ref x], []⟩) (hs : slotArgs nm 1 ⟨[.int n t, .ref x], []⟩ = pure (.int n t, [.ref x])) (hp : ∀ v, ox.data ≠ .prim v)
    (hfI : fillsNumberSlot (.type "int") op.info.2 = pure true) (hcd : PySem.W.clsIn K C = some cd) (hm : cd.mro = .ref C :: rest) (hf : PySem.W.findIn K (.ref C) (PySem.dunder op.info.2) = some (some (.ref f))) (hsub : PySem.W.subIn K (.ref C) (.type "int") = some false)
    (hr : PySem.W.findIn K (.ref C) (dunderR op.info.2) = some (some (.ref fr))) (hfn : PySem.W.isFn K (.ref fr) = true) (h : wpAny (model prog w) A (call (.ref fr) [.ref x, .int n t]) (PySem.W.CmpBack Q) E s) :
    wpAny (model prog w) A (binaryOp op (.int n t) (.ref x)) Q E s := by
  rcases hi : op.info with ⟨sym, nm'⟩
  rw [hi] at slot hfI hf hr
  dsimp only at slot hfI hf hr
  simp only [binaryOp, hi]
  refine wpAny_holding (wpAny_bind ?_)
  unfold binaryOp1
  have hne : (Value.type "int" == Value.ref C) = false := Bool.eq_false_iff.mpr fun q => by cases beq_iff_eq.mp q
  refine wpAny_bind (wpAny_typeOf (typeIs_int s n t) (wpAny_bind (I.type.here (wpAny_bind (wpAny_of_eq hfI ?_)))))
  simp only [hne, Bool.false_eq_true, if_false]
  refine wpAny_bind ((PySem.W.fills_K X hcd hm hf).here ?_)
  simp only [Bool.and_self, if_true]
  refine wpAny_bind ((PySem.W.looks_subIn X hsub).here ?_)
  have hpy : numberSlotInPython (.type "int") nm' = pure false := rfl
  simp only [Bool.false_eq_true, if_false, pure_bind, Bool.not_false, Bool.and_self, if_true, hpy]
  refine wpAny_bind (wpAny_tryMethod_declines (typeIs_int s n t) slot (int_try slot entry args hs I.1 hp ⟨rfl, ?_⟩))
  refine wpAny_bind (wpAny_mono (PySem.W.ksp_try X I hr hfn h) (fun r s' z => ?_) fun _ _ e => e)
  obtain ⟨v, rfl, hq⟩ := z
  exact wpAny_bind (wpAny_rule (wpAny_pure (wpAny_pure hq)))
theorem cmp_try {name : Str} {b : Value} {Q : Value → Shared → Prop} (X : K.In s.heap) (I : PySem.W.InstAt s.heap x ox C od) (hs : PySem.W.findIn K (.ref C) name = some (some (.ref f))) (hf : PySem.W.isFn K (.ref f) = true)
    (h : wpAny (model prog w) A (call (.ref f) [.ref x, b]) (PySem.W.CmpBack Q) E s) : wpAny (model prog w) A (tryCompare (.ref x) name b) (fun r s' => ∃ v, r = some v ∧ Q v s') E s := by
  unfold tryCompare
  refine wpAny_bind (PySem.W.ifBound_K X I hs hf (wpAny_mono h (fun v s' hv => ?_) fun _ _ e => e))
  cases v <;> first | exact hv.elim | exact wpAny_pure ⟨_, rfl, hv⟩
theorem refl_cmp {op : CmpOp} {id nm : String} {g : Int → Int → Sem Fin} {n : Int} {t : Tok} {fr : Addr} {Q : Value → Shared → Prop} (hu : A.units < cLine) (X : K.In s.heap) (I : PySem.W.InstAt s.heap x ox C od)
    (slot : Slot "int" (cmpInfo op).2.1 id) (entry : entryFor table id = some (Builtin.Int.intBinary nm g false)) (args : argsOk id ⟨[.int n t, .ref x], []⟩) (hs : slotArgs nm 1 ⟨[.int n t, .ref x], []⟩ = pure (.int n t, [.ref x])) (hp : ∀ v, ox.data ≠ .prim v)
    (hot : oneThing? op (.int n t) (.ref x) = none) (hsub : PySem.W.subIn K (.ref C) (.type "int") = some false)
    (hr : PySem.W.findIn K (.ref C) (cmpInfo op).2.2 = some (some (.ref fr))) (hfn : PySem.W.isFn K (.ref fr) = true) (h : wpAny (model prog w) A (call (.ref fr) [.ref x, .int n t]) (PySem.W.CmpBack Q) E s) :
    wpAny (model prog w) A (richCompare op (.int n t) (.ref x)) Q E s := by
  unfold richCompare
  rw [hot]
  have hne : (Value.type "int" != Value.ref C) = true := by
    have q : (Value.type "int" == Value.ref C) = false := Bool.eq_false_iff.mpr fun q => by cases beq_iff_eq.mp q
    rw [bne, q] <;> rfl
  refine wpAny_holding (wpAny_bind (wpAny_cRoomFor hu ?_))
  dsimp only
  refine wpAny_bind (wpAny_typeOf (typeIs_int s n t) (wpAny_bind (I.type.here ?_)))
  rw [hne]
  simp only [if_true]
  refine wpAny_bind ((PySem.W.looks_subIn X hsub).here ?_)
  simp only [Bool.false_eq_true, if_false, Bool.not_false, if_true]
  have one : ∀ {Q' : Option Value → Shared → Prop}, Q' none s → wpAny (model prog w) A (tryCompare (.int n t) (cmpInfo op).2.1 (.ref x)) Q' E s := fun {Q'} q => by
    unfold tryCompare
    exact wpAny_bind (wpAny_callSpecialIfBound?_slot (typeIs_int s n t) slot (int_try slot entry args hs I.1 hp (wpAny_pure q)))
  refine wpAny_bind (one ?_)
  dsimp only
  refine wpAny_bind (wpAny_mono (cmp_try X I hr hfn h) (fun r s' z => ?_) fun _ _ e => e)
  obtain ⟨v, rfl, hq⟩ := z
  exact wpAny_pure hq
end
section
variable {prog : Program} {w : World} {A : Around} {E : Value → Shared → Prop} {s : Shared} {K : PySem.W.Frag} {x C f : Addr} {ox : Obj} {od : Option Obj}
/-- a special method that the class has from object -/
theorem ifBound_slot {M : Model} {name : Str} {id : String} {args : List Value} {Q : Option Value → Shared → Prop} (X : K.In s.heap) (I : PySem.W.InstAt s.heap x ox C od) (S : Slot "object" name id) (hs : PySem.W.findIn K (.ref C) name = some (some (.builtin id)))
    (h : wpAny M A (call (.builtin id) (.ref x :: args)) (fun v => Q (some v)) E s) : wpAny M A (callSpecialIfBound? (.ref x) name args) Q E s := by
  simp only [callSpecialIfBound?, bindSpecialIfBound?]
  refine wpAny_holding (wpAny_bind (wpAny_bind (wpAny_bind (I.type.here ((PySem.W.looks_findIn X hs).here ?_)))))
  simp only [S.bind]
  refine wpAny_bind (wpAny_askSetting (wpAny_ite ?_))
  have fin : wpAny M A (call (.builtin id) ([.ref x] ++ args) >>= fun v => pure (some v)) Q E s := wpAny_bind (wpAny_mono h (fun v s' z => wpAny_pure z) fun _ _ z => z)
  split
  · exact wpAny_bind (wpAny_pure (wpAny_pure fin))
  · exact wpAny_tryCatch (wpAny_bind (wpAny_pure (wpAny_pure fin)))
/-- x != b by the own == -/
theorem own_ne {b tb : Value} {Q : Value → Shared → Prop} (hu : A.units + 1 < cLine) (X : K.In s.heap) (I : PySem.W.InstAt s.heap x ox C od) (hb : PySem.W.Looks (model prog w) s.heap (typeOf b) tb) (hn : PySem.W.notFirst K C tb = true)
    (hne : PySem.W.findIn K (.ref C) "__ne__" = some (some (.builtin "object.__ne__"))) (hm : PySem.W.mroIn K C (.type "object") = some true) (heq : PySem.W.findIn K (.ref C) "__eq__" = some (some (.ref f))) (hf : PySem.W.isFn K (.ref f) = true)
    (h : wpAny (model prog w) A.in1 (call (.ref f) [.ref x, b]) (fun v s' => ∃ r, v = .bool r ∧ Q (.bool (!r)) s') E s) : wpAny (model prog w) A (richCompare .NotEq (.ref x) b) Q E s := by
  have S := PySem.F.cmp_object.ne
  have sub : PySem.W.Looks (model prog w) s.heap (isInstance (.ref x) (.type "object")) true := I.type.andThen (PySem.W.looks_mroIn X hm)
  have inner : wpAny (model prog w) A.in1 (Builtin.«object.__ne__» ⟨[.ref x, b], []⟩) (GQ.FinOf prog w A (wants (fun v s' => ∃ r, v = .bool r ∧ Q (.bool r) s') E)) (fun e s' => wants (fun v s' => ∃ r, v = .bool r ∧ Q (.bool r) s') E (.error e) s') s := by
    unfold Builtin.«object.__ne__»
    refine wpAny_bind (wpAny_of_eq (a := ((Value.ref x, [b]) : Value × List Value)) (by first | rfl | (simp only [slotArgs]; rfl)) ?_)
    dsimp only
    refine wpAny_bind (wpAny_cRoomFor (by show A.units + 1 < cLine; exact hu) ?_)
    refine wpAny_bind (PySem.W.ifBound_K X I heq hf (wpAny_mono h (fun v s' z => ?_) fun _ _ e => e))
    obtain ⟨r, rfl, q⟩ := z
    refine wpAny_bind (wpAny_truthy_bool ?_)
    exact wpAny_pure ⟨!r, rfl, q⟩
  have one : wpAny (model prog w) A (tryCompare (.ref x) "__ne__" b) (fun r s' => ∃ v, r = some (.bool v) ∧ Q (.bool v) s') E s := by
    unfold tryCompare
    have callne : wpAny (model prog w) A (call (.builtin "object.__ne__") [.ref x, b]) (fun v s' => ∃ r, v = .bool r ∧ Q (.bool r) s') E s :=
      wpAny_call (codeAny_call_builtin S.plain PySem.F.cmpEntry_ne (@PySem.W.check_slot (model prog w) _ _ s "object.__ne__" "object" "__ne__" (.ref x) [b] [] _ PySem.F.cmpKind_ne PySem.F.cmpSplit_ne sub (PySem.F.cmpArgs_ne _ _) inner))
    refine wpAny_bind (ifBound_slot X I S hne (wpAny_mono callne (fun v s' z => ?_) fun _ _ e => e))
    obtain ⟨r, rfl, q⟩ := z
    exact wpAny_pure ⟨r, rfl, q⟩
  unfold richCompare
  simp only [oneThing_ref]
  refine wpAny_holding (wpAny_bind (wpAny_cRoomFor (Nat.lt_of_succ_lt hu) ?_))
  refine wpAny_bind (I.type.here (wpAny_bind (hb.here ?_)))
  split
  · rename_i q
    have e : PySem.W.subIn K tb (.ref C) = some false := by
      rcases Bool.or_eq_true_iff.mp hn with e | e
      · rw [beq_iff_eq.mp e] at q; simp at q
      · exact beq_iff_eq.mp e
    refine wpAny_bind ((PySem.W.looks_subIn X e).here ?_)
    simp only [Bool.false_eq_true, if_false]
    refine wpAny_bind (wpAny_mono one (fun r s' z => ?_) fun _ _ e => e)
    obtain ⟨v, rfl, hq⟩ := z
    exact wpAny_pure hq
  · refine wpAny_bind (wpAny_pure ?_)
    simp only [Bool.false_eq_true, if_false]
    refine wpAny_bind (wpAny_mono one (fun r s' z => ?_) fun _ _ e => e)
    obtain ⟨v, rfl, hq⟩ := z
    exact wpAny_pure hq
end
/-! ### the same over the layer -/
section
variable {X : Cx} {CX : CXT} {k : Nat} {f C : Addr} {fd : FuncData} {ps : List Str} {sp : Sp} {E : XK} {pins : List (Addr × Obj)} {σ : L2.St} {H : Hp} {s : Shared}
/-- a def runs, at whatever depth -/
theorem run_deep {A : Around} {Q : VK} {us : List Value} {vs : List V} (F : FnOk X.prog X.w X.K X.mg X.base CX k f fd ps sp) (hr : Room k A) (e0 : Env0 X.prog X.w X.K X.mg X.base A X.stack s H) (hb : Binds X.K fd ps []) (hx : Passes CX X E)
    (I : Inv X pins σ H s) (r : Vals vs us) (h : sp vs H Q E) : wpAny (model X.prog X.w) A (call (.ref f) us) (EP X pins σ Q) X.xe s := by
  have hl : (us ++ []).length = ps.length := by rw [List.append_nil, ← r.length]; exact F.len _ _ _ _ h
  have hbind := hb s us I.kIn hl
  rw [List.append_nil] at hbind
  refine wpAny_call (codeAny_mono (F.run A X.stack s H ⟨us, []⟩ us vs Q E hr e0 hbind r h) fun r s' hq => ?_)
  cases r with
  | error e => exact hx pins σ H s e s' I hq
  | ok fl =>
    cases fl with
    | ret u => exact I.after hq
    | next => exact False.elim hq
    | brk => exact False.elim hq
    | cont => exact False.elim hq
theorem back_of {P : Value → Shared → Prop} {z : V} {v : Value} {s' : Shared} (r : RelV z v) (h : P v s') : PySem.W.CmpBack P v s' := by
  cases z with
  | non => cases (show v = Value.none from r); exact h
  | bl b => cases (show v = Value.bool b from r); exact h
  | ref a => cases (show v = Value.ref a from r); exact h
  | ty n => cases (show v = Value.type n from r); exact h
  | int i => obtain ⟨t, e⟩ := (show ∃ t, v = Value.int i t from r); cases e; exact h
  | str x => obtain ⟨t, e⟩ := (show ∃ t, v = Value.str x t from r); cases e; exact h
  | byt b => obtain ⟨t, e⟩ := (show ∃ t, v = Value.bytes b t from r); cases e; exact h
  | flt b => obtain ⟨t, e⟩ := (show ∃ t, v = Value.float b t from r); cases e; exact h
theorem inst_of (I : Inv X pins σ H s) {a dx : Addr} {fs : List (Str × V)} (h : H a = some (.ins C dx fs)) : ∃ od, PySem.W.InstAt s.heap a (PySem.W.instObj C dx) C (some od) := by
  obtain ⟨mA, J, _⟩ := ins_get I.hok h
  obtain ⟨od, J, _⟩ := J.look
  exact ⟨od, J⟩
/-- an instance of the class at C -/
def IsC (C : Addr) (H : Hp) (y : V) : Prop := ∃ a dx fs, y = .ref a ∧ H a = some (.ins C dx fs)
/-- what the operators ask of the class -/
structure OpC (K : PySem.W.Frag) (C : Addr) : Prop where
  first : PySem.W.selfFirst K C = true
  cls : ∃ cd rest, PySem.W.clsIn K C = some cd ∧ cd.mro = .ref C :: rest
  noInt : PySem.W.subIn K (.ref C) (.type "int") = some false
  intNo : PySem.W.subIn K (.type "int") (.ref C) = some false
  ne : PySem.W.findIn K (.ref C) "__ne__" = some (some (.builtin "object.__ne__"))
  ob : PySem.W.mroIn K C (.type "object") = some true
/-- x op y, both of C -/
def rOwnB (C : Addr) (sp : Sp) (E : XK) : R2 := fun x y H Q => IsC C H x ∧ IsC C H y ∧ sp [x, y] H Q E
theorem op_ownB {op : Operator} (T : OpC X.K C) (hs : PySem.W.findIn X.K (.ref C) (PySem.dunder op.info.2) = some (some (.ref f))) (hf : PySem.W.isFn X.K (.ref f) = true) (F : FnOk X.prog X.w X.K X.mg X.base CX k f fd ps sp) (hr : Room k X.A) (hb : Binds X.K fd ps []) (hx : Passes CX X E) :
    OpR X (binaryOp op) (rOwnB C sp E) := by
  intro pins s σ H x y v u Q I rx ry h
  obtain ⟨⟨a, dx, fs, rfl, ha⟩, ⟨b, dy, gs, rfl, hb'⟩, q⟩ := h
  cases (show v = Value.ref a from rx)
  cases (show u = Value.ref b from ry)
  obtain ⟨oa, J⟩ := inst_of I ha
  obtain ⟨ob, J'⟩ := inst_of I hb'
  obtain ⟨m, hF⟩ := I.fr
  refine PySem.W.binop_K hF I.ok.mod.kin J J'.type T.first hs hf (wpAny_mono (run_deep (vs := [.ref a, .ref b]) F hr I.env0 hb hx I (.cons rfl (.cons rfl .nil)) q) (fun w s' z => ?_) fun _ _ x => x)
  obtain ⟨z', H', I', rz, qz⟩ := z
  exact back_of rz ⟨z', H', I', rz, qz⟩
/-- x op n, n an int -/
def rOwnI (C : Addr) (sp : Sp) (E : XK) : R2 := fun x y H Q => IsC C H x ∧ (∃ n, y = .int n) ∧ sp [x, y] H Q E
theorem op_ownI {op : Operator} {fo ro rc : Option Value} (T : OpC X.K C) (hs : PySem.W.findIn X.K (.ref C) (PySem.dunder op.info.2) = some (some (.ref f))) (hf : PySem.W.isFn X.K (.ref f) = true) (hr' : PySem.W.findIn X.K (.ref C) (dunderR op.info.2) = some rc) (hp : rc = none ∨ ∃ g : Addr, rc = some (.ref g))
    (h1 : PySem.W.findIn X.K (.type "int") (PySem.dunder op.info.2) = some fo) (h2 : PySem.W.findIn X.K (.type "int") (dunderR op.info.2) = some ro)
    (F : FnOk X.prog X.w X.K X.mg X.base CX k f fd ps sp) (hr : Room k X.A) (hb : Binds X.K fd ps []) (hx : Passes CX X E) : OpR X (binaryOp op) (rOwnI C sp E) := by
  intro pins s σ H x y v u Q I rx ry h
  obtain ⟨⟨a, dx, fs, rfl, ha⟩, ⟨n, rfl⟩, q⟩ := h
  cases (show v = Value.ref a from rx)
  obtain ⟨t, rfl⟩ := (show ∃ t, u = Value.int n t from ry)
  obtain ⟨oa, J⟩ := inst_of I ha
  obtain ⟨m, hF⟩ := I.fr
  refine PySem.W.ksp_binT (T := "int") hF I.ok.mod.kin J rfl T.first hs hf hr' hp h1 h2 T.intNo (wpAny_mono (run_deep (vs := [.ref a, .int n]) F hr I.env0 hb hx I (.cons rfl (.cons ⟨t, rfl⟩ .nil)) q) (fun w s' z => ?_) fun _ _ x => x)
  obtain ⟨z', H', I', rz, qz⟩ := z
  exact back_of rz ⟨z', H', I', rz, qz⟩
/-- n op x, n an int: the reflected method -/
def rOwnR (C : Addr) (sp : Sp) (E : XK) : R2 := fun x y H Q => (∃ n, x = .int n) ∧ IsC C H y ∧ sp [y, x] H Q E
theorem op_ownR {op : Operator} {id nm : String} {g : Int → Int → Sem Fin} {fl : Addr} (T : OpC X.K C) (slot : Slot "int" (PySem.dunder op.info.2) id) (entry : entryFor table id = some (Builtin.Int.intBinary nm g false)) (args : ∀ a b : Value, argsOk id ⟨[a, b], []⟩)
    (hsl : ∀ (n : Int) (t : Tok) (x : Addr), slotArgs nm 1 ⟨[.int n t, .ref x], []⟩ = pure (.int n t, [.ref x])) (hfI : fillsNumberSlot (.type "int") op.info.2 = pure true) (hl : PySem.W.findIn X.K (.ref C) (PySem.dunder op.info.2) = some (some (.ref fl)))
    (hs : PySem.W.findIn X.K (.ref C) (dunderR op.info.2) = some (some (.ref f))) (hf : PySem.W.isFn X.K (.ref f) = true)
    (F : FnOk X.prog X.w X.K X.mg X.base CX k f fd ps sp) (hr : Room k X.A) (hb : Binds X.K fd ps []) (hx : Passes CX X E) : OpR X (binaryOp op) (rOwnR C sp E) := by
  intro pins s σ H x y v u Q I rx ry h
  obtain ⟨⟨n, rfl⟩, ⟨a, dx, fs, rfl, ha⟩, q⟩ := h
  cases (show u = Value.ref a from ry)
  obtain ⟨t, rfl⟩ := (show ∃ t, v = Value.int n t from rx)
  obtain ⟨oa, J⟩ := inst_of I ha
  obtain ⟨cd, rest, hcd, hm⟩ := T.cls
  refine refl_bin I.kIn J slot entry (args _ _) (hsl n t a) (fun v z => nomatch z) hfI hcd hm hl T.noInt hs hf (wpAny_mono (run_deep (vs := [.ref a, .int n]) F hr I.env0 hb hx I (.cons rfl (.cons ⟨t, rfl⟩ .nil)) q) (fun w s' z => ?_) fun _ _ x => x)
  obtain ⟨z', H', I', rz, qz⟩ := z
  exact back_of rz ⟨z', H', I', rz, qz⟩
/-- x op y by the own comparison, y of a known type -/
def rOwnC (K : PySem.W.Frag) (C : Addr) (sp : Sp) (E : XK) : R2 := fun x y H Q => IsC C H x ∧ (∃ t, TyX K H y t ∧ PySem.W.notFirst K C t = true) ∧ sp [x, y] H Q E
theorem op_ownC {op : CmpOp} (hop : ∀ a b, compareOp op a b = richCompare op a b) (hs : PySem.W.findIn X.K (.ref C) (cmpInfo op).2.1 = some (some (.ref f))) (hf : PySem.W.isFn X.K (.ref f) = true)
    (F : FnOk X.prog X.w X.K X.mg X.base CX k f fd ps sp) (hr : Room k X.A) (hb : Binds X.K fd ps []) (hx : Passes CX X E) : OpR X (compareOp op) (rOwnC X.K C sp E) := by
  intro pins s σ H x y v u Q I rx ry h
  obtain ⟨⟨a, dx, fs, rfl, ha⟩, ⟨ty, hty, hn⟩, q⟩ := h
  cases (show v = Value.ref a from rx)
  obtain ⟨oa, J⟩ := inst_of I ha
  obtain ⟨m, hF⟩ := I.fr
  obtain ⟨Pk, Z, p, _⟩ := kit_of I ry hty
  rw [hop]
  refine PySem.W.cmp_K (op := op) hr.units0 hF I.ok.mod.kin J (Z.ty _ _ I.kIn p) hn hs hf (wpAny_mono (run_deep (vs := [.ref a, y]) F hr I.env0 hb hx I (.cons rfl (.cons ry .nil)) q) (fun w s' z => ?_) fun _ _ x => x)
  obtain ⟨z', H', I', rz, qz⟩ := z
  exact back_of rz ⟨z', H', I', rz, qz⟩
/-- n op x, n an int: the mirrored comparison -/
theorem op_ownM {op : CmpOp} {id nm : String} {g : Int → Int → Sem Fin} (hop : ∀ a b, compareOp op a b = richCompare op a b) (T : OpC X.K C) (slot : Slot "int" (cmpInfo op).2.1 id) (entry : entryFor table id = some (Builtin.Int.intBinary nm g false)) (args : ∀ a b : Value, argsOk id ⟨[a, b], []⟩)
    (hsl : ∀ (n : Int) (t : Tok) (x : Addr), slotArgs nm 1 ⟨[.int n t, .ref x], []⟩ = pure (.int n t, [.ref x])) (hot : ∀ (n : Int) (t : Tok) (x : Addr), oneThing? op (.int n t) (.ref x) = none)
    (hs : PySem.W.findIn X.K (.ref C) (cmpInfo op).2.2 = some (some (.ref f))) (hf : PySem.W.isFn X.K (.ref f) = true)
    (F : FnOk X.prog X.w X.K X.mg X.base CX k f fd ps sp) (hr : Room k X.A) (hb : Binds X.K fd ps []) (hx : Passes CX X E) : OpR X (compareOp op) (rOwnR C sp E) := by
  intro pins s σ H x y v u Q I rx ry h
  obtain ⟨⟨n, rfl⟩, ⟨a, dx, fs, rfl, ha⟩, q⟩ := h
  cases (show u = Value.ref a from ry)
  obtain ⟨t, rfl⟩ := (show ∃ t, v = Value.int n t from rx)
  obtain ⟨oa, J⟩ := inst_of I ha
  rw [hop]
  refine refl_cmp hr.units0 I.kIn J slot entry (args _ _) (hsl n t a) (fun v z => nomatch z) (hot n t a) T.noInt hs hf (wpAny_mono (run_deep (vs := [.ref a, .int n]) F hr I.env0 hb hx I (.cons rfl (.cons ⟨t, rfl⟩ .nil)) q) (fun w s' z => ?_) fun _ _ x => x)
  obtain ⟨z', H', I', rz, qz⟩ := z
  exact back_of rz ⟨z', H', I', rz, qz⟩
/-- x != y by the own == -/
def rOwnNe (K : PySem.W.Frag) (C : Addr) (sp : Sp) (E : XK) : R2 := fun x y H Q => IsC C H x ∧ (∃ t, TyX K H y t ∧ PySem.W.notFirst K C t = true) ∧ sp [x, y] H (fun z H' => ∃ r, z = .bl r ∧ Q (.bl (!r)) H') E
theorem op_ownNe (T : OpC X.K C) (hs : PySem.W.findIn X.K (.ref C) "__eq__" = some (some (.ref f))) (hf : PySem.W.isFn X.K (.ref f) = true)
    (F : FnOk X.prog X.w X.K X.mg X.base CX k f fd ps sp) (hr : Room (k + 1) X.A) (hb : Binds X.K fd ps []) (hx : Passes CX X E) : OpR X (compareOp .NotEq) (rOwnNe X.K C sp E) := by
  intro pins s σ H x y v u Q I rx ry h
  obtain ⟨⟨a, dx, fs, rfl, ha⟩, ⟨ty, hty, hn⟩, q⟩ := h
  cases (show v = Value.ref a from rx)
  obtain ⟨oa, J⟩ := inst_of I ha
  obtain ⟨Pk, Z, p, _⟩ := kit_of I ry hty
  show wpAny _ _ (richCompare .NotEq (.ref a) u) _ _ _
  refine own_ne (by have := hr.units; omega) I.kIn J (Z.ty _ _ I.kIn p) hn T.ne T.ob hs hf (wpAny_mono (run_deep (vs := [.ref a, y]) F (Room.in1 hr) I.env0.in1 hb hx I (.cons rfl (.cons ry .nil)) q) (fun w s' z => ?_) fun _ _ x => x)
  obtain ⟨z', H', I', rz, r, rfl, qz⟩ := z
  cases (show w = Value.bool r from rz)
  exact ⟨r, rfl, .bl (!r), H', I', rfl, qz⟩
end
theorem notFirst_of {K : PySem.W.Frag} {C : Addr} {t : Value} (h : PySem.W.subIn K t (.ref C) = some false) : PySem.W.notFirst K C t = true := by simp [PySem.W.notFirst, h]
/-! ### instances of an own class; exceptions that pass -/
structure InsC (K : PySem.W.Frag) (C : Addr) : Prop where
  cl : Cls K C
  ha : PySem.W.findIn K (.ref C) "__class__" = some (some (.builtin "object.__class__"))
  hn : PySem.W.specialIn K (.builtin "object.__class__") "__get__" = some (some (.builtin "getset_descriptor.__get__"))
  ht : PySem.W.takesIn K (.builtin "object.__class__") = some true
  hm : PySem.W.mroIn K C (.type "object") = some true
theorem InsC.ty {K : PySem.W.Frag} {C : Addr} (T : InsC K C) {H : Hp} {a dx : Addr} {fs : List (Str × V)} (e : H a = some (.ins C dx fs)) : TyX K H (.ref a) (.ref C) := .base (.ins e T.cl T.ha T.hn T.ht T.hm)
theorem passLen {X : Cx} {W : WX} (tk : Takes X W) : Passes (L2.CX X.prog X.w) X (fun cls d H => ∀ σ : L2.St, σ.length = X.N.length → W cls d σ H) := fun _ σ _ _ e s' I c => tk e s' (XE.of_call I (fun _ _ _ h => h σ I.len) c)
theorem passLenN {X : Cx} {W : WX} {n : Nat} (tk : Takes X W) (hn : X.N.length = n) : Passes (L2.CX X.prog X.w) X (fun cls d H => ∀ σ : L2.St, σ.length = n → W cls d σ H) := fun _ σ _ _ e s' I c => tk e s' (XE.of_call I (fun _ _ _ h => h σ (I.len.trans hn)) c)
/-! ### lists and tuples: walks, comprehensions -/
/-- a list or a tuple -/
def iSeq (K : PySem.W.Frag) (tl : TE) : TI := fun σ H R => tl σ H fun x H1 => ∃ a, x = .ref a ∧ (((∃ xs, SqL K H1 a xs) ∧ R (Itl K a) H1) ∨ ((∃ xs, SqT K H1 a xs) ∧ R (Itt K a) H1))
theorem pi_seq {X : Cx} {tg l : Expr} {tl : TE} (hl : PE X l tl) : PI X tg l (iSeq X.K tl) := by
  constructor
  intro pins s σ H R I h
  refine thn (hl.run pins s σ H _ I h) fun v t ⟨x, Hb, J, rx, a, ex, k⟩ => ?_
  subst ex
  cases rx
  rcases k with ⟨⟨xs, hq⟩, k⟩ | ⟨⟨xs, hq⟩, k⟩
  · obtain ⟨its, -, plc, -⟩ := J.list hq
    refine wpAny_pyIter_list plc.isList ⟨t.heap.objs.size, [t.heap.objs.size], _, _, Hb, rfl, J.kept (t' := t.toks) (fun _ _ e => Heap.get?_push_of_some _ e), turn_list a _, ⟨_, Heap.get?_push_size _ rfl, rfl, rfl⟩, ?_, k⟩
    intro b hb
    obtain rfl : b = t.heap.objs.size := by simpa using hb
    exact J.fpOk (Nat.le_refl _) (J.hok.fresh (Nat.le_refl _))
  · obtain ⟨its, -, plc, -⟩ := J.tuple hq
    refine wpAny_pyIter_tuple (show t.heap.IsTuple a its.toArray from plc) ⟨t.heap.objs.size, [t.heap.objs.size], _, _, Hb, rfl, J.kept (t' := t.toks) (fun _ _ e => Heap.get?_push_of_some _ e), turn_tuple a _, ⟨_, Heap.get?_push_size _ rfl, rfl, rfl⟩, ?_, k⟩
    intro b hb
    obtain rfl : b = t.heap.objs.size := by simpa using hb
    exact J.fpOk (Nat.le_refl _) (J.hok.fresh (Nat.le_refl _))
def rListOf (K : PySem.W.Frag) : List V → Hp → VK → Prop := fun xs H Q => ∃ p ys, xs = [.ref p] ∧ (SqL K H p ys ∨ SqT K H p ys) ∧ ∀ l, H l = none → Q (.ref l) (upd H l (.lst ys))
def rTupOf (K : PySem.W.Frag) : List V → Hp → VK → Prop := fun xs H Q => ∃ p ys, xs = [.ref p] ∧ ((SqL K H p ys ∧ ∀ l, H l = none → Q (.ref l) (upd H l (.tup ys))) ∨ (SqT K H p ys ∧ Q (.ref p) H))
/-! rules whose written part is named (within a comprehension) -/
theorem opK {X : Cx} {K : PySem.W.Frag} {f : Value → Value → Sem Value} (h : X.K = K) (r : PySem.W.Frag → R2) (o : OpR X f (r X.K)) : OpR X f (r K) := h ▸ o
theorem crK {X : Cx} {K : PySem.W.Frag} {f : Value} (h : X.K = K) (r : PySem.W.Frag → List V → Hp → VK → Prop) (o : CallR X f (r X.K)) : CallR X f (r K) := h ▸ o
theorem slK {X : Cx} {K : PySem.W.Frag} (h : X.K = K) (r : PySem.W.Frag → V → Option Int → Option Int → Hp → VK → Prop) (o : SlR X (r X.K)) : SlR X (r K) := h ▸ o
/-- a number as a test -/
def tInt (ta : TE) : TT := fun σ H Q => ta σ H fun x H' => ∃ i, x = .int i ∧ Q (i != 0) H'
theorem pt_int {X : Cx} {a : Expr} {ta : TE} (ha : PE X a ta) (he : ∀ whole, isTrue a X.env whole = (do let v ← whole; standAt a.pos; holding [v] (truthy v)) := by intro _; rfl) : PT X a (tInt ta) := by
  constructor
  intro pins s σ H Q I h
  refine isTrue_plain (thn (ha.run pins s σ H _ I h) fun v t ⟨x, Hb, J, rx, i, ex, k⟩ => ?_) (he _)
  subst ex
  exact tru_ok pins t σ Hb (.int i) v Q J rx ⟨_, rfl, k⟩
/-- the answer of a sign, by another name -/
theorem opN {g : Int → Int → V} {i j : Int} {z : V} {H : Hp} {Q : VK} (e : g i j = z) (k : Q z H) : rI0 g (.int i) (.int j) H Q := ⟨i, j, rfl, rfl, by show Q (g i j) H; rw [e]; exact k⟩
/-- all but lists stand -/
def SameT (H H' : Hp) : Prop := ∀ b o, H b = some o → (∀ xs, o ≠ .lst xs) → H' b = some o
theorem SameT.refl {H : Hp} : SameT H H := fun _ _ h _ => h
theorem SameT.trans {H H1 H2 : Hp} (a : SameT H H1) (b : SameT H1 H2) : SameT H H2 := fun c o h n => b c o (a c o h n) n
theorem Same.toT {H H' : Hp} (e : Same H H') : SameT H H' := fun b o h _ => e b o h
theorem sameT_upd {H : Hp} {p : Addr} {xs ys : List V} (h : H p = some (.lst xs)) : SameT H (upd H p (.lst ys)) := fun b o e n => by
  rw [upd_ne (ne_of e h (n xs))]
  exact e
theorem SameT.tup {H H' : Hp} {a : Addr} {xs : List V} (e : SameT H H') (h : H a = some (.tup xs)) : H' a = some (.tup xs) := e _ _ h (fun _ z => nomatch z)
theorem SameT.ins {H H' : Hp} {a C dx : Addr} {fs : List (Str × V)} (e : SameT H H') (h : H a = some (.ins C dx fs)) : H' a = some (.ins C dx fs) := e _ _ h (fun _ z => nomatch z)
theorem SameT.seqT {K : PySem.W.Frag} {H H' : Hp} {a : Addr} {xs : List V} (e : SameT H H') (h : SqT K H a xs) : SqT K H' a xs := by
  rcases h with (h | ⟨o, h⟩) | h
  · exact .inl (.inl (e.tup h))
  · exact .inl (.inr ⟨o, e _ _ h (fun _ z => nomatch z)⟩)
  · exact .inr h
theorem prImp {α β : Type} {F G : α → β → Prop} (h : ∀ a b, F a b → G a b) : ∀ {xs : List α} {ys : List β}, Paired F xs ys → Paired G xs ys
  | _, _, .nil => .nil
  | _, _, .cons a t => .cons (h _ _ a) (prImp h t)
theorem paired_eq {xs ys : List V} (h : Paired (fun a y => y = a) xs ys) : ys = xs := by
  induction h with
  | nil => rfl
  | cons a _ ih => rw [a, ih]
theorem paired_fn {α : Type} {f : α → V} {xs : List α} {ys : List V} (h : Paired (fun a y => y = f a) xs ys) : ys = xs.map f := by
  induction h with
  | nil => rfl
  | cons a _ ih => rw [a, ih, List.map_cons]
theorem prLen {α β : Type} {F : α → β → Prop} {xs : List α} {ys : List β} (h : Paired F xs ys) : ys.length = xs.length := by
  induction h with
  | nil => rfl
  | cons _ _ ih => rw [List.length_cons, List.length_cons, ih]
theorem prAt {α β : Type} {F : α → β → Prop} {xs : List α} {ys : List β} (h : Paired F xs ys) : ∀ {i : Nat} {y : β}, ys[i]? = some y → ∃ x, xs[i]? = some x ∧ F x y := by
  induction h with
  | nil => intro i y e; simp at e
  | cons a _ ih =>
    intro i y e
    cases i with
    | zero =>
      cases e
      exact ⟨_, rfl, a⟩
    | succ i => exact ih (i := i) (by simpa using e)
theorem prAt2 {α β : Type} {F : α → β → Prop} {xs : List α} {ys : List β} (h : Paired F xs ys) : ∀ {i : Nat} {x : α}, xs[i]? = some x → ∃ y, ys[i]? = some y ∧ F x y := by
  induction h with
  | nil => intro i y e; simp at e
  | cons a _ ih =>
    intro i y e
    cases i with
    | zero =>
      cases e
      exact ⟨_, rfl, a⟩
    | succ i => exact ih (i := i) (by simpa using e)
theorem prApp {α β : Type} {F : α → β → Prop} : ∀ {xs : List α} {ys : List β} {xs' : List α} {ys' : List β}, Paired F xs ys → Paired F xs' ys' → Paired F (xs ++ xs') (ys ++ ys')
  | _, _, _, _, .nil, h => h
  | _, _, _, _, .cons a t, h => .cons a (prApp t h)
theorem prMapL {α β γ : Type} {F : α → β → Prop} {f : γ → α} : ∀ {xs : List γ} {ys : List β}, Paired (fun c b => F (f c) b) xs ys → Paired F (xs.map f) ys
  | _, _, .nil => .nil
  | _, _, .cons a t => .cons a (prMapL t)
theorem prUnmapL {α β γ : Type} {F : α → β → Prop} {f : γ → α} : ∀ {xs : List γ} {ys : List β}, Paired F (xs.map f) ys → Paired (fun c b => F (f c) b) xs ys
  | [], _, .nil => .nil
  | _ :: _, _, .cons a t => .cons a (prUnmapL t)
theorem paired_dp {K : PySem.W.Frag} {H : Hp} {α : Type} {f : α → PyData} : ∀ {xs : List α} {ys : List V}, Paired (fun a y => Dp K H y (f a)) xs ys → DpAll K H ys (xs.map f)
  | _, _, .nil => .nil
  | _, _, .cons a t => .cons a (paired_dp t)
theorem dps_paired {K : PySem.W.Frag} {H : Hp} {α : Type} {f : α → PyData} : ∀ {xs : List α} {ys : List V}, DpAll K H ys (xs.map f) → Paired (fun a y => Dp K H y (f a)) xs ys
  | [], _, .nil => .nil
  | _ :: _, _, .cons a t => .cons a (dps_paired t)
/-- a comprehension: f tells what each turn gives (none: nothing), R how it is told by a value -/
theorem lc_itM {J : It} {n : Nat} {G : Hp → Prop} {Y : Nat → Hp → V → Hp → Prop} (w : Walk J n G Y) {α : Type} (f : Nat → Option α) (R : α → V → Hp → Prop) (st : ∀ a y H H', SameT H H' → R a y H → R a y H')
    {g : TG} {tt : TT} {te : TE} {vs : List Nat} {σ : L2.St} {H1 : Hp} {D : Addr} {Qd : Hp → Prop} (nD : H1 D = none) (hG : ∀ H, Same H1 H → G H) (hn : n ≤ 100000)
    (hs : ∀ i x H H' (k : V → Hp → Prop) (N : Hp → Prop), i < n → Same H1 H → Y i H x H' → (∀ y H4 a, Same H H4 → f i = some a → R a y H4 → k y H4) → (∀ H3, Same H H3 → f i = none → N H3) →
      g x (wipe σ vs) H' fun σ2 H2 => wipe σ2 vs = wipe σ vs ∧ tt σ2 H2 fun b H3 => if b = true then te σ2 H3 k else N H3)
    (hd : ∀ H' ys, Same H1 H' → H' D = some (.lst ys) → Paired (fun a y => R a y H') ((List.range n).filterMap f) ys → Qd H') :
    ∃ W : Nat → Nat → Hp → Prop, (∃ m, W 0 m (upd H1 D (.lst []))) ∧ ∀ i m H, W i m H →
      (J.stop i H ∧ Qd H) ∨ (J.go i H ∧ ∃ Nx : Hp → Prop, (∀ H', Nx H' → ∃ m', m' < m ∧ W (i + 1) m' H') ∧ ∀ x H', J.yld i H x H' → g x (wipe σ vs) H' fun σ2 H2 => wipe σ2 vs = wipe σ vs ∧ tt σ2 H2 fun b H3 =>
        if b = true then te σ2 H3 fun y H4 => ∃ acc, H4 D = some (.lst acc) ∧ acc.length < sizeLine ∧ Nx (upd H4 D (.lst (acc ++ [y]))) else Nx H3) := by
  have e100 : (100000 : Nat) < sizeLine := by decide
  refine lc_it w (fun i H => i ≤ n ∧ Same H1 H ∧ ∃ ys, H D = some (.lst ys) ∧ ys.length ≤ i ∧ Paired (fun a y => R a y H) ((List.range i).filterMap f) ys)
    ⟨Nat.zero_le _, same_upd nD, [], upd_same, Nat.le_refl _, .nil⟩ (fun i H _ h => hG H h.2.1) ?_ fun H h => by
      obtain ⟨_, sm, ys, hD, _, p⟩ := h
      exact hd H ys sm hD p
  rintro i x H H' hi ⟨_, sm, ys, hD, hl, p⟩ y
  refine hs i x H H' _ _ hi sm y (fun z H4 a s4 hf hr => ?_) fun H3 s3 hf => ?_
  · have h4 := s4 _ _ hD
    refine ⟨ys, h4, by omega, hi, same_upd2 (sm.trans s4) nD, _, upd_same, by rw [List.length_append, List.length_singleton]; omega, ?_⟩
    rw [List.range_succ, List.filterMap_append]
    have t4 : SameT H4 (upd H4 D (.lst (ys ++ [z]))) := sameT_upd h4
    refine prApp (prImp (fun a y' h => st a y' _ _ ((Same.toT s4).trans t4) h) p) ?_
    rw [List.filterMap_cons, hf]
    exact .cons (st a z _ _ t4 hr) .nil
  · refine ⟨hi, sm.trans s3, ys, s3 _ _ hD, by omega, ?_⟩
    rw [List.range_succ, List.filterMap_append, List.filterMap_cons, hf]
    rw [← List.append_nil ys]
    exact prApp (prImp (fun a y' h => st a y' _ _ (Same.toT s3) h) p) .nil
/-- .. where each turn gives something -/
theorem lc_itA {J : It} {n : Nat} {G : Hp → Prop} {Y : Nat → Hp → V → Hp → Prop} (w : Walk J n G Y) {α : Type} (f : Nat → α) (R : α → V → Hp → Prop) (st : ∀ a y H H', SameT H H' → R a y H → R a y H')
    {g : TG} {te : TE} {vs : List Nat} {σ : L2.St} {H1 : Hp} {D : Addr} {Qd : Hp → Prop} (nD : H1 D = none) (hG : ∀ H, Same H1 H → G H) (hn : n ≤ 100000)
    (hs : ∀ i x H H' (k : V → Hp → Prop), i < n → Same H1 H → Y i H x H' → (∀ y H4, Same H H4 → R (f i) y H4 → k y H4) → g x (wipe σ vs) H' fun σ2 H2 => wipe σ2 vs = wipe σ vs ∧ te σ2 H2 k)
    (hd : ∀ H' ys, Same H1 H' → H' D = some (.lst ys) → Paired (fun a y => R a y H') ((List.range n).map f) ys → Qd H') :
    ∃ W : Nat → Nat → Hp → Prop, (∃ m, W 0 m (upd H1 D (.lst []))) ∧ ∀ i m H, W i m H →
      (J.stop i H ∧ Qd H) ∨ (J.go i H ∧ ∃ Nx : Hp → Prop, (∀ H', Nx H' → ∃ m', m' < m ∧ W (i + 1) m' H') ∧ ∀ x H', J.yld i H x H' → g x (wipe σ vs) H' fun σ2 H2 => wipe σ2 vs = wipe σ vs ∧ tYes σ2 H2 fun b H3 =>
        if b = true then te σ2 H3 fun y H4 => ∃ acc, H4 D = some (.lst acc) ∧ acc.length < sizeLine ∧ Nx (upd H4 D (.lst (acc ++ [y]))) else Nx H3) := by
  refine lc_itM w (fun i => some (f i)) R st nD hG hn (fun i x H H' k N hi sm y hk _ => ?_) fun H' ys sm hD p => hd H' ys sm hD ?_
  · have := hs i x H H' k hi sm y fun y H4 s4 hr => hk y H4 _ s4 rfl hr
    exact this
  · rw [← List.filterMap_eq_map]
    exact p
theorem range_get {α β : Type} (g : α → β) (d : α) (xs : List α) : (List.range xs.length).map (fun i => g (xs.getD i d)) = xs.map g := by
  refine List.ext_getElem (by simp) fun i h1 h2 => ?_
  simp at h1
  simp [h1]
theorem range_getM {α β : Type} (g : α → Option β) (d : α) : ∀ (xs : List α), (List.range xs.length).filterMap (fun i => g (xs.getD i d)) = xs.filterMap g := fun xs => by
  have := congrArg (List.filterMap id) (range_get g d xs)
  rw [List.filterMap_map, List.filterMap_map] at this
  exact this
/-- a comprehension over what a list, a tuple holds -/
theorem lc_xsM {J : It} {xs : List V} {G : Hp → Prop} (w : Walk J xs.length G (YAt xs)) {α : Type} (f : V → Option α) (R : α → V → Hp → Prop) (st : ∀ a y H H', SameT H H' → R a y H → R a y H')
    {g : TG} {tt : TT} {te : TE} {vs : List Nat} {σ : L2.St} {H1 : Hp} {D : Addr} {Qd : Hp → Prop} (nD : H1 D = none) (hG : ∀ H, Same H1 H → G H) (hn : xs.length ≤ 100000)
    (hs : ∀ (i : Nat) (x : V) (H : Hp) (k : V → Hp → Prop) (N : Hp → Prop), xs[i]? = some x → Same H1 H → (∀ y H4 a, Same H H4 → f x = some a → R a y H4 → k y H4) → (∀ H3, Same H H3 → f x = none → N H3) →
      g x (wipe σ vs) H fun σ2 H2 => wipe σ2 vs = wipe σ vs ∧ tt σ2 H2 fun b H3 => if b = true then te σ2 H3 k else N H3)
    (hd : ∀ H' ys, Same H1 H' → H' D = some (.lst ys) → Paired (fun a y => R a y H') (xs.filterMap f) ys → Qd H') :
    ∃ W : Nat → Nat → Hp → Prop, (∃ m, W 0 m (upd H1 D (.lst []))) ∧ ∀ i m H, W i m H →
      (J.stop i H ∧ Qd H) ∨ (J.go i H ∧ ∃ Nx : Hp → Prop, (∀ H', Nx H' → ∃ m', m' < m ∧ W (i + 1) m' H') ∧ ∀ x H', J.yld i H x H' → g x (wipe σ vs) H' fun σ2 H2 => wipe σ2 vs = wipe σ vs ∧ tt σ2 H2 fun b H3 =>
        if b = true then te σ2 H3 fun y H4 => ∃ acc, H4 D = some (.lst acc) ∧ acc.length < sizeLine ∧ Nx (upd H4 D (.lst (acc ++ [y]))) else Nx H3) := by
  refine lc_itM w (fun i => f (xs.getD i .non)) R st nD hG hn (fun i x H H' k N hi sm y h1 h2 => ?_) fun H' ys sm hD p => hd H' ys sm hD ?_
  · obtain ⟨rfl, hx⟩ := y
    have e : xs.getD i .non = x := by rw [List.getD_eq_getElem?_getD, hx] <;> rfl
    rw [e] at h1 h2
    exact hs i x _ k N hx sm h1 h2
  · rw [← range_getM f .non xs]
    exact p
theorem lc_xsA {J : It} {xs : List V} {G : Hp → Prop} (w : Walk J xs.length G (YAt xs)) {α : Type} (f : V → α) (R : α → V → Hp → Prop) (st : ∀ a y H H', SameT H H' → R a y H → R a y H')
    {g : TG} {te : TE} {vs : List Nat} {σ : L2.St} {H1 : Hp} {D : Addr} {Qd : Hp → Prop} (nD : H1 D = none) (hG : ∀ H, Same H1 H → G H) (hn : xs.length ≤ 100000)
    (hs : ∀ (i : Nat) (x : V) (H : Hp) (k : V → Hp → Prop), xs[i]? = some x → Same H1 H → (∀ y H4, Same H H4 → R (f x) y H4 → k y H4) → g x (wipe σ vs) H fun σ2 H2 => wipe σ2 vs = wipe σ vs ∧ te σ2 H2 k)
    (hd : ∀ H' ys, Same H1 H' → H' D = some (.lst ys) → Paired (fun a y => R a y H') (xs.map f) ys → Qd H') :
    ∃ W : Nat → Nat → Hp → Prop, (∃ m, W 0 m (upd H1 D (.lst []))) ∧ ∀ i m H, W i m H →
      (J.stop i H ∧ Qd H) ∨ (J.go i H ∧ ∃ Nx : Hp → Prop, (∀ H', Nx H' → ∃ m', m' < m ∧ W (i + 1) m' H') ∧ ∀ x H', J.yld i H x H' → g x (wipe σ vs) H' fun σ2 H2 => wipe σ2 vs = wipe σ vs ∧ tYes σ2 H2 fun b H3 =>
        if b = true then te σ2 H3 fun y H4 => ∃ acc, H4 D = some (.lst acc) ∧ acc.length < sizeLine ∧ Nx (upd H4 D (.lst (acc ++ [y]))) else Nx H3) := by
  refine lc_itA w (fun i => f (xs.getD i .non)) R st nD hG hn (fun i x H H' k hi sm y h1 => ?_) fun H' ys sm hD p => hd H' ys sm hD ?_
  · obtain ⟨rfl, hx⟩ := y
    have e : xs.getD i .non = x := by rw [List.getD_eq_getElem?_getD, hx] <;> rfl
    rw [e] at h1
    exact hs i x _ k hx sm h1
  · rw [← range_get f .non xs]
    exact p
/-- all that stands but what is at t -/
def Exc (t : Addr) (H H' : Hp) : Prop := ∀ b o, b ≠ t → H b = some o → H' b = some o
theorem Exc.refl {t : Addr} {H : Hp} : Exc t H H := fun _ _ _ h => h
theorem Exc.trans {t : Addr} {H H1 H2 : Hp} (a : Exc t H H1) (b : Exc t H1 H2) : Exc t H H2 := fun c o n h => b c o n (a c o n h)
theorem But.exc {t : Addr} {H H' : Hp} (b : But t H H') : Exc t H H' := fun c o n h => (b c n).trans h
theorem exc_same {t : Addr} {H H' : Hp} (e : Same H H') : Exc t H H' := fun c o _ h => e c o h
theorem exc_upd {t p : Addr} {H : Hp} {o : HO} (h : H p = none) : Exc t H (upd H p o) := exc_same (same_upd h)
theorem Drw.exc {K : PySem.W.Frag} {H0 H H' : Hp} {l t : Addr} (D : Drw K H0 l t H) (e : Same H H') : Drw K H0 l t H' := D.mono e
theorem Drw.ne {K : PySem.W.Frag} {H0 H : Hp} {l t p : Addr} (D : Drw K H0 l t H) (h : H p = none) : p ≠ t := fun z => by
  obtain ⟨a, b, c, d, e⟩ := D.st
  rw [← z, h] at e
  cases e
theorem Drw.updN {K : PySem.W.Frag} {H0 H H' : Hp} {l t p : Addr} {o : HO} (D : Drw K H0 l t H') (h : H0 p = none) (n : p ≠ t) : Drw K H0 l t (L2.upd H' p o) := by
  obtain ⟨a, b, c, d, e⟩ := D.st
  exact ⟨D.scr, D.new, same_upd2 D.same h, ⟨a, b, c, d, by rw [upd_ne (Ne.symm n)]; exact e⟩⟩
/-- a list of draws -/
theorem lc_draws {K : PySem.W.Frag} {g : TG} {te : TE} {vs : List Nat} {σ : L2.St} {H H1 : Hp} {D l t : Addr} {Qd : Hp → Prop} {lo : Int} (m : Int) (n : Nat) (D1 : Drw K H l t H1) (nD : H1 D = none) (hn : n ≤ 100000)
    (hs : ∀ (i : Nat) (H2 : Hp) (k : V → Hp → Prop), i < n → Drw K H l t H2 → Exc t H1 H2 → (∀ (v : Int) H', 0 ≤ v → v < m → But t H2 H' → Drw K H l t H' → k (.int v) H') → g (.int (lo + i)) (wipe σ vs) H2 fun σ2 H3 => wipe σ2 vs = wipe σ vs ∧ te σ2 H3 k)
    (hd : ∀ H' (cs : List Int), Exc t H1 H' → Drw K H l t H' → H' D = some (.lst (cs.map V.int)) → cs.length = n → (∀ c ∈ cs, 0 ≤ c ∧ c < m) → Qd H') :
    ∃ W : Nat → Nat → Hp → Prop, (∃ m, W 0 m (upd H1 D (.lst []))) ∧ ∀ i m H, W i m H →
      ((Itr lo n).stop i H ∧ Qd H) ∨ ((Itr lo n).go i H ∧ ∃ Nx : Hp → Prop, (∀ H', Nx H' → ∃ m', m' < m ∧ W (i + 1) m' H') ∧ ∀ x H', (Itr lo n).yld i H x H' → g x (wipe σ vs) H' fun σ2 H2 => wipe σ2 vs = wipe σ vs ∧ tYes σ2 H2 fun b H3 =>
        if b = true then te σ2 H3 fun y H4 => ∃ acc, H4 D = some (.lst acc) ∧ acc.length < sizeLine ∧ Nx (upd H4 D (.lst (acc ++ [y]))) else Nx H3) := by
  have e100 : (100000 : Nat) < sizeLine := by decide
  have nt := D1.ne nD
  have n0 : H D = none := D1.same.free nD
  refine lc_range (lo := lo) (n := n) (fun i H' => Exc t H1 H' ∧ Drw K H l t H' ∧ ∃ cs : List Int, H' D = some (.lst (cs.map V.int)) ∧ cs.length = i ∧ ∀ c ∈ cs, 0 ≤ c ∧ c < m)
    ⟨exc_upd nD, D1.updN (H := H) n0 nt, [], upd_same, rfl, fun c hc => by cases hc⟩ ?_ fun H' ⟨e, D2, cs, hD, hl, hc⟩ => hd H' cs e D2 hD hl hc
  rintro i H2 hi ⟨e, D2, cs, hD, hl, hc⟩
  have z := hs i H2 (fun y H4 => ∃ acc, H4 D = some (.lst acc) ∧ acc.length < sizeLine ∧ (Exc t H1 (upd H4 D (.lst (acc ++ [y]))) ∧ Drw K H l t (upd H4 D (.lst (acc ++ [y]))) ∧ ∃ cs : List Int, upd H4 D (.lst (acc ++ [y])) D = some (.lst (cs.map V.int)) ∧ cs.length = i + 1 ∧ ∀ c ∈ cs, 0 ≤ c ∧ c < m)) hi D2 e fun v H' h0 h1 b D3 => by
    have hD' : H' D = some (.lst (cs.map V.int)) := by rw [b D nt]; exact hD
    refine ⟨_, hD', by rw [List.length_map, hl]; omega, fun c o nc hc => ?_, D3.updN (H := H) n0 nt, cs ++ [v], ?_, by rw [List.length_append, hl] <;> rfl, fun c hc' => ?_⟩
    · rw [upd_ne (ne_of_none hc nD)]
      exact (e.trans b.exc) c o nc hc
    · rw [upd_same, List.map_append] <;> rfl
    · rcases List.mem_append.mp hc' with h | h
      · exact hc c h
      · rw [List.mem_singleton.mp h]
        exact ⟨h0, h1⟩
  exact z
theorem But.t {K : PySem.W.Frag} {H0 H H' : Hp} {l t : Addr} (D : Drw K H0 l t H) (b : But t H H') : SameT H H' := fun c o h n => by
  obtain ⟨x, y, z, u, e⟩ := D.st
  rw [b c (fun q => by rw [q, e] at h; cases h; exact n _ rfl)]
  exact h
theorem excT {K : PySem.W.Frag} {H0 H H' : Hp} {l t : Addr} (D : Drw K H0 l t H) (b : Exc t H H') : SameT H H' := fun c o h n => by
  obtain ⟨x, y, z, u, e⟩ := D.st
  exact b c o (fun q => by rw [q, e] at h; cases h; exact n _ rfl) h
theorem bl_ne {a b : Bool} {H : Hp} {Q : VK} (c : Bool) (e : (a != b) = c) (k : Q (.bl c) H) : rNe (.bl a) (.bl b) H Q := by
  refine ⟨rfl, ?_⟩
  rw [← e] at k
  have : (!decide (V.bl a = V.bl b)) = (a != b) := by cases a <;> cases b <;> rfl
  rw [this]
  exact k
theorem bl_eq {a b : Bool} {H : Hp} {Q : VK} (c : Bool) (e : (a == b) = c) (k : Q (.bl c) H) : rEq (.bl a) (.bl b) H Q := by
  refine ⟨rfl, ?_⟩
  rw [← e] at k
  have : decide (V.bl a = V.bl b) = (a == b) := by cases a <;> cases b <;> rfl
  rw [this]
  exact k
theorem int_ne {a b : Int} {H : Hp} {Q : VK} (e : a = b) (k : Q (.bl false) H) : rNe (.int a) (.int b) H Q := by
  refine ⟨rfl, ?_⟩
  rw [decide_eq_true (by rw [e])]
  exact k
/-- a list of things made of draws -/
theorem lc_drawsR {K : PySem.W.Frag} {α : Type} (R : α → V → Hp → Prop) (st : ∀ a y H H', SameT H H' → R a y H → R a y H') (ok : α → Prop) {g : TG} {te : TE} {vs : List Nat} {σ : L2.St} {H H1 : Hp} {D l t : Addr} {Qd : Hp → Prop} {lo : Int} (n : Nat) (D1 : Drw K H l t H1) (nD : H1 D = none) (hn : n ≤ 100000)
    (hs : ∀ (i : Nat) (H2 : Hp) (k : V → Hp → Prop), i < n → Drw K H l t H2 → Exc t H1 H2 → SameT H1 H2 → (∀ (y : V) (a : α) H', Exc t H2 H' → SameT H2 H' → Drw K H l t H' → R a y H' → ok a → k y H') → g (.int (lo + i)) (wipe σ vs) H2 fun σ2 H3 => wipe σ2 vs = wipe σ vs ∧ te σ2 H3 k)
    (hd : ∀ H' (as : List α) (ys : List V), Exc t H1 H' → Drw K H l t H' → H' D = some (.lst ys) → Paired (fun a y => R a y H') as ys → as.length = n → (∀ a ∈ as, ok a) → Qd H') :
    ∃ W : Nat → Nat → Hp → Prop, (∃ m, W 0 m (upd H1 D (.lst []))) ∧ ∀ i m H, W i m H →
      ((Itr lo n).stop i H ∧ Qd H) ∨ ((Itr lo n).go i H ∧ ∃ Nx : Hp → Prop, (∀ H', Nx H' → ∃ m', m' < m ∧ W (i + 1) m' H') ∧ ∀ x H', (Itr lo n).yld i H x H' → g x (wipe σ vs) H' fun σ2 H2 => wipe σ2 vs = wipe σ vs ∧ tYes σ2 H2 fun b H3 =>
        if b = true then te σ2 H3 fun y H4 => ∃ acc, H4 D = some (.lst acc) ∧ acc.length < sizeLine ∧ Nx (upd H4 D (.lst (acc ++ [y]))) else Nx H3) := by
  have e100 : (100000 : Nat) < sizeLine := by decide
  have nt := D1.ne nD
  have n0 : H D = none := D1.same.free nD
  refine lc_range (lo := lo) (n := n) (fun i H' => Exc t H1 H' ∧ SameT H1 H' ∧ Drw K H l t H' ∧ ∃ (as : List α) (ys : List V), H' D = some (.lst ys) ∧ Paired (fun a y => R a y H') as ys ∧ as.length = i ∧ ∀ a ∈ as, ok a)
    ⟨exc_upd nD, Same.toT (same_upd nD), D1.updN (H := H) n0 nt, [], [], upd_same, .nil, rfl, fun c hc => by cases hc⟩ ?_ fun H' ⟨e, _, D2, as, ys, hD, p, hl, hc⟩ => hd H' as ys e D2 hD p hl hc
  rintro i H2 hi ⟨e, e5, D2, as, ys, hD, p, hl, hc⟩
  have z := hs i H2 (fun y H4 => ∃ acc, H4 D = some (.lst acc) ∧ acc.length < sizeLine ∧ (Exc t H1 (upd H4 D (.lst (acc ++ [y]))) ∧ SameT H1 (upd H4 D (.lst (acc ++ [y]))) ∧ Drw K H l t (upd H4 D (.lst (acc ++ [y]))) ∧ ∃ (as : List α) (ys : List V), upd H4 D (.lst (acc ++ [y])) D = some (.lst ys) ∧ Paired (fun a z => R a z (upd H4 D (.lst (acc ++ [y])))) as ys ∧ as.length = i + 1 ∧ ∀ a ∈ as, ok a)) hi D2 e e5 fun y a H' e2 t2 D3 hr ha => by
    have hD' : H' D = some (.lst ys) := e2 D _ nt hD
    have ly := prLen p
    have t4 : SameT H' (upd H' D (.lst (ys ++ [y]))) := sameT_upd hD'
    refine ⟨_, hD', by omega, fun c o nc hc => ?_, e5.trans (t2.trans t4), D3.updN (H := H) n0 nt, as ++ [a], ys ++ [y], upd_same, ?_, by rw [List.length_append, hl] <;> rfl, fun c hc' => ?_⟩
    · rw [upd_ne (ne_of_none hc nD)]
      exact (e.trans e2) c o nc hc
    · exact prApp (prImp (fun b u h => st b u _ _ (t2.trans t4) h) p) (.cons (st a y _ _ t4 hr) .nil)
    · rcases List.mem_append.mp hc' with h | h
      · exact hc c h
      · rw [List.mem_singleton.mp h]
        exact ha
  exact z
theorem rep_one {α : Type} (x : α) : ∀ n : Nat, (List.replicate n [x]).flatten = List.replicate n x
  | 0 => rfl
  | n + 1 => by rw [List.replicate_succ, List.flatten_cons, rep_one x n, List.replicate_succ] <;> rfl
theorem cut_at {α : Type} {xs : List α} {i : Nat} {x : α} (h : xs[i]? = some x) : xs.take i ++ x :: xs.drop (i + 1) = xs := by
  obtain ⟨hi, e⟩ := List.getElem?_eq_some_iff.mp h
  rw [← e, ← List.drop_eq_getElem_cons hi, List.take_append_drop]
/-! ### data: what is shaped -/
theorem canAll_iff : ∀ {ds : List PyData}, (∀ d ∈ ds, d.canLay0 = true) → PyData.canLayAll0 ds = true
  | [], _ => by simp only [PyData.canLayAll0]
  | d :: r, h => by
    simp only [PyData.canLayAll0]
    rw [h d List.mem_cons_self, canAll_iff fun x hx => h x (List.mem_cons_of_mem _ hx)] <;> rfl
theorem depAll_le {k : Nat} : ∀ {ds : List PyData}, (∀ d ∈ ds, d.depth ≤ k) → PyData.depthAll ds ≤ k
  | [], _ => by simp only [PyData.depthAll]; omega
  | d :: r, h => by
    simp only [PyData.depthAll]
    have h1 := h d List.mem_cons_self
    have h2 := depAll_le fun x hx => h x (List.mem_cons_of_mem d hx)
    omega
/-- data of at most k levels -/
def Fit (k : Nat) (d : PyData) : Prop := d.canLay0 = true ∧ d.depth ≤ k
theorem fit_int {k : Nat} (i : Int) : Fit k (.int i) := ⟨by simp only [PyData.canLay0], by simp only [PyData.depth]; omega⟩
theorem fit_bl {k : Nat} (i : Bool) : Fit k (.bool i) := ⟨by simp only [PyData.canLay0], by simp only [PyData.depth]; omega⟩
theorem fit_non {k : Nat} : Fit k .none := ⟨by simp only [PyData.canLay0], by simp only [PyData.depth]; omega⟩
theorem fit_str {k : Nat} {x : Str} (h : PyData.strOk x = true) : Fit k (.str x) := ⟨by simp only [PyData.canLay0]; exact h, by simp only [PyData.depth]; omega⟩
theorem fit_tup {k : Nat} {ds : List PyData} (h : ∀ d ∈ ds, Fit k d) : Fit (k + 1) (.tuple ds) :=
  ⟨by simp only [PyData.canLay0]; exact canAll_iff fun d hd => (h d hd).1, by simp only [PyData.depth]; have := depAll_le fun d hd => (h d hd).2; omega⟩
theorem fit_lst {k : Nat} {ds : List PyData} (h : ∀ d ∈ ds, Fit k d) : Fit (k + 1) (.list ds) :=
  ⟨by simp only [PyData.canLay0]; exact canAll_iff fun d hd => (h d hd).1, by simp only [PyData.depth]; have := depAll_le fun d hd => (h d hd).2; omega⟩
theorem Fit.shaped {k : Nat} {d : PyData} (h : Fit k d) (hk : k ≤ 64) : SeqAt.shaped d = true := by
  unfold SeqAt.shaped
  rw [h.1, decide_eq_true (Nat.le_trans h.2 hk)] <;> rfl
theorem Fit.mono {k m : Nat} {d : PyData} (h : Fit k d) (hk : k ≤ m) : Fit m d := ⟨h.1, Nat.le_trans h.2 hk⟩
/-! ### scalars -/
def scalV : V → Bool
  | .non => true
  | .bl _ => true
  | .int _ => true
  | .str x => PyData.strOk x
  | _ => false
def datV : V → PyData
  | .bl b => .bool b
  | .int i => .int i
  | .str x => .str x
  | _ => .none
theorem kn_scal {K : PySem.W.Frag} {H : Hp} {x : V} (h : scalV x = true) : Kn K H x := by
  cases x with
  | non => exact kn_non
  | bl b => exact kn_bl b
  | int i => exact kn_int i
  | str x => exact kn_str x
  | _ => cases h
theorem dp_scal {K : PySem.W.Frag} {H : Hp} {x : V} (h : scalV x = true) : Dp K H x (datV x) := by
  cases x with
  | non => exact .non
  | bl b => exact .bl b
  | int i => exact .int i
  | str x => exact .str x
  | _ => cases h
theorem fit_scal {k : Nat} {x : V} (h : scalV x = true) : Fit k (datV x) := by
  cases x with
  | non => exact fit_non
  | bl b => exact fit_bl b
  | int i => exact fit_int i
  | str x => exact fit_str h
  | _ => cases h
theorem flat_scal {x : V} (h : scalV x = true) : flatV x = true := by
  cases x with
  | non => rfl
  | bl b => rfl
  | int i => rfl
  | str x => rfl
  | _ => cases h
/-! ### lots: the mathematics -/
def oneL (m : Nat) : List Nat := (List.range 8).filter fun c => m.testBit c
/-- the lot of a mask -/
def lotL (m : Nat) : List Int := (oneL m).map fun (c : Nat) => (c : Int)
def lotV (m : Nat) : List V := (lotL m).map V.int
def lotD (m : Nat) : PyData := .tuple ((lotL m).map PyData.int)
/-- v is the lot of mask m -/
def Lot (K : PySem.W.Frag) (H : Hp) (m : Nat) (v : V) : Prop := ∃ a, v = .ref a ∧ SqT K H a (lotV m)
theorem Lot.sameT {K : PySem.W.Frag} {H H' : Hp} {m : Nat} {v : V} (h : Lot K H m v) (e : SameT H H') : Lot K H' m v := by
  obtain ⟨a, rfl, h⟩ := h
  exact ⟨a, rfl, e.seqT h⟩
theorem Lot.same {K : PySem.W.Frag} {H H' : Hp} {m : Nat} {v : V} (h : Lot K H m v) (e : Same H H') : Lot K H' m v := h.sameT (Same.toT e)
theorem dps_ints {K : PySem.W.Frag} {H : Hp} : ∀ (ns : List Int), DpAll K H (ns.map V.int) (ns.map PyData.int)
  | [] => .nil
  | n :: r => .cons (.int n) (dps_ints r)
theorem Lot.dp {K : PySem.W.Frag} {H : Hp} {m : Nat} {v : V} (h : Lot K H m v) : Dp K H v (lotD m) := by
  obtain ⟨a, rfl, h⟩ := h
  exact .tup h (dps_ints _)
theorem fit_lot (m : Nat) : Fit 1 (lotD m) := fit_tup fun d hd => by
  obtain ⟨i, _, rfl⟩ := List.mem_map.mp hd
  exact fit_int i
/-- the copy that a value names -/
def idx : V → Nat
  | .int i => i.toNat
  | _ => 0
def copyOk (n : Nat) (x : V) : Bool := good x (some 0) (some ((n : Int) - 1))
theorem copyOk_iff {n : Nat} {x : V} (h : copyOk n x = true) : ∃ c : Nat, x = .int c ∧ c < n := by
  unfold copyOk good at h
  cases x with
  | int i =>
    simp at h
    refine ⟨i.toNat, by congr 1; omega, by omega⟩
  | _ => cases h
theorem copyOk_nat {n c : Nat} (h : c < n) : copyOk n (.int c) = true := by
  unfold copyOk good
  simp
  omega
def maskV (xs : List V) : Nat := xs.foldl (fun m x => m ||| 1 <<< idx x) 0
theorem maskV_snoc (xs : List V) (x : V) : maskV (xs ++ [x]) = maskV xs ||| 1 <<< idx x := by
  unfold maskV
  rw [List.foldl_append] <;> rfl
theorem one_bit (i c : Nat) : (1 <<< i).testBit c = decide (i = c) := by
  rw [Nat.one_shiftLeft, Nat.testBit_two_pow]
theorem maskV_bit (c : Nat) : ∀ (xs : List V) (m : Nat), (xs.foldl (fun m x => m ||| 1 <<< idx x) m).testBit c = (m.testBit c || xs.any fun x => decide (idx x = c))
  | [], m => by simp
  | x :: r, m => by
    rw [List.foldl_cons, maskV_bit c r, Nat.testBit_or, one_bit, List.any_cons, Bool.or_assoc]
theorem mask_bit (c : Nat) (xs : List V) : (maskV xs).testBit c = xs.any fun x => decide (idx x = c) := by
  unfold maskV
  rw [maskV_bit]
  simp
theorem maskV_lt {n : Nat} : ∀ (xs : List V) (m : Nat), m < 2 ^ n → (∀ x ∈ xs, idx x < n) → xs.foldl (fun m x => m ||| 1 <<< idx x) m < 2 ^ n
  | [], m, h, _ => h
  | x :: r, m, h, k => by
    rw [List.foldl_cons]
    refine maskV_lt r _ (Nat.or_lt_two_pow h ?_) fun y hy => k y (List.mem_cons_of_mem _ hy)
    rw [Nat.one_shiftLeft]
    exact Nat.pow_lt_pow_right (by decide) (k x List.mem_cons_self)
theorem mask_lt {n : Nat} {xs : List V} (h : ∀ x ∈ xs, copyOk n x = true) : maskV xs < 2 ^ n := by
  refine maskV_lt xs 0 (Nat.two_pow_pos n) fun x hx => ?_
  obtain ⟨c, rfl, hc⟩ := copyOk_iff (h x hx)
  exact hc
theorem pow_le8 {n : Nat} (h : n ≤ 8) : 2 ^ n ≤ 256 := Nat.pow_le_pow_right (by decide) h
theorem range_cut {n m : Nat} {p : Nat → Bool} (h : n ≤ m) (k : ∀ c, n ≤ c → p c = false) : (List.range m).filter p = (List.range n).filter p := by
  obtain ⟨d, rfl⟩ := Nat.exists_eq_add_of_le h
  rw [List.range_add, List.filter_append]
  have : ((List.range d).map (n + ·)).filter p = [] := by
    rw [List.filter_eq_nil_iff]
    intro c hc
    obtain ⟨e, _, rfl⟩ := List.mem_map.mp hc
    rw [k _ (Nat.le_add_right _ _)]
    simp
  rw [this, List.append_nil]
/-- a lot of n copies, copy by copy -/
theorem oneL_n {n m : Nat} (hn : n ≤ 8) (h : m < 2 ^ n) : oneL m = (List.range n).filter fun c => m.testBit c := by
  refine range_cut hn fun c hc => ?_
  exact Nat.testBit_lt_two_pow (Nat.lt_of_lt_of_le h (Nat.pow_le_pow_right (by decide) hc))
theorem other_bit {n m : Nat} (h : m < 2 ^ n) (c : Nat) : (2 ^ n - 1 - m).testBit c = (decide (c < n) && !m.testBit c) := by
  rw [Nat.sub_sub, Nat.add_comm 1 m]
  exact Nat.testBit_two_pow_sub_succ h c
theorem lotV_at {m i : Nat} {x : V} (h : (lotV m)[i]? = some x) : ∃ c : Nat, x = .int c ∧ c < 8 ∧ m.testBit c = true := by
  have h := List.mem_of_getElem? h
  unfold lotV lotL oneL at h
  rw [List.map_map] at h
  obtain ⟨c, hc, rfl⟩ := List.mem_map.mp h
  obtain ⟨h1, h2⟩ := List.mem_filter.mp hc
  exact ⟨c, rfl, List.mem_range.mp h1, h2⟩
theorem lotV_mem {m : Nat} {x : V} (h : x ∈ lotV m) : ∃ c : Nat, x = .int c ∧ c < 8 ∧ m.testBit c = true := by
  obtain ⟨i, hi, e⟩ := List.mem_iff_getElem.mp h
  exact lotV_at (i := i) (by rw [List.getElem?_eq_getElem hi, e])
theorem lotV_ok {n m : Nat} (h : m < 2 ^ n) {x : V} (hx : x ∈ lotV m) : copyOk n x = true := by
  obtain ⟨c, rfl, _, hb⟩ := lotV_mem hx
  refine copyOk_nat ?_
  rcases Nat.lt_or_ge c n with k | k
  · exact k
  · rw [Nat.testBit_lt_two_pow (Nat.lt_of_lt_of_le h (Nat.pow_le_pow_right (by decide) k))] at hb
    cases hb
theorem mask_lotV {m : Nat} (h : m < 256) : maskV (lotV m) = m := by
  refine Nat.eq_of_testBit_eq fun c => ?_
  rw [mask_bit]
  cases e : m.testBit c with
  | true =>
    rw [List.any_eq_true]
    refine ⟨.int (c : Nat), ?_, by unfold idx; simp⟩
    unfold lotV lotL oneL
    rw [List.map_map]
    refine List.mem_map.mpr ⟨c, List.mem_filter.mpr ⟨List.mem_range.mpr ?_, e⟩, rfl⟩
    rcases Nat.lt_or_ge c 8 with k | k
    · exact k
    · rw [Nat.testBit_lt_two_pow (Nat.lt_of_lt_of_le h (Nat.pow_le_pow_right (by decide) k : 2 ^ 8 ≤ 2 ^ c))] at e
      cases e
  | false =>
    rw [List.any_eq_false]
    intro x hx
    obtain ⟨d, rfl, _, hd⟩ := lotV_mem hx
    unfold idx
    simp
    intro z
    subst z
    rw [hd] at e
    cases e
theorem lotV_filter {n m : Nat} (hn : n ≤ 8) (hm : m < 2 ^ n) : lotV m = (List.range n).filterMap (fun i => if m.testBit i = true then some (V.int i) else none) := by
  unfold lotV lotL
  rw [oneL_n hn hm, List.map_map, ← List.filterMap_eq_map, List.filterMap_filter]
  rfl
theorem fm_congr {α β : Type} {f g : α → Option β} : ∀ {l : List α}, (∀ x ∈ l, f x = g x) → l.filterMap f = l.filterMap g
  | [], _ => rfl
  | a :: r, h => by
    rw [List.filterMap_cons, List.filterMap_cons, h a List.mem_cons_self, fm_congr fun x hx => h x (List.mem_cons_of_mem _ hx)]
theorem lotV_others {n m : Nat} (hn : n ≤ 8) (hm : m < 2 ^ n) : lotV (2 ^ n - 1 - m) = (List.range n).filterMap (fun i => if m.testBit i = true then none else some (V.int i)) := by
  rw [lotV_filter hn (by omega)]
  refine fm_congr fun i hi => ?_
  rw [other_bit hm, decide_eq_true (List.mem_range.mp hi), Bool.true_and]
  cases m.testBit i <;> rfl
theorem inV_mask {cs : List Int} (h : ∀ c ∈ cs, 0 ≤ c) (i : Nat) : inV (.int i) (cs.map V.int) = (maskV (cs.map V.int)).testBit i := by
  rw [mask_bit]
  unfold inV
  rw [List.any_map, List.any_map]
  induction cs with
  | nil => rfl
  | cons c r ih =>
    rw [List.any_cons, List.any_cons, ih fun x hx => h x (List.mem_cons_of_mem _ hx)]
    congr 1
    have := h c List.mem_cons_self
    show (c == (i : Int)) = decide (c.toNat = i)
    by_cases e : c = i
    · subst e
      simp
    · rw [decide_eq_false (by omega)]
      simpa using e
theorem scal_lotV {m : Nat} {x : V} (hx : x ∈ lotV m) : scalV x = true := by
  obtain ⟨c, rfl, _⟩ := lotV_mem hx
  rfl
theorem scal_int {ns : List Int} {x : V} (hx : x ∈ ns.map V.int) : scalV x = true := by
  obtain ⟨i, _, rfl⟩ := List.mem_map.mp hx
  rfl
/-! ### lots: the promises -/
/-- the list or tuple at a -/
def SqA (K : PySem.W.Frag) (H : Hp) (a : Addr) (xs : List V) : Prop := SqL K H a xs ∨ SqT K H a xs
theorem SqA.same {K : PySem.W.Frag} {H H' : Hp} {a : Addr} {xs : List V} (h : SqA K H a xs) (e : Same H H') : SqA K H' a xs := by
  rcases h with h | h
  · exact .inl (e.seq h)
  · exact .inr (Same.seqT e h)
def Err (C : Addr) (H : Hp) (E : XK) (w : Str) (x : V) : Prop := ∀ d H', H d = none → Same H H' → H' d = some (.xd [("value", x), ("what", .str w)]) → E (.ref C) (some d) H'
theorem Err.of {C : Addr} {H H1 : Hp} {E : XK} {w : Str} {x : V} (h : Err C H E w x) (e : Same H H1) : Err C H1 E w x := fun d H' nd sm hx => h d H' (e.free nd) (e.trans sm) hx
def spCopies (K : PySem.W.Frag) (C : Addr) : Sp := fun vs H Q E => ∃ x, vs = [x] ∧ Kn K H x ∧ (good x (some 1) (some 8) = true → Q x H) ∧ (good x (some 1) (some 8) = false → Err C H E "copies" x)
def spCopy (K : PySem.W.Frag) (C : Addr) : Sp := fun vs H Q E => ∃ (n : Nat) (x : V), vs = [.int n, x] ∧ Kn K H x ∧ (copyOk n x = true → Q x H) ∧ (copyOk n x = false → Err C H E "copy" x)
/-- the first value that is no copy -/
def badOf (n : Nat) (xs : List V) : Option V := xs.find? fun x => !copyOk n x
theorem badOf_none {n : Nat} {xs : List V} (h : badOf n xs = none) {x : V} (hx : x ∈ xs) : copyOk n x = true := by
  have := List.find?_eq_none.mp h x hx
  simpa using this
theorem badOf_ok {n : Nat} {xs : List V} (h : ∀ x ∈ xs, copyOk n x = true) : badOf n xs = none := List.find?_eq_none.mpr fun x hx => by rw [h x hx]; simp
theorem badOf_at {n i : Nat} {xs : List V} {x : V} (hx : xs[i]? = some x) (hok : ∀ y ∈ xs.take i, copyOk n y = true) (h : copyOk n x = false) : badOf n xs = some x := by
  have e : badOf n (xs.take i ++ x :: xs.drop (i + 1)) = some x := by
    unfold badOf
    rw [List.find?_append, List.find?_eq_none.mpr (fun y hy => by rw [hok y hy]; simp), Option.none_or, List.find?_cons, h] <;> rfl
  rwa [cut_at hx] at e
def spMaskOf (K : PySem.W.Frag) (C : Addr) : Sp := fun vs H Q E => ∃ (n : Nat) (a : Addr) (xs : List V), vs = [.int n, .ref a] ∧ n ≤ 8 ∧ SqA K H a xs ∧ (∀ x ∈ xs, scalV x = true) ∧
  (badOf n xs = none → Q (.int (maskV xs)) H) ∧ (∀ x, badOf n xs = some x → Err C H E "copy" x)
def spLotAt (K : PySem.W.Frag) : Sp := fun vs H Q _ => ∃ m : Nat, vs = [.int m] ∧ ∀ p H', Same H H' → H p = none → H' p = some (.tup (lotV m)) → Q (.ref p) H'
/-- lot_of, others: f makes a mask of a mask -/
def spLotOf (K : PySem.W.Frag) (C : Addr) (f : Nat → Nat → Nat) : Sp := fun vs H Q E => ∃ (c : V) (a : Addr) (xs : List V), vs = [c, .ref a] ∧ Kn K H c ∧ SqA K H a xs ∧ (∀ x ∈ xs, scalV x = true) ∧
  (good c (some 1) (some 8) = false → Err C H E "copies" c) ∧
  (∀ n : Nat, c = .int n → 1 ≤ n → n ≤ 8 → (badOf n xs = none → ∀ p H', Same H H' → H p = none → H' p = some (.tup (lotV (f n (maskV xs)))) → Q (.ref p) H') ∧ (∀ x, badOf n xs = some x → Err C H E "copy" x))
def spAllLots (K : PySem.W.Frag) (C : Addr) : Sp := fun vs H Q E => ∃ c : V, vs = [c] ∧ Kn K H c ∧ (good c (some 1) (some 8) = false → Err C H E "copies" c) ∧
  (∀ n : Nat, c = .int n → 1 ≤ n → n ≤ 8 → ∀ p ys H', Same H H' → H p = none → H' p = some (.lst ys) → Paired (fun m y => Lot K H' m y) (List.range (2 ^ n)) ys → Q (.ref p) H')
theorem good_copies {c : V} (h : good c (some 1) (some 8) = true) : ∃ n : Nat, c = .int n ∧ 1 ≤ n ∧ n ≤ 8 := by
  unfold good at h
  cases c with
  | int i =>
    simp at h
    exact ⟨i.toNat, by congr 1; omega, by omega, by omega⟩
  | _ => cases h
theorem copies_good {n : Nat} (h1 : 1 ≤ n) (h2 : n ≤ 8) : good (.int n) (some 1) (some 8) = true := by
  unfold good
  simp
  omega
theorem bitAnd_nat (a b : Nat) : Builtin.bitAnd (a : Int) (b : Int) = ((a &&& b : Nat) : Int) := by rw [PyProof.Rows.bitAnd_pp (by omega) (by omega), Int.toNat_natCast, Int.toNat_natCast]
theorem shl_nat (c : Nat) : (1 : Int) * (2 : Int) ^ ((c : Int)).toNat = ((1 <<< c : Nat) : Int) := by
  rw [Int.toNat_natCast, Int.one_mul, Nat.one_shiftLeft, Int.natCast_pow] <;> rfl
theorem and_bit (m c : Nat) : (((m &&& 1 <<< c : Nat) : Int) != 0) = m.testBit c := by
  have h : m &&& 1 <<< c = if m.testBit c then 1 <<< c else 0 := by
    refine Nat.eq_of_testBit_eq fun d => ?_
    rw [Nat.testBit_and, one_bit]
    by_cases e : c = d
    · subst e
      cases h : m.testBit c with
      | true => simp [one_bit]
      | false => simp
    · rw [decide_eq_false e, Bool.and_false]
      split
      · rw [one_bit, decide_eq_false e]
      · simp
  rw [h]
  have : 0 < 1 <<< c := by rw [Nat.one_shiftLeft]; exact Nat.two_pow_pos c
  cases m.testBit c with
  | true =>
    show (((1 <<< c : Nat) : Int) != 0) = true
    rw [bne_iff_ne]
    omega
  | false => rfl
/-! ### rules for tuples: enumerate(t), zip(t, u), t[::-1], t.count(b) -/
open AutoSeq1 (wpAny_loadPart') in
theorem enumT_new {v : Value} {o : Obj} {G : Heap → Prop} (B : Begins v o G) :
    Meets (Builtin.«enumerate.__new__» ⟨[.type "enumerate", v], []⟩) (fun _ R s => G s.heap ∧
      R (.ok (.ret (.ref (s.heap.push o).objs.size))) { s with heap := (s.heap.push o).push { cls := .type "enumerate", data := .fields #[.none, .bool false, .ref s.heap.objs.size, rawInt 0, .none, .none] } }) :=
  .of_wp fun prog w A R s h => by
    obtain ⟨hp, gl, dp, tk, os⟩ := s; obtain ⟨g1, h⟩ := h
    have sub0 := sub_enumerate
    have it1 : ∀ {A' : Around} {F : Value → Shared → Prop} {Q : Value → Shared → Prop}, Q (.ref hp.objs.size) ⟨hp.push o, gl, dp, tk, os⟩ → wpAny (model prog w) A' (pyIter v) Q F ⟨hp, gl, dp, tk, os⟩ :=
      fun k => B.iter prog w _ _ ⟨hp, gl, dp, tk, os⟩ _ g1 k
    wp_walk using it1
    refine wpAny_stack_any fun st => wpAny_pure ?_
    split
    · rename_i c _ _ _ _ _
      cases (c == Value.type "enumerate") <;> (wp_walk using it1; exact ⟨_, rfl, h⟩)
    · wp_walk using it1
      exact ⟨_, rfl, h⟩
theorem enumT_call {prog : Program} {w : World} {A : Around} {F : Value → Shared → Prop} {s : Shared} {v : Value} {o : Obj} {G : Heap → Prop} {Q : Value → Shared → Prop} (B : Begins v o G) (g1 : G s.heap)
    (h : ∀ h', IsEnum h' (s.heap.objs.size + 1) s.heap.objs.size 0 .none → h'.get? s.heap.objs.size = some o → (∀ b u, s.heap.get? b = some u → h'.get? b = some u) → Q (.ref (s.heap.objs.size + 1)) { s with heap := h' }) :
    wpAny (model prog w) A (call (.type "enumerate") [v]) Q F s := by
  refine callType_new PySem.F.called_enumerate (by decide) (PySem.F.typeCall_enumerate_1 _) (PySem.F.newCall_enumerate_1 _) (fun ob => PySem.F.args_object_init_2 ob _) PySem.F.entry_enumerate_new (enumT_new B) ⟨g1, ?_⟩
  have sz : (s.heap.push o).objs.size = s.heap.objs.size + 1 := Heap.size_push ..
  show _ ∧ _
  rw [sz]
  have en : IsEnum ((s.heap.push o).push { cls := .type "enumerate", data := .fields #[.none, .bool false, .ref s.heap.objs.size, rawInt 0, .none, .none] }) (s.heap.objs.size + 1) s.heap.objs.size 0 .none := by
    have z := Heap.get?_push_size (s.heap.push o) (o := { cls := .type "enumerate", data := .fields #[.none, .bool false, .ref s.heap.objs.size, rawInt 0, .none, .none] }) rfl
    rwa [sz] at z
  exact ⟨⟨_, en, rfl⟩, h _ en (Heap.get?_push_of_some _ (Heap.get?_push_size _ B.free)) fun b u z => Heap.get?_push_of_some _ (Heap.get?_push_of_some _ z)⟩
/-- the tuple at a, each item in a new pair with its place -/
def IteT (K : PySem.W.Frag) (a : Addr) : It :=
  ⟨fun i H => ∃ (xs : List V) (x : V), SqT K H a xs ∧ xs[i]? = some x, fun i H v H' => ∃ T x, v = .ref T ∧ H T = none ∧ H' = upd H T (.tup [.int (i : Nat), x]) ∧ ∀ xs, SqT K H a xs → xs[i]? = some x, fun i H => ∃ xs : List V, SqT K H a xs ∧ xs.length ≤ i⟩
/-- what the iterator of a tuple draws, from a place behind its end -/
theorem Dn {P : Program} {w : World} {A : Around} (its : Array Value) (it a : Addr) (hh : A.handled = none) (i : Nat) (hi : its.size ≤ i) :
    Draws P w A.in1 it [it, a] i (fun _ _ => False) (fun j h => h.IsTupleIter it a j ∧ h.IsTuple a its ∧ j = i) where
  live := fun _ _ st => st.1.elim fun o z => ⟨o, z.1⟩
  frame := fun _ _ _ st hk => ⟨st.1.at fun o e => hk it (by simp) o e, st.2.1.at fun o e => hk a (by simp) o e, st.2.2⟩
  item := fun j s Q E hj st _ => absurd st.2.2 (by omega)
  done := fun s Q E st hE => wpAny_nextOf_tuple_end (A := A.in1) hh st.1 st.2.1 (by simp; omega) hE
theorem turn_enumT {P : Program} {w : World} {K : PySem.W.Frag} {elts : List Expr} {kk : Nat} {tpos : Pos} (a e it : Addr) (hat : a ≠ it) (hae : a ≠ e) (hei : e ≠ it) :
    Turn P w K (.Tuple elts kk tpos) (IteT K a) [e, it] e (fun i h => (∃ old, IsEnum h e it ((i : Nat) : Int) old) ∧ h.IsTupleIter it a i) where
  mem := by simp
  obj := fun i h st b hb => by
    obtain ⟨⟨old, he⟩, ⟨o, ho, hc, hd⟩⟩ := st
    have bb : b = e ∨ b = it := by simpa using hb
    rcases bb with rfl | rfl
    · exact ⟨_, he, fun v q => nomatch q⟩
    · exact ⟨o, ho, fun v q => by rw [hd] at q; cases q⟩
  keep := fun i h h' st k => ⟨st.1.elim fun old he => ⟨old, k e (by simp) _ he⟩, st.2.at fun o q => k it (by simp) o q⟩
  item := by
    intro X hP hw hK hc i pins s σ H E I hf st hg
    subst hP hw hK
    obtain ⟨⟨old, he⟩, hit⟩ := st
    obtain ⟨xs, x, hq, hx⟩ := hg
    obtain ⟨its, rv, plc, hz⟩ := I.tuple hq
    obtain ⟨u, hu, ru⟩ := rv.get hx
    have el : e < s.heap.objs.size := Heap.lt_size he
    have il : it < s.heap.objs.size := by obtain ⟨_, z, _⟩ := hit; exact Heap.lt_size z
    have hlt : i < its.toArray.size := by
      rw [List.size_toArray]
      exact (List.getElem?_eq_some_iff.mp hu).1
    refine wpAny_pyNext_enum_itemD (Draws.tuple (A := X.A.in1) (show X.A.in1.handled = none from I.ok.hd hc) it a hat its.toArray) he ⟨hit, plc⟩ hlt hei (by simp [hei, Ne.symm hae]) fun y h' tk hy ho hst hT hsz hk => ?_
    have ey : y = u := by
      rw [show its.toArray[i]? = some u by simpa using hu] at hy
      exact (Option.some.inj hy).symm
    subst ey
    refine ⟨_, rfl, wpAny_letOwnedTupleGo_enum (s := { s with heap := h', toks := tk + 1 }) ho fun h'' he' sb => ?_⟩
    have t2 : h''.get? s.heap.objs.size = some { cls := .type "tuple", data := .seq #[.int i tk, y] } := (sb.2 _ (Nat.ne_of_gt el)).trans hT
    have new : ObjOk X.prog X.w (upd H s.heap.objs.size (.tup [.int (i : Nat), x])) h'' s.heap.objs.size (.tup [.int (i : Nat), x]) :=
      ⟨by show 2 ≤ sizeLine; decide, [.int i tk, y], .cons ⟨_, rfl⟩ (.cons ru .nil), ⟨_, t2, rfl, _, rfl⟩⟩
    have J : Inv X pins σ (upd H s.heap.objs.size (.tup [.int (i : Nat), x])) { s with heap := h'', toks := tk + 1 } :=
      I.turnedNew (t' := tk + 1) (ch := [e, it]) (fun b ob nb q => (sb.2 b (fun z => nb (by simp [z]))).trans (hk b ob (fun z => nb (by simp [z])) (fun z => nb (by simp [z])) q)) hf (Nat.le_refl _) new
    refine ⟨.ref s.heap.objs.size, _, J, rfl, ⟨_, x, rfl, I.hok.fresh (Nat.le_refl _), rfl, fun ys hys => by rw [I.tuple_inj hys hq]; exact hx⟩, ⟨⟨y, ?_⟩, hst.1.at fun o q => (sb.2 it (Ne.symm hei)).trans q⟩, fun b hb => ?_⟩
    · rw [show ((i + 1 : Nat) : Int) = (i : Int) + 1 by omega]
      exact he'
    · have bb : b = e ∨ b = it := by simpa using hb
      have bl : b < s.heap.objs.size := by
        rcases bb with z | z
        · rw [z]; exact el
        · rw [z]; exact il
      rw [upd_ne (Nat.ne_of_lt bl)]
      exact (hf b hb).1
  done := by
    intro X hP hw hK hc i pins s σ H E I hf st hg
    subst hP hw hK
    obtain ⟨⟨old, he⟩, hit⟩ := st
    obtain ⟨xs, hq, hx⟩ := hg
    obtain ⟨its, rv, plc, hz⟩ := I.tuple hq
    obtain ⟨f0, f1, f2, f3, f4, f5⟩ := hf it (by simp)
    have hn : its.toArray.size ≤ i := by rw [List.size_toArray, ← rv.length]; exact hx
    refine wpAny_pyNext_enum_endD (Dn its.toArray it a (I.ok.hd hc) i hn) he ⟨hit, plc, rfl⟩ fun h' eb => ⟨rfl, I.turned (t' := s.toks) (fun b o hb q => eb b o hb q) f0 f1 f3 f4 f5⟩
  self := fun A i s Q E st h => st.1.elim fun _ he => wpAny_pyIter_enum he h
def iEnumA (K : PySem.W.Frag) (ta : TA) : TI := fun σ H R => ta σ H fun vs H1 => ∃ a xs, vs = [.ref a] ∧ ((SqL K H1 a xs ∧ R (Ite K a) H1) ∨ (SqT K H1 a xs ∧ R (IteT K a) H1))
theorem pi_enumA {X : Cx} {e : Expr} {ta : TA} {p pos tpos : Pos} {elts : List Expr} {kk : Nat} (hg : Gl X "enumerate") (hm : X.mg "enumerate" = none) (ha : PA X [e] ta) (hs : starEach [e] X.env = [(false, eval e X.env)] := by rfl) :
    PI X (.Tuple elts kk tpos) (.Call (.Name "enumerate" p) [e] [] pos) (iEnumA X.K ta) := by
  constructor
  intro pins s σ H R I h
  refine Call_ (ld_blt I hg hm boot_enumerate (PyProof.Rows.callWith_type1 (thn (ha.run pos pins s σ H _ I h) fun us t ⟨vs, Hb, J, rr, a, xs, ex, k⟩ => ?_) hs rfl))
  subst ex
  obtain ⟨u, rfl, ru⟩ := vals1 rr
  cases (show u = Value.ref a from ru)
  rcases k with ⟨hq, k⟩ | ⟨hq, k⟩
  · obtain ⟨its, rv, plc, hz⟩ := J.list hq
    refine call_enumerate_list plc.isList fun h' he hit hsz hk => wpAny_pyIter_enum he ?_
    refine ⟨t.heap.objs.size + 1, [t.heap.objs.size + 1, t.heap.objs.size], _, _, Hb, rfl, J.kept (t' := t.toks) hk, turn_enum a (t.heap.objs.size + 1) t.heap.objs.size, ⟨⟨.none, he⟩, hit, Nat.succ_ne_self _⟩, fun b hb => ?_, k⟩
    have bb : b = t.heap.objs.size + 1 ∨ b = t.heap.objs.size := by simpa using hb
    have le : t.heap.objs.size ≤ b := by
      rcases bb with z | z
      · rw [z]; exact Nat.le_succ _
      · rw [z]; exact Nat.le_refl _
    exact J.fpOk le (J.hok.fresh le)
  · obtain ⟨its, rv, plc, hz⟩ := J.tuple hq
    have al : a < t.heap.objs.size := by obtain ⟨_, z, _⟩ := plc; exact Heap.lt_size z
    refine enumT_call (begins_tuple a its.toArray) plc fun h' he hit hk => wpAny_pyIter_enum he ?_
    refine ⟨t.heap.objs.size + 1, [t.heap.objs.size + 1, t.heap.objs.size], _, _, Hb, rfl, J.kept (t' := t.toks) hk, turn_enumT a (t.heap.objs.size + 1) t.heap.objs.size (Nat.ne_of_lt al) (Nat.ne_of_lt (Nat.lt_succ_of_lt al)) (Nat.succ_ne_self _), ⟨⟨.none, he⟩, ⟨_, hit, rfl, rfl⟩⟩, fun b hb => ?_, k⟩
    have bb : b = t.heap.objs.size + 1 ∨ b = t.heap.objs.size := by simpa using hb
    have le : t.heap.objs.size ≤ b := by
      rcases bb with z | z
      · rw [z]; exact Nat.le_succ _
      · rw [z]; exact Nat.le_refl _
    exact J.fpOk le (J.hok.fresh le)
theorem walk_enumT {K : PySem.W.Frag} {a : Addr} {xs : List V} : Walk (IteT K a) xs.length (fun H => SqT K H a xs) (YPair (fun i => some (.int (i : Nat))) (fun i => xs[i]?)) := by
  refine ⟨fun i _ hi q => ⟨xs, xs[i], q, by simp [hi]⟩, fun _ q => ⟨xs, q, Nat.le_refl _⟩, fun i H v H' _ q y => ?_⟩
  obtain ⟨T, x, h1, h2, h3, h4⟩ := y
  exact ⟨T, .int (i : Nat), x, h1, h2, h3, rfl, h4 xs q⟩
theorem walk_zipT {K : PySem.W.Frag} {a b : Addr} {xs ys : List V} {n : Nat} (hn : n = min xs.length ys.length) : Walk (RZ.ItzT K a b) n (fun H => SqT K H a xs ∧ SqT K H b ys) (YPair (fun i => xs[i]?) (fun i => ys[i]?)) := by
  subst hn
  refine ⟨fun i _ hi q => ⟨xs, ys, xs[i]'(by omega), ys[i]'(by omega), q.1, q.2, by simp [show i < xs.length by omega], by simp [show i < ys.length by omega]⟩, fun _ q => ⟨xs, ys, q.1, q.2, by omega⟩, fun i H v H' _ q y => ?_⟩
  obtain ⟨T, x, z, h1, h2, h3, h4, h5⟩ := y
  exact ⟨T, x, z, h1, h2, h3, h4 xs q.1, h5 ys q.2⟩
/-! ### t[::-1], t.count(x) of a tuple -/
theorem applied_rev {prog : Program} {w : World} {A : Around} {F : Value → Shared → Prop} {s : Shared} {sl : Addr} {vl vu vs : Value} {n : Nat} {Q : Int × Int × Nat → Shared → Prop} (hs : s.heap.IsSliceOf sl vl vu vs) (pl : IsPart vl none) (pu : IsPart vu none) (ps : IsPart vs (some (-1)))
    (h : Q ((n : Int) - 1, -1, n) s) : wpAny (model prog w) A (Builtin.Slice.sliceApplied (.ref sl) (pure (n : Int))) Q F s := by
  obtain ⟨ob, ho, -, hd⟩ := id hs
  unfold Builtin.Slice.sliceApplied Builtin.Slice.sliceFields
  refine wpAny_bind (wpAny_bind (wpAny_field ho hd (x := vl) rfl (wpAny_bind (wpAny_field ho hd (x := vu) rfl (wpAny_bind (wpAny_field ho hd (x := vs) rfl (wpAny_pure ?_)))))))
  refine wpAny_bind (HT.slicePart_ ps ?_)
  show wpAny _ _ (if ((-1 : Int) == 0) = true then _ else _) _ _ s
  rw [if_neg (by decide)]
  refine wpAny_bind (HT.slicePart_ pl (wpAny_bind (HT.slicePart_ pu (wpAny_bind (wpAny_pure ?_)))))
  have e1 : Builtin.Slice.sliceAdjust none none (-1) (n : Int) = ((n : Int) - 1, -1) := rfl
  have e2 : Builtin.Slice.slicePlaces ((n : Int) - 1) (-1) (-1) = n := by
    unfold Builtin.Slice.slicePlaces
    rw [if_neg (by decide)]
    have e3 : (- -1 : Int) = 1 := by decide
    split
    · rw [e3, Int.ediv_one]
      omega
    · show (0 : Int).toNat = n
      omega
  show wpAny _ _ (match Builtin.Slice.sliceAdjust none none (-1) (n : Int) with | (lo, hi) => pure (lo, (-1 : Int), Builtin.Slice.slicePlaces lo hi (-1))) _ _ s
  rw [e1]
  show wpAny _ _ (pure ((n : Int) - 1, (-1 : Int), Builtin.Slice.slicePlaces ((n : Int) - 1) (-1) (-1))) _ _ s
  rw [e2]
  exact wpAny_pure h
theorem pick_rev (its : Array Value) : (List.range its.size).filterMap (fun (k : Nat) => its[((its.size : Int) - 1 + (k : Int) * -1).toNat]?) = its.toList.reverse := by
  have e : (List.range its.size).filterMap (fun (k : Nat) => its[((its.size : Int) - 1 + (k : Int) * -1).toNat]?) = (List.range its.size).map (fun k => its.toList.reverse.getD k .none) := by
    rw [← List.filterMap_eq_map]
    refine fm_congr fun k hk => ?_
    have hk := List.mem_range.mp hk
    have e1 : ((its.size : Int) - 1 + (k : Int) * -1).toNat = its.size - 1 - k := by omega
    rw [e1]
    simp [List.getD_eq_getElem?_getD, hk]
  rw [e]
  have := range_get id .none its.toList.reverse
  rw [List.length_reverse, Array.length_toList, List.map_id] at this
  exact this
theorem getItem_tuple_rev {prog : Program} {w : World} {A : Around} {F : Value → Shared → Prop} {s : Shared} {t sl : Addr} {its : Array Value} {vl vu vs : Value} {Q : Value → Shared → Prop} (ht : IsTup s.heap t its) (hs : s.heap.IsSliceOf sl vl vu vs) (pl : IsPart vl none) (pu : IsPart vu none) (ps : IsPart vs (some (-1)))
    (h : Q (.ref s.heap.objs.size) { s with heap := s.heap.push { cls := .type "tuple", data := .seq its.toList.reverse.toArray } }) (hz : its.size ≤ sizeLine) : wpAny (model prog w) A (getItem (.ref t) (.ref sl)) Q F s := by
  have hok : sizeOk (.seq its.toList.reverse.toArray) := by
    show its.toList.reverse.toArray.size ≤ sizeLine
    rw [List.size_toArray, List.length_reverse, Array.length_toList]
    exact hz
  obtain ⟨os, hos, hcs, hds⟩ := id hs
  have tsl : s.TypeIs (.ref sl) "slice" := ⟨os, hos, hcs⟩
  unfold getItem
  try with_reducible refine wpAny_holding ?_
  first | refine wpAny_bind (wpAny_pure ?_) | skip
  refine wpAny_bind (wpAny_sequenceKey ht.typeIs (by decide) (wpAny_bind (wpAny_callSpecial?_slot (name := Str.ofString "__getitem__") ht.typeIs PyProof.Rows.slot_tuple_getitem
    (wpAny_call_entry PyProof.Rows.slot_tuple_getitem ht.typeIs entry_tuple_getitem ?_ (args_tuple_getitem _ _)))))
  show wpAny _ _ (Builtin.Tuple.tupleItemsOf (.ref t) >>= _) _ _ s
  refine wpAny_bind (tupleItemsOf_ ht (wpAny_bind (wpAny_typeOf tsl ?_)))
  rw [if_pos (by decide)]
  refine wpAny_bind (applied_rev hs pl pu ps ?_)
  have no : ¬ (((its.size : Int) - 1 == 0 && (-1 : Int) == 1 && its.size == its.size) = true) := by simp
  show wpAny _ _ (if ((its.size : Int) - 1 == 0 && (-1 : Int) == 1 && its.size == its.size) = true then _ else _) _ _ s
  rw [if_neg no, pick_rev]
  first
    | exact wpAny_bind (m := Builtin.Tuple.tupleExact _) (wpAny_newObj_type (wpAny_pure ⟨_, rfl, wpAny_pure h⟩) hok)
    | exact wpAny_bind (m := Builtin.Tuple.tupleExact _) (wpAny_newObj_type (wpAny_bind (wpAny_pure (wpAny_pure ⟨_, rfl, wpAny_pure h⟩))) hok)
    | exact wpAny_bind (wpAny_bind (m := Builtin.Tuple.tupleExact _) (wpAny_newObj_type (wpAny_pure (wpAny_pure ⟨_, rfl, wpAny_pure h⟩)) hok))
    | exact wpAny_bind (wpAny_bind (m := Builtin.Tuple.tupleExact _) (wpAny_newObj_type (wpAny_pure ⟨_, rfl, wpAny_pure h⟩) hok))
/-- t[::-1] -/
def tRevT (K : PySem.W.Frag) (te : TE) : TE := fun σ H Q => te σ H fun x H1 => ∃ a xs, x = .ref a ∧ SqT K H1 a xs ∧ ∀ p, H1 p = none → Q (.ref p) (upd H1 p (.tup xs.reverse))
theorem pe_revT {X : Cx} {e : Expr} {te : TE} {k : Nat} {p1 p2 p3 pos : Pos} (he : PE X e te) : PE X (.Subscript e (.Slice none none (some (.UnaryOp .USub (.Constant (.int 1) k p1) p2)) p3) pos) (tRevT X.K te) := by
  constructor
  intro pins s σ H Q I h
  refine Subscript_ (thn (he.run pins s σ H _ I h) fun v s1 ⟨x, G1, I1, r1, a, xs, ex, hx, k1⟩ => ?_)
  subst ex
  cases r1
  have st : PO X (some (.UnaryOp .USub (.Constant (.int 1) k p1) p2)) (tPart (tUn (rU fun i => .int (-i)) (tC (.int 1)))) := po_some (pe_un un_neg pe_int)
  refine wpAny_Slice (thn (po_none.run pins s1 σ G1 (fun o G => o = none ∧ G = G1) I1 ⟨rfl, rfl⟩) fun vl s2 ⟨l, G2, I2, pl, el, g2⟩ => ?_)
  subst el g2
  refine thn (po_none.run pins s2 σ G2 (fun o G => o = none ∧ G = G2) I2 ⟨rfl, rfl⟩) fun vu s3 ⟨u, G3, I3, pu, eu, g3⟩ => ?_
  subst eu g3
  refine thn (st.run pins s3 σ G3 (fun o G => o = some (-1) ∧ G = G3) I3 ⟨1, rfl, -1, rfl, rfl, rfl⟩) fun vs s4 ⟨o, G4, I4, ps, eo, g4⟩ => ?_
  subst eo g4
  have I5 : Inv X pins σ G4 { s4 with heap := s4.heap.push { cls := .type "slice", data := .fields #[vl, vu, vs] } } := I4.kept (t' := s4.toks) fun b ob q => Heap.get?_push_of_some _ q
  obtain ⟨its, r, ht, hz⟩ := I5.tuple hx
  have hlen := r.length
  show wpAny (model X.prog X.w) X.A (subscriptTail e (.Slice none none (some (.UnaryOp .USub (.Constant (.int 1) k p1) p2)) p3) (.ref a) (.ref s4.heap.objs.size)) (EP X pins σ Q) X.xe { s4 with heap := s4.heap.push { cls := .type "slice", data := .fields #[vl, vu, vs] } }
  refine tail_any (ops := [.ref a, .ref s4.heap.objs.size]) ht.typeIs (PyProof.Rows.slot_tuple_getitem.lookup) ?_ (by with_unfolding_all rfl)
  refine getItem_tuple_rev ht (Heap.IsSliceOf.new _ vl vu vs) pl pu ps ?_ (by rw [List.size_toArray]; omega)
  refine ⟨.ref _, _, I5.laid (t' := s4.toks) (o := .tup xs.reverse) (fun b ob q => Heap.get?_push_of_some _ q) (Nat.le_refl _) ?_, rfl, k1 _ (I5.hok.fresh (Nat.le_refl _))⟩
  exact ⟨by rw [List.length_reverse]; exact hz, _, r.reverse, IsTup.new _ _⟩
/-- t.count(c), a tuple of bools -/
def rCntT (K : PySem.W.Frag) : V → List V → Hp → VK → Prop := fun x xs H Q => ∃ (p : Addr) (bs : List Bool) (c : Bool), x = .ref p ∧ xs = [.bl c] ∧ SqT K H p (bs.map V.bl) ∧ Q (.int (bs.count c : Nat)) H
def isB (c : Bool) (u : Value) : Bool := match u with
  | .bool b => b == c
  | _ => false
theorem isB_all {c : Bool} : ∀ {bs : List Bool} {its : List Value}, Vals (bs.map V.bl) its → (∀ z ∈ its, ∃ b, z = .bool b) ∧ its.countP (isB c) = bs.count c
  | [], _, .nil => ⟨fun z hz => (nomatch hz), rfl⟩
  | b :: r, _, .cons h t => by
    obtain ⟨h1, h2⟩ := isB_all (c := c) t
    cases h
    refine ⟨fun z hz => ?_, ?_⟩
    · rcases List.mem_cons.mp hz with rfl | hz
      · exact ⟨b, rfl⟩
      · exact h1 z hz
    · rw [List.countP_cons, List.count_cons, h2] <;> rfl
theorem mt_tcount {X : Cx} : MtR X "tuple.count" (rCntT X.K) := by
  intro pins s σ H x xs v us Q I rx rxs h
  obtain ⟨p, bs, c, rfl, rfl, hs, q⟩ := h
  cases rx
  obtain ⟨u, rfl, ru⟩ := Vals.one rxs
  obtain ⟨its, rv, ⟨⟨cls, dd, data, sl⟩, ho, hc, n, hd⟩, hlen⟩ := I.tuple hs
  simp only at hc hd
  subst hc hd
  obtain ⟨h1, h2⟩ := isB_all (c := c) rv
  refine call_meets PySem.F.slot_tuple_count ⟨_, ho, rfl⟩ PySem.F.entry_tuple_count (PySem.F.args_tuple_count_2 _ _) (SeqAt.tuple_countAt p its.toArray n dd sl u (isB c)) ⟨ho, fun z hz => ?_, ?_⟩
  · obtain ⟨b, rfl⟩ := h1 z (by simpa using hz)
    exact eqAt_V (y := .bl b) (x := .bl c) rfl ru rfl rfl
  · refine ⟨.int (bs.count c : Nat), H, I.tok _, ⟨s.toks, ?_⟩, q⟩
    show Value.int ((its.toArray.toList.countP (isB c) : Nat) : Int) s.toks = _
    rw [show its.toArray.toList = its from rfl, h2]
/-- tuple(list), the new object known as it is -/
def rTupZ (K : PySem.W.Frag) : List V → Hp → VK → Prop := fun xs H Q => ∃ p ys, xs = [.ref p] ∧ SqL K H p ys ∧ ∀ l (ob : Obj), H l = none → ob.dict = none → Q (.ref l) (upd H l (.frz ob (.tup ys)))
theorem call_tuple_ofZ {X : Cx} : CallR X (.type "tuple") (rTupZ X.K) := by
  intro pins s σ H xs us Q I r h
  obtain ⟨p, ys, rfl, hq, q⟩ := h
  obtain ⟨u, rfl, ru⟩ := vals1 r
  cases ru
  obtain ⟨its, rv, plc, hz⟩ := I.list hq
  have ln := rv.length
  refine call_tuple_list plc.isList (fun g kp => ?_) (by simp only [List.size_toArray] <;> omega)
  have J : Inv X pins σ H { s with heap := g } := I.kept (t' := s.toks) kp
  have J2 : Inv X pins σ (upd H g.objs.size (.frz { cls := .type "tuple", data := .seq its.toArray } (.tup ys))) { s with heap := g.push { cls := .type "tuple", data := .seq its.toArray } } :=
    J.laid (t' := s.toks) (fun b o e => Heap.get?_push_of_some _ e) (Nat.le_refl _) (show ObjOk X.prog X.w _ _ _ (.frz { cls := .type "tuple", data := .seq its.toArray } (.tup ys)) from ⟨Heap.get?_push_size _ rfl, hz, its, rv, IsTup.new _ _⟩)
  exact ⟨.ref g.objs.size, _, J2, rfl, q _ _ (J.hok.fresh (Nat.le_refl _)) rfl⟩
/-- t.count(c), t a tuple of bools known as it is -/
def tCntZ (to : TE) (ts : TA) : TE := fun σ H Q => to σ H fun x H1 => ∃ (p : Addr) (ob : Obj) (bs : List Bool), x = .ref p ∧ H1 p = some (.frz ob (.tup (bs.map V.bl))) ∧ ob.dict = none ∧ ts σ H1 fun ys H2 => ∃ c, ys = [.bl c] ∧ H2 p = some (.frz ob (.tup (bs.map V.bl))) ∧ Q (.int (bs.count c : Nat)) H2
theorem pe_tcount {X : Cx} {o e : Expr} {to : TE} {ts : TA} {apos cpos : Pos} (ho : PE X o to) (ha : PA X [e] ts) (hbase : attributeBase o "count" X.env (eval o X.env) = eval o X.env := by rfl)
    (hfew : ((backTo cpos (starEach [e] X.env)).all (fun x => !x.1) && (backToKw cpos (keywordEach [] X.env)).all (fun x => x.1.isSome)
      && decide ([e].length + ([] : List Keyword).length + (if ([] : List Keyword).isEmpty then 0 else 1) < 30)) = true := by rfl)
    (hline : (apos.endLine == cpos.line) = true := by rfl) (hs : starEach [e] X.env = (false, eval e X.env) :: starEach [] X.env := by rfl) (hplain : (backTo cpos (starEach [] X.env)).any (·.1) = false := by rfl) :
    PE X (.Call (.Attribute o "count" apos) [e] [] cpos) (tCntZ to ts) := by
  constructor
  intro pins s σ H Q I h
  refine wpAny_Call_method_late hbase hfew hline rfl (thn (ho.run pins s σ H _ I h) fun v t ⟨x, H1, J, rx, p, ob, bs, ex, hp, hdn, q⟩ => ?_)
  subst ex
  obtain rfl : v = Value.ref p := rx
  obtain ⟨hg, hlen, its, rv, ⟨ob2, hg2, hc, -⟩⟩ := J.hok p _ hp
  obtain rfl : ob2 = ob := by
    rw [hg] at hg2
    exact (Option.some.inj hg2).symm
  refine ⟨"tuple", "tuple.count", PySem.F.plainAttrs_tuple, PySem.F.slot_tuple_count, PySem.F.type_tuple_count, ⟨_, hg, hc⟩, fun a ea => by cases ea; exact ⟨_, hg, hdn⟩, ?_⟩
  have hA := ha.run cpos pins t σ H1 _ J q
  rw [hs] at hA ⊢
  refine Calls.callWith_builtin (by show (false || (backTo cpos (starEach [] X.env)).any (·.1)) = false; rw [hplain] <;> rfl) (Calls.evalArgs_plain ?_)
  refine thn hA fun us t2 ⟨vs, H2, J2, r2, c, e1, h2, q2⟩ => ?_
  subst e1
  exact mt_tcount pins t2 σ H2 (.ref p) [.bl c] (.ref p) us Q J2 rfl r2 ⟨p, bs, c, rfl, rfl, .inl (.inr ⟨_, h2⟩), q2⟩
/-! ### own classes: x in o, C(a, *b), C(*b), defs with *b, C.m(a) -/
section
variable {X : Cx} {CX : CXT} {k : Nat} {f C : Addr} {fd : FuncData} {ps : List Str} {sp : Sp} {E : XK}
def rInOwn (C : Addr) (sp : Sp) (E : XK) (g : Bool → Bool) : R2 := fun x y H Q => IsC C H y ∧ sp [y, x] H (fun z H' => ∃ b, z = .bl b ∧ Q (.bl (g b)) H') E
theorem contains_own {pins : List (Addr × Obj)} {σ : L2.St} {H : Hp} {s : Shared} {x : V} {v : Value} {a dx : Addr} {fs : List (Str × V)} {Q : Bool → Hp → Prop} (hs : PySem.W.findIn X.K (.ref C) "__contains__" = some (some (.ref f))) (hf : PySem.W.isFn X.K (.ref f) = true)
    (F : FnOk X.prog X.w X.K X.mg X.base CX k f fd ps sp) (hr : Room k X.A) (hb : Binds X.K fd ps []) (hx : Passes CX X E) (I : Inv X pins σ H s) (ha : H a = some (.ins C dx fs)) (rx : RelV x v) (h : sp [.ref a, x] H (fun z H' => ∃ b, z = .bl b ∧ Q b H') E) :
    wpAny (model X.prog X.w) X.A (contains (.ref a) v) (TP X pins σ Q) X.xe s := by
  obtain ⟨oa, J⟩ := inst_of I ha
  unfold contains
  refine wpAny_holding (wpAny_bind (wpAny_bind (J.type.here ((PySem.W.looks_findIn I.kIn hs).here ?_))))
  rw [if_neg (by simp)]
  refine wpAny_bind (PySem.W.unlessNone_K I.kIn J hs hf (wpAny_mono (run_fn (us := [.ref a, v]) (vs := [.ref a, x]) F hr hb .nil hx I (.cons rfl (.cons rx .nil)) (show sp ([V.ref a, x] ++ []) H (fun z H' => ∃ b, z = .bl b ∧ Q b H') E from h)) (fun w t z => ?_) fun _ _ z => z))
  obtain ⟨z', H', I', rz, b, rfl, q⟩ := z
  exact tru_ok pins t σ H' (.bl b) w Q I' rz ⟨b, rfl, q⟩
theorem op_inOwn (hs : PySem.W.findIn X.K (.ref C) "__contains__" = some (some (.ref f))) (hf : PySem.W.isFn X.K (.ref f) = true) (F : FnOk X.prog X.w X.K X.mg X.base CX k f fd ps sp) (hr : Room k X.A) (hb : Binds X.K fd ps []) (hx : Passes CX X E) :
    OpR X (compareOp .In) (rInOwn C sp E id) := by
  intro pins s σ H x y v u Q I rx ry h
  obtain ⟨⟨a, dx, fs, rfl, ha⟩, q⟩ := h
  cases (show u = Value.ref a from ry)
  exact wpAny_bind (wpAny_mono (contains_own (Q := fun b H' => Q (.bl b) H') hs hf F hr hb hx I ha rx q) (fun b t ⟨H', I', q⟩ => wpAny_pure ⟨.bl b, H', I', rfl, q⟩) fun _ _ z => z)
theorem op_notInOwn (hs : PySem.W.findIn X.K (.ref C) "__contains__" = some (some (.ref f))) (hf : PySem.W.isFn X.K (.ref f) = true) (F : FnOk X.prog X.w X.K X.mg X.base CX k f fd ps sp) (hr : Room k X.A) (hb : Binds X.K fd ps []) (hx : Passes CX X E) :
    OpR X (compareOp .NotIn) (rInOwn C sp E not) := by
  intro pins s σ H x y v u Q I rx ry h
  obtain ⟨⟨a, dx, fs, rfl, ha⟩, q⟩ := h
  cases (show u = Value.ref a from ry)
  exact wpAny_bind (wpAny_mono (contains_own (Q := fun b H' => Q (.bl (!b)) H') hs hf F hr hb hx I ha rx q) (fun b t ⟨H', I', q⟩ => wpAny_pure ⟨.bl (!b), H', I', rfl, q⟩) fun _ _ z => z)
open StX in
/-- C(a, .., *b) -/
theorem pe_makeS2 {x : Str} {e : Expr} {es : List Expr} {t : TA} {p pos : Pos} (M : Mk X.K C f) (F : FnR X.prog X.w X.K X.mg X.base CX k f sp) (hr : Room (k + 1) X.A) (hg : Gl X x) (hm : X.mg x = some (.ref C)) (hx : Passes CX X E) (ha : PA X (e :: es) t) (hdb : (x == ("__debug__" : Str)) = false := by decide)
    (he : starEach (e :: es) X.env = (false, eval e X.env) :: starEach es X.env := by rfl) (hst : (backTo pos (starEach es X.env)).any (·.1) = true := by rfl) : PE X (.Call (.Name x p) (e :: es) [] pos) (tMakeR C sp E t) := by
  constructor
  intro pins s σ H Q I h
  exact wpAny_Call_Name_kw (ld_glob I hg hm (PySem.W.callWith_S2 (h₀ := X.base) I.ok.mod.kin M.kp (thn (ha.run pos pins s σ H _ I h) fun us t ⟨vs, H1, I1, r, q⟩ => ⟨I1.kIn, run_makeR M F hr hx I1 r q⟩) he hst) hdb)
open StX in
/-- C(*b) -/
theorem pe_makeS1 {x : Str} {e : Expr} {te : TE} {p sp_ pos : Pos} (M : Mk X.K C f) (F : FnR X.prog X.w X.K X.mg X.base CX k f sp) (hr : Room (k + 1) X.A) (hg : Gl X x) (hm : X.mg x = some (.ref C)) (hx : Passes CX X E) (he : PE X e te) (hdb : (x == ("__debug__" : Str)) = false := by decide)
    (hst : starEach [.Starred e sp_] X.env = [(true, eval e X.env)] := by rfl) :
    PE X (.Call (.Name x p) [.Starred e sp_] [] pos) (fun σ H Q => te σ H fun y H1 => ∃ a xs, y = V.ref a ∧ (SqT X.K H1 a xs ∨ SqL X.K H1 a xs) ∧ ∀ x dx, H1 x = none → H1 dx = none → dx ≠ x → sp (V.ref x :: xs) (upd (upd H1 dx (.own x)) x (.ins C dx [])) (fun v H2 => v = .non ∧ Q (.ref x) H2) E) := by
  constructor
  intro pins s σ H Q I h
  refine wpAny_Call_Name_kw (ld_glob I hg hm (PySem.W.callWith_S (h₀ := X.base) I.ok.mod.kin M.kp (thn (he.run pins s σ H _ I h) fun v t ⟨y, H1, I1, ry, a, xs, ey, hxs, q⟩ => ?_) hst) hdb)
  subst ey
  obtain rfl : v = Value.ref a := ry
  exact star_any I1 hxs fun us t2 I2 rv => ⟨I2.kIn, run_makeR M F hr hx I2 rv q⟩
end
/-- what a def with a star behind its parameters is asked -/
def spStar (n : Nat) (sp : Sp) : Sp := fun vs H Q E => ∃ ws rest, vs = ws ++ rest ∧ ws.length = n ∧ rest.length ≤ sizeLine ∧ ∀ p, H p = none → sp (ws ++ [V.ref p]) (upd H p (.tup rest)) Q E
theorem Fun.okStar {P : Program} {w : World} {K : PySem.W.Frag} {mg : Str → Option Value} {base : Heap} {x qual : Str} {st : Stmt} {f : Addr} {fd : FuncData} {N ps : List Str} {pv : Str} {k : Nat} {sp : Sp} (F : Fun K x qual st f fd) (S : FnScope N (ps ++ [pv]) (defScope st))
    (hb : ∀ (kV doc pm : Value) (an : Option Addr) (cdv ct : Value) (us rest : List Value), us.length = ps.length → bindArgs (PySem.W.fnOf x qual (defArgs st) (defBody st) (defScope st) .none kV doc pm an cdv ct) ⟨us ++ rest, []⟩ = (newTuple rest >>= fun t => pure (ps.zip us ++ [(pv, t)])))
    (hbody : ∀ (cdv : Value) (A : Around) (outer : List Env) (s : Shared) (H : Hp) (vs : List V) (Q : VK) (E : XK), Room k (A.deeper (envOfC qual (defScope st) s.heap.objs.size f cdv)) → sp vs H Q E →
      ∃ t, PSs (cxOf (L2.CX P w) P w K mg base N qual (defScope st) f cdv A outer s H E) (defBody st) t ∧ t { nx := fun _ H' => Q .non H', rt := Q } (start N vs) H) : FnR P w K mg base (L2.CX P w) (k + 1) f (spStar ps.length sp) := by
  obtain ⟨oc, od, kV, doc, pm, an, cdv, ct, osl, rfl, lk, hcd⟩ := F.ex
  exact StX.fn_star lk hcd S StX.cxUp (hb kV doc pm an cdv ct) fun A outer s H vs Q E hr h => hbody cdv A outer s H vs Q E hr h
/-! ### families: the mathematics -/
/-- m without its bit c -/
def cl (m c : Nat) : Nat := m - (m &&& 1 <<< c)
theorem and_one (m c : Nat) : m &&& 1 <<< c = if m.testBit c then 1 <<< c else 0 := by
  refine Nat.eq_of_testBit_eq fun d => ?_
  rw [Nat.testBit_and, one_bit]
  by_cases e : c = d
  · subst e
    cases h : m.testBit c with
    | true => simp [one_bit]
    | false => simp
  · rw [decide_eq_false e, Bool.and_false]
    split
    · rw [one_bit, decide_eq_false e]
    · simp
theorem cl_le (m c : Nat) : cl m c ≤ m := Nat.sub_le _ _
theorem cl_bit8 : ∀ m : Nat, m < 256 → ∀ c : Nat, c < 8 → ∀ i : Nat, i < 8 → (cl m c).testBit i = (m.testBit i && !decide (i = c)) := by decide +kernel
theorem bit_big {m i : Nat} (h : m < 256) (hi : 8 ≤ i) : m.testBit i = false := Nat.testBit_lt_two_pow (Nat.lt_of_lt_of_le h (Nat.pow_le_pow_right (by decide) hi : 2 ^ 8 ≤ 2 ^ i))
theorem cl_bit {m c : Nat} (h : m < 256) (hc : c < 8) (i : Nat) : (cl m c).testBit i = (m.testBit i && !decide (i = c)) := by
  rcases Nat.lt_or_ge i 8 with k | k
  · exact cl_bit8 m h c hc i k
  · rw [bit_big (Nat.lt_of_le_of_lt (cl_le m c) h) k, bit_big h k] <;> rfl
/-- k is within m -/
def Sub (k m : Nat) : Prop := ∀ i, k.testBit i = true → m.testBit i = true
def subB (k m : Nat) : Bool := k &&& m == k
theorem subB_iff {k m : Nat} : subB k m = true ↔ Sub k m := by
  unfold subB Sub
  rw [beq_iff_eq]
  constructor
  · intro e i h
    rw [← e, Nat.testBit_and] at h
    exact (Bool.and_eq_true_iff.mp h).2
  · intro h
    refine Nat.eq_of_testBit_eq fun i => ?_
    rw [Nat.testBit_and]
    cases e : k.testBit i with
    | true => rw [h i e] <;> rfl
    | false => rfl
theorem Sub.refl (k : Nat) : Sub k k := fun _ h => h
theorem Sub.trans {a b c : Nat} (h : Sub a b) (k : Sub b c) : Sub a c := fun i x => k i (h i x)
theorem Sub.le {k m : Nat} (h : Sub k m) : k ≤ m := by
  have e := subB_iff.mpr h
  unfold subB at e
  rw [beq_iff_eq] at e
  rw [← e]
  exact Nat.and_le_right
theorem sub_cl {m c : Nat} (h : m < 256) (hc : c < 8) : Sub (cl m c) m := fun i x => by
  rw [cl_bit h hc] at x
  exact (Bool.and_eq_true_iff.mp x).1
theorem sub_zero {k : Nat} (h : Sub k 0) : k = 0 := Nat.eq_of_testBit_eq fun i => by
  cases e : k.testBit i with
  | true =>
    have := h i e
    simp at this
  | false => simp
theorem sub_top {n k : Nat} (h : k < 2 ^ n) : Sub k (2 ^ n - 1) := fun i x => by
  rw [Nat.testBit_two_pow_sub_one, decide_eq_true_eq]
  rcases Nat.lt_or_ge i n with z | z
  · exact z
  · rw [Nat.testBit_lt_two_pow (Nat.lt_of_lt_of_le h (Nat.pow_le_pow_right (by decide) z))] at x
    cases x
def upB (ms : List Nat) (m : Nat) : Bool := ms.any fun k => subB k m
theorem upB_iff {ms : List Nat} {m : Nat} : upB ms m = true ↔ ∃ k ∈ ms, Sub k m := by
  unfold upB
  rw [List.any_eq_true]
  exact ⟨fun ⟨k, h, e⟩ => ⟨k, h, subB_iff.mp e⟩, fun ⟨k, h, e⟩ => ⟨k, h, subB_iff.mpr e⟩⟩
/-- growing copy by copy -/
def growN : Nat → (Nat → Bool) → Nat → Bool
  | 0, f => f
  | c + 1, f => fun m => growN c f m || growN c f (cl m c)
theorem growN_iff {f : Nat → Bool} : ∀ {c : Nat}, c ≤ 8 → ∀ {m : Nat}, m < 256 → (growN c f m = true ↔ ∃ k, f k = true ∧ Sub k m ∧ ∀ i, c ≤ i → k.testBit i = m.testBit i)
  | 0, _, m, _ => ⟨fun h => ⟨m, h, Sub.refl m, fun _ _ => rfl⟩, fun ⟨k, h, _, e⟩ => by
    have : k = m := Nat.eq_of_testBit_eq fun i => e i (Nat.zero_le i)
    rw [← this]
    exact h⟩
  | c + 1, hc, m, hm => by
    have hm2 := Nat.lt_of_le_of_lt (cl_le m c) hm
    have ih1 := @growN_iff f c (by omega) m hm
    have ih2 := @growN_iff f c (by omega) (cl m c) hm2
    show (growN c f m || growN c f (cl m c)) = true ↔ _
    rw [Bool.or_eq_true, ih1, ih2]
    constructor
    · rintro (⟨k, h, s, e⟩ | ⟨k, h, s, e⟩)
      · exact ⟨k, h, s, fun i hi => e i (by omega)⟩
      · refine ⟨k, h, s.trans (sub_cl hm (by omega)), fun i hi => ?_⟩
        rw [e i (by omega), cl_bit hm (by omega), decide_eq_false (by omega : ¬ i = c)]
        simp
    · rintro ⟨k, h, s, e⟩
      by_cases hb : k.testBit c = m.testBit c
      · refine .inl ⟨k, h, s, fun i hi => ?_⟩
        rcases Nat.eq_or_lt_of_le hi with rfl | hi
        · exact hb
        · exact e i hi
      · have kf : k.testBit c = false := by
          cases q : k.testBit c with
          | true => exact absurd (by rw [q, s c q]) hb
          | false => rfl
        refine .inr ⟨k, h, fun i x => ?_, fun i hi => ?_⟩
        · rw [cl_bit hm (by omega), s i x]
          by_cases z : i = c
          · rw [z, kf] at x
            cases x
          · simp [z]
        · rw [cl_bit hm (by omega)]
          by_cases z : i = c
          · rw [z, kf]
            simp
          · rw [e i (by omega)]
            simp [z]
theorem growN_up {n m : Nat} {ms : List Nat} (hn : n ≤ 8) (hm : m < 2 ^ n) (hk : ∀ k ∈ ms, k < 2 ^ n) : growN n (fun m => decide (m ∈ ms)) m = upB ms m := by
  have h256 : m < 256 := Nat.lt_of_lt_of_le hm (pow_le8 hn)
  have h1 := @growN_iff (fun m => decide (m ∈ ms)) n hn m h256
  rw [Bool.eq_iff_iff, h1, upB_iff]
  constructor
  · rintro ⟨k, h, s, _⟩
    exact ⟨k, of_decide_eq_true h, s⟩
  · rintro ⟨k, h, s⟩
    refine ⟨k, decide_eq_true h, s, fun i hi => ?_⟩
    rw [Nat.testBit_lt_two_pow (Nat.lt_of_lt_of_le (hk k h) (Nat.pow_le_pow_right (by decide) hi)), Nat.testBit_lt_two_pow (Nat.lt_of_lt_of_le hm (Nat.pow_le_pow_right (by decide) hi))]
/-- a family of n copies: which masks it has -/
structure Fm (n : Nat) (f : Nat → Bool) : Prop where
  n1 : 1 ≤ n
  n8 : n ≤ 8
  up : ∀ k m, Sub k m → m < 2 ^ n → f k = true → f m = true
  top : f (2 ^ n - 1) = true
  bot : f 0 = false
theorem fm_upB {n : Nat} {ms : List Nat} (n1 : 1 ≤ n) (n8 : n ≤ 8) (hne : ms ≠ []) (h : ∀ k ∈ ms, k < 2 ^ n ∧ k ≠ 0) : Fm n (upB ms) := by
  refine ⟨n1, n8, fun k m s _ e => ?_, ?_, ?_⟩
  · obtain ⟨j, hj, t⟩ := upB_iff.mp e
    exact upB_iff.mpr ⟨j, hj, t.trans s⟩
  · obtain ⟨k, r, rfl⟩ := List.exists_cons_of_ne_nil hne
    exact upB_iff.mpr ⟨k, List.mem_cons_self, sub_top (h k List.mem_cons_self).1⟩
  · cases e : upB ms 0 with
    | false => rfl
    | true =>
      obtain ⟨k, hk, s⟩ := upB_iff.mp e
      exact absurd (sub_zero s) (h k hk).2
def minB (n : Nat) (f : Nat → Bool) (m : Nat) : Bool := f m && !((List.range n).any fun c => m.testBit c && f (m - 1 <<< c))
def minL (n : Nat) (f : Nat → Bool) : List Nat := (List.range (2 ^ n)).filter (minB n f)
theorem cl_sub {m c : Nat} (h : m.testBit c = true) : m - 1 <<< c = cl m c := by
  unfold cl
  rw [and_one, h] <;> rfl
theorem cl_lt {m c : Nat} (h : m.testBit c = true) : cl m c < m := by
  rw [← cl_sub h]
  have : 0 < 1 <<< c := by rw [Nat.one_shiftLeft]; exact Nat.two_pow_pos c
  have hm : 0 < m := by
    rcases Nat.eq_zero_or_pos m with z | z
    · subst z
      simp at h
    · exact z
  omega
theorem min_below {n : Nat} {f : Nat → Bool} (hn : n ≤ 8) : ∀ {m : Nat}, m < 2 ^ n → f m = true → ∃ k, k < 2 ^ n ∧ minB n f k = true ∧ Sub k m := by
  intro m
  induction m using Nat.strongRecOn with
  | ind m ih =>
    intro hm h
    cases e : (List.range n).any (fun c => m.testBit c && f (m - 1 <<< c)) with
    | false => exact ⟨m, hm, by unfold minB; rw [h, e] <;> rfl, Sub.refl m⟩
    | true =>
      obtain ⟨c, hc, x⟩ := List.any_eq_true.mp e
      obtain ⟨x1, x2⟩ := Bool.and_eq_true_iff.mp x
      have hc8 : c < 8 := Nat.lt_of_lt_of_le (List.mem_range.mp hc) hn
      have hm256 : m < 256 := Nat.lt_of_lt_of_le hm (pow_le8 hn)
      rw [cl_sub x1] at x2
      have lt := cl_lt x1
      obtain ⟨k, h1, h2, h3⟩ := ih (cl m c) lt (Nat.lt_trans lt hm) x2
      exact ⟨k, h1, h2, h3.trans (sub_cl hm256 hc8)⟩
theorem fm_min {n : Nat} {f : Nat → Bool} (F : Fm n f) {m : Nat} (hm : m < 2 ^ n) : upB (minL n f) m = f m := by
  rw [Bool.eq_iff_iff, upB_iff]
  constructor
  · rintro ⟨k, hk, s⟩
    refine F.up k m s hm ?_
    have := (List.mem_filter.mp hk).2
    unfold minB at this
    exact (Bool.and_eq_true_iff.mp this).1
  · intro h
    obtain ⟨k, h1, h2, h3⟩ := min_below F.n8 hm h
    exact ⟨k, List.mem_filter.mpr ⟨List.mem_range.mpr h1, h2⟩, h3⟩
theorem minB_congr {n : Nat} {f g : Nat → Bool} (h : ∀ m, m < 2 ^ n → f m = g m) {m : Nat} (hm : m < 2 ^ n) : minB n f m = minB n g m := by
  unfold minB
  rw [h m hm]
  congr 2
  refine congrArg (List.any (List.range n)) (funext fun c => ?_)
  rw [h _ (Nat.lt_of_le_of_lt (Nat.sub_le _ _) hm)]
theorem minL_congr {n : Nat} {f g : Nat → Bool} (h : ∀ m, m < 2 ^ n → f m = g m) : minL n f = minL n g := by
  unfold minL
  refine List.filter_congr fun m hm => minB_congr h (List.mem_range.mp hm)
theorem minL_inj {n : Nat} {f g : Nat → Bool} (F : Fm n f) (G : Fm n g) (h : minL n f = minL n g) {m : Nat} (hm : m < 2 ^ n) : f m = g m := by
  rw [← fm_min F hm, ← fm_min G hm, h]
theorem minL_lt {n : Nat} {f : Nat → Bool} {m : Nat} (h : m ∈ minL n f) : m < 2 ^ n := List.mem_range.mp (List.mem_filter.mp h).1
theorem minL_f {n : Nat} {f : Nat → Bool} {m : Nat} (h : m ∈ minL n f) : f m = true := by
  have := (List.mem_filter.mp h).2
  unfold minB at this
  exact (Bool.and_eq_true_iff.mp this).1
theorem minL_ne {n : Nat} {f : Nat → Bool} (F : Fm n f) : minL n f ≠ [] := by
  have hp : 2 ^ n - 1 < 2 ^ n := Nat.sub_lt (Nat.two_pow_pos n) Nat.one_pos
  obtain ⟨k, h1, h2, _⟩ := min_below F.n8 hp F.top
  exact List.ne_nil_of_mem (List.mem_filter.mpr ⟨List.mem_range.mpr h1, h2⟩)
/-- families that agree -/
def eqB (n : Nat) (f g : Nat → Bool) : Bool := (List.range (2 ^ n)).all fun m => f m == g m
theorem eqB_iff {n : Nat} {f g : Nat → Bool} : eqB n f g = true ↔ ∀ m, m < 2 ^ n → f m = g m := by
  unfold eqB
  rw [List.all_eq_true]
  exact ⟨fun h m hm => beq_iff_eq.mp (h m (List.mem_range.mpr hm)), fun h m hm => beq_iff_eq.mpr (h m (List.mem_range.mp hm))⟩
theorem minL_eq {n : Nat} {f g : Nat → Bool} (F : Fm n f) (G : Fm n g) : decide (minL n f = minL n g) = eqB n f g := by
  rw [Bool.eq_iff_iff, decide_eq_true_eq, eqB_iff]
  exact ⟨fun h m hm => minL_inj F G h hm, minL_congr⟩
def leB (n : Nat) (f g : Nat → Bool) : Bool := (List.range (2 ^ n)).all fun m => g m || !f m
theorem leB_iff {n : Nat} {f g : Nat → Bool} : leB n f g = true ↔ ∀ m, m < 2 ^ n → f m = true → g m = true := by
  unfold leB
  rw [List.all_eq_true]
  refine ⟨fun h m hm hf => ?_, fun h m hm => ?_⟩
  · have := h m (List.mem_range.mpr hm)
    rw [hf] at this
    simpa using this
  · cases e : f m with
    | true => rw [h m (List.mem_range.mp hm) e] <;> rfl
    | false => simp
/-- the mask of the others -/
def oth (n m : Nat) : Nat := 2 ^ n - 1 - m
theorem oth_lt {n m : Nat} : oth n m < 2 ^ n := by
  unfold oth
  have := Nat.two_pow_pos n
  omega
theorem oth_oth {n m : Nat} (h : m < 2 ^ n) : oth n (oth n m) = m := by
  unfold oth
  omega
theorem oth_bit {n m : Nat} (h : m < 2 ^ n) (c : Nat) : (oth n m).testBit c = (decide (c < n) && !m.testBit c) := other_bit h c
theorem oth_sub {n k m : Nat} (hk : k < 2 ^ n) (hm : m < 2 ^ n) (h : Sub k m) : Sub (oth n m) (oth n k) := fun i x => by
  rw [oth_bit hm] at x
  rw [oth_bit hk]
  obtain ⟨x1, x2⟩ := Bool.and_eq_true_iff.mp x
  rw [x1]
  cases e : k.testBit i with
  | true => rw [h i e] at x2; cases x2
  | false => rfl
theorem oth_top {n : Nat} : oth n (2 ^ n - 1) = 0 := by
  unfold oth
  omega
theorem oth_zero {n : Nat} : oth n 0 = 2 ^ n - 1 := by
  unfold oth
  omega
def dualB (n : Nat) (f : Nat → Bool) (m : Nat) : Bool := !f (oth n m)
theorem Fm.dual {n : Nat} {f : Nat → Bool} (F : Fm n f) : Fm n (dualB n f) := by
  have h0 := Nat.two_pow_pos n
  refine ⟨F.n1, F.n8, fun k m s hm h => ?_, ?_, ?_⟩
  · have hk : k < 2 ^ n := Nat.lt_of_le_of_lt s.le hm
    unfold dualB at h ⊢
    cases e : f (oth n m) with
    | false => rfl
    | true =>
      rw [F.up _ _ (oth_sub hk hm s) oth_lt e] at h
      cases h
  · unfold dualB
    rw [oth_top, F.bot] <;> rfl
  · unfold dualB
    rw [oth_zero, F.top] <;> rfl
theorem Fm.or {n : Nat} {f g : Nat → Bool} (F : Fm n f) (G : Fm n g) : Fm n (fun m => f m || g m) := by
  refine ⟨F.n1, F.n8, fun k m s hm h => ?_, ?_, ?_⟩
  · rw [Bool.or_eq_true] at h ⊢
    exact h.imp (F.up k m s hm) (G.up k m s hm)
  · simp only [F.top, Bool.true_or]
  · simp only [F.bot, G.bot, Bool.or_false]
theorem Fm.and {n : Nat} {f g : Nat → Bool} (F : Fm n f) (G : Fm n g) : Fm n (fun m => f m && g m) := by
  refine ⟨F.n1, F.n8, fun k m s hm h => ?_, ?_, ?_⟩
  · rw [Bool.and_eq_true] at h ⊢
    exact ⟨F.up k m s hm h.1, G.up k m s hm h.2⟩
  · simp only [F.top, G.top, Bool.and_true]
  · simp only [F.bot, Bool.false_and]
/-- each lot of the one meets each of the other -/
def meetB (n : Nat) (f g : Nat → Bool) : Bool := !((List.range (2 ^ n)).any fun m => f m && g (oth n m))
theorem meetB_iff {n : Nat} {f g : Nat → Bool} : meetB n f g = true ↔ ∀ m, m < 2 ^ n → f m = true → g (oth n m) = false := by
  unfold meetB
  rw [Bool.not_eq_true', List.any_eq_false]
  refine ⟨fun h m hm hf => ?_, fun h m hm => ?_⟩
  · have := h m (List.mem_range.mpr hm)
    rw [hf] at this
    simpa using this
  · intro z
    obtain ⟨z1, z2⟩ := Bool.and_eq_true_iff.mp z
    rw [h m (List.mem_range.mp hm) z1] at z2
    cases z2
def sizeF (n : Nat) (f : Nat → Bool) : Nat := ((List.range (2 ^ n)).map f).count true
theorem dd {n m : Nat} {f : Nat → Bool} (h : m < 2 ^ n) : dualB n (dualB n f) m = f m := by
  unfold dualB
  rw [oth_oth h, Bool.not_not]
theorem eqB_of {n : Nat} {f g : Nat → Bool} (h : ∀ m, m < 2 ^ n → f m = g m) : eqB n f g = true := eqB_iff.mpr h
theorem eqB_refl (n : Nat) (f : Nat → Bool) : eqB n f f = true := eqB_of fun _ _ => rfl
theorem eqB_symm (n : Nat) (f g : Nat → Bool) : eqB n f g = eqB n g f := by
  rw [Bool.eq_iff_iff, eqB_iff, eqB_iff]
  exact ⟨fun h m hm => (h m hm).symm, fun h m hm => (h m hm).symm⟩
theorem meet_le (n : Nat) (f g : Nat → Bool) : meetB n f g = leB n f (dualB n g) := by
  rw [Bool.eq_iff_iff, meetB_iff, leB_iff]
  unfold dualB
  exact ⟨fun h m hm hf => by rw [h m hm hf] <;> rfl, fun h m hm hf => by simpa using h m hm hf⟩
theorem le_dual (n : Nat) (f g : Nat → Bool) : leB n (dualB n g) (dualB n f) = leB n f g := by
  rw [Bool.eq_iff_iff, leB_iff, leB_iff]
  unfold dualB
  constructor
  · intro h m hm hf
    cases e : g m with
    | true => rfl
    | false =>
      have := h (oth n m) oth_lt (by rw [oth_oth hm, e] <;> rfl)
      rw [oth_oth hm, hf] at this
      cases this
  · intro h m hm hg
    cases e : f (oth n m) with
    | false => rfl
    | true =>
      rw [h _ oth_lt e] at hg
      cases hg
theorem leB_congr {n : Nat} {f f' g g' : Nat → Bool} (h : ∀ m, m < 2 ^ n → f m = f' m) (k : ∀ m, m < 2 ^ n → g m = g' m) : leB n f g = leB n f' g' := by
  rw [Bool.eq_iff_iff, leB_iff, leB_iff]
  exact ⟨fun z m hm x => by rw [← k m hm]; exact z m hm (by rw [h m hm]; exact x), fun z m hm x => by rw [k m hm]; exact z m hm (by rw [← h m hm]; exact x)⟩
theorem meet_le2 (n : Nat) (f g : Nat → Bool) : meetB n f g = leB n g (dualB n f) := by
  rw [meet_le, ← le_dual, leB_congr (fun m hm => dd hm) fun _ _ => rfl]
theorem meet_comm (n : Nat) (f g : Nat → Bool) : meetB n f g = meetB n g f := by rw [meet_le, meet_le2]
theorem meet_dual (n : Nat) (f : Nat → Bool) : meetB n f (dualB n f) = true := by
  rw [meet_le, leB_iff]
  intro m hm h
  rw [dd hm, h]
theorem sizeF_eq (n : Nat) (f : Nat → Bool) : sizeF n f = (List.range (2 ^ n)).countP f := by
  unfold sizeF
  rw [List.count_eq_countP, List.countP_map]
  congr 1
  funext m
  cases h : f m <;> simp [h]
theorem size_dual (n : Nat) (f : Nat → Bool) : sizeF n f + sizeF n (dualB n f) = 2 ^ n := by
  rw [sizeF_eq, sizeF_eq]
  have e : (List.range (2 ^ n)).countP (dualB n f) = (List.range (2 ^ n)).countP (fun m => !f m) := by
    have h : (List.range (2 ^ n)).map (fun k => 2 ^ n - 1 - k) = (List.range (2 ^ n)).reverse := PySem.W.krv_range (2 ^ n)
    have h2 : ((List.range (2 ^ n)).map (fun k => 2 ^ n - 1 - k)).countP (fun m => !f m) = (List.range (2 ^ n)).countP (dualB n f) := by
      rw [List.countP_map]
      rfl
    rw [← h2, h, List.countP_reverse]
  rw [e]
  have := List.length_eq_countP_add_countP f (l := List.range (2 ^ n))
  rw [List.length_range] at this
  have e2 : (fun a => decide ¬f a = true) = fun m => !f m := funext fun m => by cases f m <;> rfl
  rw [e2] at this
  exact this.symm
theorem meet_mono {n : Nat} {f g : Nat → Bool} (h : meetB n f f = true) (k : leB n g f = true) : meetB n g g = true := by
  rw [meetB_iff] at h ⊢
  rw [leB_iff] at k
  intro m hm hg
  cases e : g (oth n m) with
  | false => rfl
  | true =>
    have z := k _ oth_lt e
    rw [h m hm (k m hm hg)] at z
    cases z
theorem dual_or (n : Nat) (f g : Nat → Bool) : dualB n (fun m => f m || g m) = fun m => dualB n f m && dualB n g m := by
  funext m
  unfold dualB
  rw [Bool.not_or]
theorem dual_and (n : Nat) (f g : Nat → Bool) : dualB n (fun m => f m && g m) = fun m => dualB n f m || dualB n g m := by
  funext m
  unfold dualB
  rw [Bool.not_and]
/-! ### families: the objects -/
def marksV (n : Nat) (f : Nat → Bool) : List V := ((List.range (2 ^ n)).map f).map V.bl
theorem marksV_len (n : Nat) (f : Nat → Bool) : (marksV n f).length = 2 ^ n := by
  unfold marksV
  rw [List.length_map, List.length_map, List.length_range]
theorem marksV_at {n m : Nat} (f : Nat → Bool) (h : m < 2 ^ n) : (marksV n f)[m]? = some (.bl (f m)) := by
  unfold marksV
  rw [List.getElem?_map, List.getElem?_map, List.getElem?_range h] <;> rfl
theorem marksV_get {n m : Nat} {f : Nat → Bool} {x : V} (h : (marksV n f)[m]? = some x) : m < 2 ^ n ∧ x = .bl (f m) := by
  have hm : m < 2 ^ n := by
    rw [← marksV_len n f]
    exact (List.getElem?_eq_some_iff.mp h).1
  rw [marksV_at f hm] at h
  exact ⟨hm, (Option.some.inj h).symm⟩
theorem marksV_congr {n : Nat} {f g : Nat → Bool} (h : ∀ m, m < 2 ^ n → f m = g m) : marksV n f = marksV n g := by
  unfold marksV
  rw [List.map_congr_left fun m hm => h m (List.mem_range.mp hm)]
theorem marksV_fn {n : Nat} {f : Nat → Bool} {ys : List V} (h : ys = (List.range (2 ^ n)).map fun m => V.bl (f m)) : ys = marksV n f := by
  rw [h]
  unfold marksV
  rw [List.map_map]
  rfl
theorem ixN_nat {N m : Nat} (h : m < N) : ixN N (m : Int) = some m := by
  unfold ixN
  rw [if_pos (by omega), if_pos (by omega), Int.toNat_natCast]
theorem marksV_set {n m : Nat} (f : Nat → Bool) (h : m < 2 ^ n) : (marksV n f).set m (.bl true) = marksV n (fun k => if k = m then true else f k) := by
  refine List.ext_getElem? fun i => ?_
  rw [List.getElem?_set]
  by_cases e : m = i
  · subst e
    rw [if_pos rfl, marksV_len, if_pos h, marksV_at _ h, if_pos rfl]
  · rw [if_neg e]
    unfold marksV
    rw [List.getElem?_map, List.getElem?_map, List.getElem?_map, List.getElem?_map]
    cases hi : (List.range (2 ^ n))[i]? with
    | none => rfl
    | some j =>
      have : j = i := by
        have h2 := (List.getElem?_eq_some_iff.mp hi)
        obtain ⟨h3, h4⟩ := h2
        rw [List.getElem_range] at h4
        exact h4.symm
      subst this
      show some (V.bl (f j)) = some (V.bl (if j = m then true else f j))
      rw [if_neg (Ne.symm e)]
theorem and_not (m c : Nat) : Builtin.bitAnd (m : Int) (Builtin.bitNot ((1 : Int) * (2 : Int) ^ ((c : Int)).toNat)) = ((cl m c : Nat) : Int) := by
  rw [PyProof.Rows.bitAnd_not, shl_nat, bitAnd_nat]
  unfold cl
  have : m &&& 1 <<< c ≤ m := Nat.and_le_left
  omega
theorem any_fm {p g : Nat → Bool} : ∀ (l : List Nat), (l.filterMap fun c => if p c = true then some (g c) else none).any id = l.any fun c => p c && g c
  | [] => rfl
  | c :: r => by
    rw [List.filterMap_cons, List.any_cons, ← any_fm r]
    cases p c with
    | true => simp
    | false => simp
/-- what stands but for the instance at a -/
theorem seqT_exc {K : PySem.W.Frag} {H H' : Hp} {a b C dx : Addr} {fs : List (Str × V)} {xs : List V} (ha : H a = some (.ins C dx fs)) (e : Exc a H H') (h : SqT K H b xs) : SqT K H' b xs := by
  rcases h with (h | ⟨o, h⟩) | h
  · exact .inl (.inl (e b _ (fun z => by rw [z, ha] at h; cases h) h))
  · exact .inl (.inr ⟨o, e b _ (fun z => by rw [z, ha] at h; cases h) h⟩)
  · exact .inr h
theorem seqL_exc {K : PySem.W.Frag} {H H' : Hp} {a b C dx : Addr} {fs : List (Str × V)} {xs : List V} (ha : H a = some (.ins C dx fs)) (e : Exc a H H') (h : SqL K H b xs) : SqL K H' b xs := by
  rcases h with (h | ⟨o, h⟩) | h
  · exact .inl (.inl (e b _ (fun z => by rw [z, ha] at h; cases h) h))
  · exact .inl (.inr ⟨o, e b _ (fun z => by rw [z, ha] at h; cases h) h⟩)
  · exact .inr h
theorem Lot.exc {K : PySem.W.Frag} {H H' : Hp} {a C dx m : Nat} {fs : List (Str × V)} {v : V} (ha : H a = some (.ins C dx fs)) (e : Exc a H H') (h : Lot K H m v) : Lot K H' m v := by
  obtain ⟨b, rfl, h⟩ := h
  exact ⟨b, rfl, seqT_exc ha e h⟩
theorem exc_at {a : Addr} {H : Hp} {o : HO} : Exc a H (upd H a o) := fun b u n h => (upd_ne n).trans h
theorem putF_le (x : Str) (v : V) : ∀ fs : List (Str × V), (putF x v fs).length ≤ fs.length + 1
  | [] => by simp [putF]
  | p :: r => by
    unfold putF
    split
    · simp
    · have := putF_le x v r
      simp
      omega
theorem few1 {x : Str} {v : V} : (putF x v []).length < 1000 := Nat.lt_of_le_of_lt (putF_le _ _ _) (by decide)
theorem few2 {x y : Str} {v u : V} : (putF x v (putF y u [])).length < 1000 := by
  have h1 := putF_le x v (putF y u [])
  have h2 := putF_le y u []
  simp at h2
  omega
theorem marksV_rev (n : Nat) (f : Nat → Bool) : (marksV n f).reverse = marksV n fun m => f (oth n m) := by
  refine List.ext_getElem? fun i => ?_
  rcases Nat.lt_or_ge i (2 ^ n) with h | h
  · rw [marksV_at _ h, List.getElem?_reverse (by rw [marksV_len]; exact h), marksV_len]
    have : 2 ^ n - 1 - i < 2 ^ n := by omega
    rw [marksV_at f this]
    rfl
  · rw [List.getElem?_eq_none (by rw [List.length_reverse, marksV_len]; exact h), List.getElem?_eq_none (by rw [marksV_len]; exact h)]
theorem fit_lotsT (l : List Nat) : Fit 2 (.tuple (l.map lotD)) := fit_tup fun d hd => by
  obtain ⟨m, _, rfl⟩ := List.mem_map.mp hd
  exact fit_lot m
theorem eqv_ints : ∀ (xs ys : List Int), PyData.eqvAll (xs.map PyData.int) (ys.map PyData.int) = decide (xs = ys)
  | [], [] => by simp [PyData.eqvAll]
  | [], _ :: _ => by simp [PyData.eqvAll]
  | _ :: _, [] => by simp [PyData.eqvAll]
  | x :: r, y :: t => by
    rw [List.map_cons, List.map_cons, PyData.eqvAll, PyData.eqv, eqv_ints r t]
    by_cases h : x = y
    · subst h
      simp
    · simp [h]
theorem lotL_inj : ∀ m : Nat, m < 256 → maskV (lotV m) = m := fun m h => mask_lotV h
theorem eqv_lot {m k : Nat} (hm : m < 256) (hk : k < 256) : PyData.eqv (lotD m) (lotD k) = decide (m = k) := by
  unfold lotD
  rw [PyData.eqv, eqv_ints]
  by_cases e : m = k
  · subst e
    simp
  · rw [decide_eq_false e, decide_eq_false fun z => e (by rw [← mask_lotV hm, ← mask_lotV hk]; unfold lotV; rw [z])]
theorem eqv_lotsA : ∀ {xs ys : List Nat}, (∀ m ∈ xs, m < 256) → (∀ m ∈ ys, m < 256) → PyData.eqvAll (xs.map lotD) (ys.map lotD) = decide (xs = ys)
  | [], [], _, _ => by simp [PyData.eqvAll]
  | [], _ :: _, _, _ => by simp [PyData.eqvAll]
  | _ :: _, [], _, _ => by simp [PyData.eqvAll]
  | x :: r, y :: t, h1, h2 => by
    rw [List.map_cons, List.map_cons, PyData.eqvAll, eqv_lot (h1 x List.mem_cons_self) (h2 y List.mem_cons_self), eqv_lotsA (fun m hm => h1 m (List.mem_cons_of_mem _ hm)) fun m hm => h2 m (List.mem_cons_of_mem _ hm)]
    by_cases h : x = y
    · subst h
      simp
    · simp [h]
theorem eqv_lots {xs ys : List Nat} (h1 : ∀ m ∈ xs, m < 256) (h2 : ∀ m ∈ ys, m < 256) : PyData.eqv (.tuple (xs.map lotD)) (.tuple (ys.map lotD)) = decide (xs = ys) := by
  rw [PyData.eqv, eqv_lotsA h1 h2]
theorem cut_one (x : V) (r : List V) : cutV (x :: r) (some 1) none = r := by
  unfold cutV HT.sIx
  simp
def famF (n : Nat) (tl tm : Addr) : List (Str × V) := putF "marks" (.ref tm) (putF "lots" (.ref tl) (putF "copies" (.int n) []))
theorem ml0 : ¬ (("marks" : Str) = "lots") := by decide +kernel
theorem mc0 : ¬ (("marks" : Str) = "copies") := by decide +kernel
theorem lc0 : ¬ (("lots" : Str) = "copies") := by decide +kernel
theorem famF_marks (n : Nat) (tl tm : Addr) : (famF n tl tm).lookup ("marks" : Str) = some (.ref tm) := by
  unfold famF
  rw [lookup_putF, if_pos rfl]
theorem famF_lots (n : Nat) (tl tm : Addr) : (famF n tl tm).lookup ("lots" : Str) = some (.ref tl) := by
  unfold famF
  rw [lookup_putF, if_neg (Ne.symm ml0), lookup_putF, if_pos rfl]
theorem famF_copies (n : Nat) (tl tm : Addr) : (famF n tl tm).lookup ("copies" : Str) = some (.int n) := by
  unfold famF
  rw [lookup_putF, if_neg (Ne.symm mc0), lookup_putF, if_neg (Ne.symm lc0), lookup_putF, if_pos rfl]
theorem famF_no (n : Nat) (tl tm : Addr) {x : Str} (h1 : ¬ x = "marks") (h2 : ¬ x = "lots") (h3 : ¬ x = "copies") : (famF n tl tm).lookup x = none := by
  unfold famF
  rw [lookup_putF, if_neg h1, lookup_putF, if_neg h2, lookup_putF, if_neg h3]
  all_goals rfl
/-- v is the family of n copies that f tells -/
structure Fam (K : PySem.W.Frag) (C : Addr) (H : Hp) (v : V) (n : Nat) (f : Nat → Bool) : Prop where
  at_ : ∃ a dx tl tm ls, v = .ref a ∧ H a = some (.ins C dx (famF n tl tm)) ∧ SqT K H tl ls ∧ Paired (fun m y => Lot K H m y) (minL n f) ls ∧ ∃ ob, H tm = some (.frz ob (.tup (marksV n f))) ∧ ob.dict = none
  ok : Fm n f
theorem Fam.sameT {K : PySem.W.Frag} {C : Addr} {H H' : Hp} {v : V} {n : Nat} {f : Nat → Bool} (F : Fam K C H v n f) (e : SameT H H') : Fam K C H' v n f := by
  obtain ⟨⟨a, dx, tl, tm, ls, rfl, h1, h2, h3, ob, h4, h6⟩, h5⟩ := F
  exact ⟨⟨a, dx, tl, tm, ls, rfl, e.ins h1, e.seqT h2, prImp (fun _ _ h => h.sameT e) h3, ob, e _ _ h4 (fun _ z => nomatch z), h6⟩, h5⟩
theorem Fam.same {K : PySem.W.Frag} {C : Addr} {H H' : Hp} {v : V} {n : Nat} {f : Nat → Bool} (F : Fam K C H v n f) (e : Same H H') : Fam K C H' v n f := F.sameT (Same.toT e)
theorem Fam.isC {K : PySem.W.Frag} {C : Addr} {H : Hp} {v : V} {n : Nat} {f : Nat → Bool} (F : Fam K C H v n f) : IsC C H v := by
  obtain ⟨⟨a, dx, tl, tm, ls, rfl, h, _⟩, _⟩ := F
  exact ⟨a, dx, _, rfl, h⟩
theorem Fam.congr {K : PySem.W.Frag} {C : Addr} {H : Hp} {v : V} {n : Nat} {f g : Nat → Bool} (F : Fam K C H v n f) (h : ∀ m, m < 2 ^ n → f m = g m) (G : Fm n g) : Fam K C H v n g := by
  obtain ⟨⟨a, dx, tl, tm, ls, rfl, h1, h2, h3, ob, h4, h6⟩, _⟩ := F
  rw [minL_congr h] at h3
  rw [marksV_congr h] at h4
  exact ⟨⟨a, dx, tl, tm, ls, rfl, h1, h2, h3, ob, h4, h6⟩, G⟩
/-- what is wrong with the lots of a family -/
inductive Bad where
  | ok
  | copy (x : V)
  | empty (i : Nat)
def badFrom (n : Nat) : Nat → List (List V) → Bad
  | _, [] => .ok
  | i, xs :: r => match badOf n xs with
    | some x => .copy x
    | none => if maskV xs = 0 then .empty i else badFrom n (i + 1) r
theorem badFrom_ok {n : Nat} : ∀ {xss : List (List V)} {i : Nat}, badFrom n i xss = .ok → ∀ xs ∈ xss, badOf n xs = none ∧ maskV xs ≠ 0
  | [], _, _, xs, h => by cases h
  | ys :: r, i, e, xs, h => by
    unfold badFrom at e
    cases ho : badOf n ys with
    | some x => rw [ho] at e; cases e
    | none =>
      rw [ho] at e
      simp only at e
      by_cases hz : maskV ys = 0
      · rw [if_pos hz] at e; cases e
      · rw [if_neg hz] at e
        rcases List.mem_cons.mp h with rfl | h
        · exact ⟨ho, hz⟩
        · exact badFrom_ok e xs h
def ErrE (C : Addr) (H : Hp) (E : XK) (i : Nat) : Prop := ∀ d H', H d = none → Same H H' → H' d = some (.xd [("place", .int i)]) → E (.ref C) (some d) H'
theorem ErrE.of {C : Addr} {H H1 : Hp} {E : XK} {i : Nat} (h : ErrE C H E i) (e : Same H H1) : ErrE C H1 E i := fun d H' nd sm hx => h d H' (e.free nd) (e.trans sm) hx
/-- lots as they are handed over -/
def LotArg (K : PySem.W.Frag) (H : Hp) (xs : List V) (v : V) : Prop := ∃ b, v = .ref b ∧ SqA K H b xs ∧ ∀ x ∈ xs, scalV x = true
theorem LotArg.same {K : PySem.W.Frag} {H H' : Hp} {xs : List V} {v : V} (h : LotArg K H xs v) (e : Same H H') : LotArg K H' xs v := by
  obtain ⟨b, rfl, h1, h2⟩ := h
  exact ⟨b, rfl, h1.same e, h2⟩
theorem Lot.arg {K : PySem.W.Frag} {H : Hp} {m : Nat} {v : V} (h : Lot K H m v) : LotArg K H (lotV m) v := by
  obtain ⟨a, rfl, h⟩ := h
  exact ⟨a, rfl, .inr h, fun x hx => scal_lotV hx⟩
theorem badFrom_lots {n : Nat} : ∀ {ms : List Nat} {i : Nat}, (∀ m ∈ ms, m < 2 ^ n ∧ m ≠ 0 ∧ m < 256) → badFrom n i (ms.map lotV) = .ok
  | [], _, _ => rfl
  | m :: r, i, h => by
    obtain ⟨h1, h2, h3⟩ := h m List.mem_cons_self
    rw [List.map_cons]
    unfold badFrom
    rw [badOf_ok fun x hx => lotV_ok h1 hx, mask_lotV h3]
    simp only
    rw [if_neg h2]
    exact badFrom_lots fun x hx => h x (List.mem_cons_of_mem _ hx)
theorem masks_lots {ms : List Nat} (h : ∀ m ∈ ms, m < 256) : (ms.map lotV).map maskV = ms := by
  rw [List.map_map]
  conv => rhs; rw [← List.map_id ms]
  exact List.map_congr_left fun m hm => mask_lotV (h m hm)
/-! ### families: the promises -/
def spMasks (K : PySem.W.Frag) (C CL : Addr) : Sp := fun vs H Q E => ∃ (n : Nat) (p : Addr) (ls : List V) (xss : List (List V)), vs = [.int n, .ref p] ∧ n ≤ 8 ∧ SqT K H p ls ∧ Paired (LotArg K H) xss ls ∧ ls.length ≤ 1000 ∧
  (badFrom n 0 xss = .ok → ∀ q H', Same H H' → H q = none → H' q = some (.lst (xss.map fun xs => .int (maskV xs))) → Q (.ref q) H') ∧
  (∀ x, badFrom n 0 xss = .copy x → Err C H E "copy" x) ∧ (∀ i, badFrom n 0 xss = .empty i → ErrE CL H E i)
def spAbove (K : PySem.W.Frag) : Sp := fun vs H Q _ => ∃ (n : Nat) (p : Addr) (ms : List Nat), vs = [.int n, .ref p] ∧ n ≤ 8 ∧ SqL K H p (ms.map fun (m : Nat) => V.int m) ∧ (∀ m ∈ ms, m < 2 ^ n) ∧
  ∀ q H', Same H H' → H q = none → H' q = some (.lst (marksV n (upB ms))) → Q (.ref q) H'
def spMinimal (K : PySem.W.Frag) : Sp := fun vs H Q _ => ∃ (n : Nat) (p : Addr) (f : Nat → Bool), vs = [.int n, .ref p] ∧ n ≤ 8 ∧ SqL K H p (marksV n f) ∧
  ∀ q ls H', Same H H' → H q = none → H' q = some (.lst ls) → Paired (fun m y => Lot K H' m y) (minL n f) ls → Q (.ref q) H'
def spFam0 (K : PySem.W.Frag) (C CB CL : Addr) : Sp := fun vs H Q E => ∃ (a dx : Addr) (c : V) (p : Addr) (ls : List V) (xss : List (List V)), vs = [.ref a, c, .ref p] ∧ H a = some (.ins C dx []) ∧ Kn K H c ∧ SqT K H p ls ∧ Paired (LotArg K H) xss ls ∧ ls.length ≤ 1000 ∧
  (good c (some 1) (some 8) = false → Err CB H E "copies" c) ∧
  ∀ n : Nat, c = .int n → 1 ≤ n → n ≤ 8 → (xss = [] → Err CB H E "lots" (.int 0)) ∧
    (xss ≠ [] → (∀ x, badFrom n 0 xss = .copy x → Err CB H E "copy" x) ∧ (∀ i, badFrom n 0 xss = .empty i → ErrE CL H E i) ∧
      (badFrom n 0 xss = .ok → ∀ H', (∀ b o, H b = some o → b ≠ a → H' b = some o) → Fam K C H' (.ref a) n (upB (xss.map maskV)) → Q .non H'))
/-- a made family -/
theorem mk_fam {K : PySem.W.Frag} {C CB CL : Addr} {H : Hp} {n : Nat} {rest : List V} {xss : List (List V)} {Q : Addr → Hp → Prop} {E : XK} (n1 : 1 ≤ n) (n8 : n ≤ 8) (hp : Paired (LotArg K H) xss rest) (hl : rest.length ≤ 1000) (hne : xss ≠ []) (hb : badFrom n 0 xss = .ok)
    (h : ∀ a H', Same H H' → Fam K C H' (.ref a) n (upB (xss.map maskV)) → Q a H') :
    ∀ x dx, H x = none → H dx = none → dx ≠ x → spStar 2 (spFam0 K C CB CL) (.ref x :: (.int n :: rest)) (upd (upd H dx (.own x)) x (.ins C dx [])) (fun v H2 => v = .non ∧ Q x H2) E := by
  intro x dx nx nd ne
  have e1000 : (1000 : Nat) ≤ sizeLine := by decide
  refine ⟨[.ref x, .int n], rest, rfl, rfl, by omega, fun p np => ?_⟩
  have s0 : Same H (upd (upd H dx (.own x)) x (.ins C dx [])) := fun b o e => by
    rw [upd_ne (ne_of_none e nx), upd_ne (ne_of_none e nd)]
    exact e
  have sp := s0.trans (same_upd (o := .tup rest) np)
  have hx : upd (upd (upd H dx (.own x)) x (.ins C dx [])) p (.tup rest) x = some (.ins C dx []) := (upd_ne (ne_of_none upd_same np)).trans upd_same
  refine ⟨x, dx, .int n, p, rest, xss, rfl, hx, kn_int _, .inl (.inl upd_same), prImp (fun _ _ z => z.same sp) hp, hl, fun z => absurd (copies_good n1 n8) (by rw [z]; simp), fun n' e _ _ => ?_⟩
  cases (show n = n' from by injection e with e; omega)
  refine ⟨fun z => absurd z hne, fun _ => ⟨fun y z => (by rw [hb] at z; cases z), fun i z => (by rw [hb] at z; cases z), fun _ H' k F => ⟨rfl, h x H' (fun b o e => k b o (sp b o e) (ne_of_none e nx)) F⟩⟩⟩
def spMarked (K : PySem.W.Frag) (C : Addr) : Sp := fun vs H Q _ => ∃ (n : Nat) (p : Addr) (f : Nat → Bool), vs = [.int n, .ref p] ∧ SqL K H p (marksV n f) ∧ Fm n f ∧ ∀ r H', Same H H' → Fam K C H' r n f → Q r H'
def spAlike (K : PySem.W.Frag) (C CU : Addr) : Sp := fun vs H Q E => ∃ (n m : Nat) (v : V) (g : Nat → Bool), vs = [.int n, v] ∧ Fam K C H v m g ∧ (n = m → Q .non H) ∧ (n ≠ m → E (.ref CU) none H)
/-- two families: what is told where both have as many copies -/
def spTwo (K : PySem.W.Frag) (C CU : Addr) (k : Nat → (Nat → Bool) → (Nat → Bool) → Hp → VK → Prop) : Sp := fun vs H Q E => ∃ (x y : V) (n m : Nat) (f g : Nat → Bool), vs = [x, y] ∧ Fam K C H x n f ∧ Fam K C H y m g ∧
  (n = m → k n f g H Q) ∧ (n ≠ m → ∀ H', Same H H' → E (.ref CU) none H')
def tellsB (b : Nat → (Nat → Bool) → (Nat → Bool) → Bool) : Nat → (Nat → Bool) → (Nat → Bool) → Hp → VK → Prop := fun n f g H Q => ∀ H', Same H H' → Q (.bl (b n f g)) H'
def tellsF (K : PySem.W.Frag) (C : Addr) (b : Nat → (Nat → Bool) → (Nat → Bool) → Nat → Bool) : Nat → (Nat → Bool) → (Nat → Bool) → Hp → VK → Prop := fun n f g H Q => ∀ r H', Same H H' → Fam K C H' r n (b n f g) → Q r H'
def spWithin (K : PySem.W.Frag) : Sp := fun vs H Q _ => ∃ (p q : Addr) (n : Nat) (f g : Nat → Bool), vs = [.ref p, .ref q] ∧ ((SqT K H p (marksV n f) ∧ SqT K H q (marksV n g)) ∨ (SqL K H p (marksV n f) ∧ SqL K H q (marksV n g))) ∧ n ≤ 8 ∧ ∀ H', Same H H' → Q (.bl (leB n f g)) H'
def spOne (K : PySem.W.Frag) (C : Addr) (k : Nat → (Nat → Bool) → Hp → VK → Prop) : Sp := fun vs H Q _ => ∃ (x : V) (n : Nat) (f : Nat → Bool), vs = [x] ∧ Fam K C H x n f ∧ k n f H Q
/-- == with whatever isinstance can ask -/
def spEqF (K : PySem.W.Frag) (C : Addr) : Sp := fun vs H Q _ => ∃ (x y : V) (n : Nat) (f : Nat → Bool), vs = [x, y] ∧ Fam K C H x n f ∧
  ((∃ m g, Fam K C H y m g ∧ ∀ H', Same H H' → Q (.bl (decide (n = m) && eqB n f g)) H') ∨ (∃ t, TyX K H y t ∧ PySem.W.kitOne K t (.ref C) = some false ∧ Q (.bl false) H))
def spIn (K : PySem.W.Frag) (C : Addr) : Sp := fun vs H Q _ => ∃ (x y : V) (n : Nat) (f : Nat → Bool) (xs : List V), vs = [x, y] ∧ Fam K C H x n f ∧ LotArg K H xs y ∧ ∀ H', Same H H' → Q (.bl (match badOf n xs with
  | some _ => false
  | none => f (maskV xs))) H'
/-! ### lots within lots -/
theorem one_iff {m c : Nat} : c ∈ oneL m ↔ c < 8 ∧ m.testBit c = true := by
  unfold oneL
  rw [List.mem_filter, List.mem_range]
theorem all_sub {k : Nat} (m : Nat) (hk : k < 256) : ((oneL k).map fun c => m.testBit c).all id = subB k m := by
  rw [Bool.eq_iff_iff, List.all_map, List.all_eq_true, subB_iff]
  refine ⟨fun h i hi => ?_, fun h c hc => h c (one_iff.mp hc).2⟩
  by_cases hc : i < 8
  · exact h i (one_iff.mpr ⟨hc, hi⟩)
  · rw [bit_big hk (by omega)] at hi
    cases hi
/-- two lots with a copy in common -/
def metB (k m : Nat) : Bool := ((oneL k).map fun c => m.testBit c).any id
theorem metB_iff {k m : Nat} : metB k m = true ↔ ∃ c, c < 8 ∧ k.testBit c = true ∧ m.testBit c = true := by
  unfold metB
  rw [List.any_map, List.any_eq_true]
  exact ⟨fun ⟨c, h, e⟩ => ⟨c, (one_iff.mp h).1, (one_iff.mp h).2, e⟩, fun ⟨c, h, e, g⟩ => ⟨c, one_iff.mpr ⟨h, e⟩, g⟩⟩
theorem met_sub {n k m : Nat} (hn : n ≤ 8) (hk : k < 2 ^ n) (hm : m < 2 ^ n) : metB k m = false ↔ Sub k (oth n m) := by
  have h8 : ∀ i, k.testBit i = true → i < n := fun i h => by
    by_cases c : i < n
    · exact c
    · rw [Nat.testBit_lt_two_pow (Nat.lt_of_lt_of_le hk (Nat.pow_le_pow_right (by decide) (by omega)))] at h
      cases h
  constructor
  · intro h i hi
    rw [oth_bit hm, decide_eq_true (h8 i hi), Bool.true_and]
    cases e : m.testBit i with
    | false => rfl
    | true =>
      have := metB_iff.mpr ⟨i, by have := h8 i hi; omega, hi, e⟩
      rw [h] at this
      cases this
  · intro h
    cases e : metB k m with
    | false => rfl
    | true =>
      obtain ⟨c, hc, h1, h2⟩ := metB_iff.mp e
      have := h c h1
      rw [oth_bit hm, h2] at this
      simp at this
/-- the lots of f: their masks, least first -/
def inL (n : Nat) (f : Nat → Bool) : List Nat := (List.range (2 ^ n)).filter f
theorem inL_iff {n : Nat} {f : Nat → Bool} {m : Nat} : m ∈ inL n f ↔ m < 2 ^ n ∧ f m = true := by
  unfold inL
  rw [List.mem_filter, List.mem_range]
theorem met_all {n : Nat} {f : Nat → Bool} (F : Fm n f) {m : Nat} (hm : m < 2 ^ n) : ((inL n f).map fun k => metB m k).all id = dualB n f m := by
  rw [Bool.eq_iff_iff, List.all_map, List.all_eq_true]
  unfold dualB
  constructor
  · intro h
    cases e : f (oth n m) with
    | false => rfl
    | true =>
      have := h (oth n m) (inL_iff.mpr ⟨oth_lt, e⟩)
      have h2 := (met_sub F.n8 hm (oth_lt (n := n) (m := m))).mpr (by rw [oth_oth hm]; exact Sub.refl m)
      rw [show metB m (oth n m) = true from this] at h2
      cases h2
  · intro h k hk
    obtain ⟨k1, k2⟩ := inL_iff.mp hk
    show metB m k = true
    cases e : metB m k with
    | true => rfl
    | false =>
      have e2 := oth_sub hm oth_lt ((met_sub F.n8 hm k1).mp e)
      rw [oth_oth k1] at e2
      rw [F.up _ _ e2 oth_lt k2] at h
      cases h
def allMet (n : Nat) (f g : Nat → Bool) : Bool := ((inL n f).map fun m => ((inL n g).map fun k => metB m k).all id).all id
theorem allMet_eq {n : Nat} {f g : Nat → Bool} (G : Fm n g) : allMet n f g = meetB n f g := by
  rw [Bool.eq_iff_iff, meetB_iff]
  unfold allMet
  rw [List.all_map, List.all_eq_true]
  constructor
  · intro h m hm hf
    have := h m (inL_iff.mpr ⟨hm, hf⟩)
    rw [show (id ∘ fun m => ((inL n g).map fun k => metB m k).all id) m = dualB n g m from met_all G hm] at this
    unfold dualB at this
    simpa using this
  · intro h m hm
    obtain ⟨h1, h2⟩ := inL_iff.mp hm
    show ((inL n g).map fun k => metB m k).all id = true
    rw [met_all G h1]
    unfold dualB
    rw [h m h1 h2] <;> rfl
/-! ### what the law's own defs tell -/
theorem in_lotV {K : PySem.W.Frag} : ∀ m : Nat, m < 256 → ∀ c : Nat, c < 8 → inV (.int c) (lotV m) = m.testBit c := by decide +kernel
theorem flat_lotV (m : Nat) : (lotV m).all flatV = true := by
  rw [List.all_eq_true]
  exact fun x hx => flat_scal (scal_lotV hx)
theorem lotV_at8 {m i : Nat} {x : V} (h : (lotV m)[i]? = some x) : ∃ c : Nat, x = .int c ∧ c < 8 ∧ (oneL m)[i]? = some c := by
  unfold lotV lotL at h
  rw [List.map_map, List.getElem?_map] at h
  cases e : (oneL m)[i]? with
  | none => rw [e] at h; cases h
  | some c =>
    rw [e] at h
    cases h
    exact ⟨c, rfl, (one_iff.mp (List.mem_of_getElem? e)).1, rfl⟩
def Lots (K : PySem.W.Frag) (H : Hp) (p : Addr) (ms : List Nat) : Prop := ∃ ys, SqL K H p ys ∧ Paired (fun m y => Lot K H m y) ms ys
theorem Lots.same {K : PySem.W.Frag} {H H' : Hp} {p : Addr} {ms : List Nat} (h : Lots K H p ms) (e : Same H H') : Lots K H' p ms := by
  obtain ⟨ys, h1, h2⟩ := h
  exact ⟨ys, e.seq h1, prImp (fun _ _ z => z.same e) h2⟩
def spPair (K : PySem.W.Frag) (b : Nat → Nat → Bool) : Sp := fun vs H Q _ => ∃ (x y : V) (m k : Nat), vs = [x, y] ∧ Lot K H m x ∧ Lot K H k y ∧ m < 256 ∧ k < 256 ∧ ∀ H', Same H H' → Q (.bl (b m k)) H'
def spGrown (K : PySem.W.Frag) : Sp := fun vs H Q _ => ∃ (n : Nat) (p : Addr) (ms : List Nat), vs = [.int n, .ref p] ∧ n ≤ 8 ∧ Lots K H p ms ∧ ms.length ≤ 1000 ∧ (∀ m ∈ ms, m < 2 ^ n) ∧
  ∀ q H', Same H H' → H q = none → SqL K H' q (marksV n (upB ms)) → Q (.ref q) H'
def spMarksOf (K : PySem.W.Frag) (C : Addr) : Sp := fun vs H Q _ => ∃ (x : V) (n : Nat) (f : Nat → Bool), vs = [x] ∧ Fam K C H x n f ∧ ∀ q H', Same H H' → H q = none → SqL K H' q (marksV n f) → Q (.ref q) H'
def spAllMeet (K : PySem.W.Frag) : Sp := fun vs H Q _ => ∃ (p q : Addr) (n : Nat) (f g : Nat → Bool), vs = [.ref p, .ref q] ∧ Lots K H p (inL n f) ∧ Lots K H q (inL n g) ∧ n ≤ 8 ∧ ∀ H', Same H H' → Q (.bl (allMet n f g)) H'
/-! ### what a comprehension within a comprehension walks -/
theorem piK_list {X : Cx} {K : PySem.W.Frag} {tg l : Expr} {tl : TE} (h : X.K = K) (hl : PE X l tl) : PI X tg l (iList K tl) := h ▸ pi_list hl
theorem piK_tup {X : Cx} {K : PySem.W.Frag} {tg l : Expr} {tl : TE} (h : X.K = K) (hl : PE X l tl) : PI X tg l (iTup K tl) := h ▸ pi_tup hl
theorem allMet_no {n : Nat} {f g : Nat → Bool} {m : Nat} (hm : m ∈ inL n f) (h : ((inL n g).map fun k => metB m k).all id = false) : allMet n f g = false := by
  cases e : allMet n f g with
  | false => rfl
  | true =>
    unfold allMet at e
    rw [List.all_map, List.all_eq_true] at e
    have := e m hm
    rw [show (id ∘ fun m => ((inL n g).map fun k => metB m k).all id) m = ((inL n g).map fun k => metB m k).all id from rfl, h] at this
    cases this
theorem allMet_yes {n : Nat} {f g : Nat → Bool} (h : ∀ m ∈ inL n f, ((inL n g).map fun k => metB m k).all id = true) : allMet n f g = true := by
  unfold allMet
  rw [List.all_map, List.all_eq_true]
  exact h
/-! ### the law's masks, chosen by a list of marks -/
def spIns (K : PySem.W.Frag) (Q : Addr → Hp → Prop) (n : Nat) (f : Nat → Bool) (H : Hp) : Prop := ∀ q H', Same H H' → H q = none → Lots K H' q (inL n f) → Q q H'
theorem range_filterM {α : Type} (f : Nat → Bool) (g : Nat → α) (n : Nat) : (List.range n).filterMap (fun m => if f m = true then some (g m) else none) = ((List.range n).filter f).map g := by
  induction n with
  | zero => rfl
  | succ k ih =>
    rw [List.range_succ, List.filterMap_append, ih, List.filter_append, List.map_append]
    congr 1
    cases e : f k <;> simp [e]
section
variable {K : PySem.W.Frag} {C CU : Addr} {H : Hp} {x y : V} {n m : Nat} {f : Nat → Bool} {Q : VK} {E : XK}
theorem fam_in (F : Fam K C H x n f) (L : Lot K H m y) (hm : m < 2 ^ n) (g : Bool → Bool) (k : ∀ H', Same H H' → Q (.bl (g (f m))) H') : rInOwn C (spIn K C) E g y x H Q := by
  refine ⟨F.isC, x, y, n, f, lotV m, rfl, F, L.arg, fun H' s => ⟨_, rfl, ?_⟩⟩
  have h256 := pow_le8 F.2.n8
  rw [badOf_ok fun z hz => lotV_ok hm hz]
  simp only
  rw [mask_lotV (by omega)]
  exact k H' s
theorem ins_eq (f : Nat → Bool) (n : Nat) : (List.range (2 ^ n)).filterMap (fun m => if f m = true then some m else none) = inL n f := by
  have := range_filterM f (fun m => m) (2 ^ n)
  rw [List.map_id'] at this
  exact this
theorem lots_at {ys : List V} (pr : Paired (fun m y => Lot K H m y) (List.range (2 ^ n)) ys) (hm : m < 2 ^ n) : ∃ y, atI ys (m : Int) = some y ∧ Lot K H m y := by
  obtain ⟨y, h1, h2⟩ := prAt2 pr (List.getElem?_range hm)
  exact ⟨y, atI_nat h1, h2⟩
end
theorem atI0 {α : Type} {xs : List α} {j : Nat} {v : α} (h : xs[j]? = some v) : atI xs (0 + (j : Int)) = some v := by
  rw [Int.zero_add]
  exact atI_nat h
theorem lots_at0 {K : PySem.W.Frag} {H : Hp} {n m : Nat} {ys : List V} (pr : Paired (fun m y => Lot K H m y) (List.range (2 ^ n)) ys) (hm : m < 2 ^ n) : ∃ y, atI ys (0 + (m : Int)) = some y ∧ Lot K H m y := by
  rw [Int.zero_add]
  exact lots_at pr hm
/-- what the top has left -/
structure Ctx (K : PySem.W.Frag) (mg : Str → Option Value) where
  c_VoteError : Addr
  gc_VoteError : mg "VoteError" = some (.ref c_VoteError)
  c_BadNumber : Addr
  gc_BadNumber : mg "BadNumber" = some (.ref c_BadNumber)
  c_BadLot : Addr
  gc_BadLot : mg "BadLot" = some (.ref c_BadLot)
  c_Unlike : Addr
  gc_Unlike : mg "Unlike" = some (.ref c_Unlike)
  c_Family : Addr
  gc_Family : mg "Family" = some (.ref c_Family)
  f_BadNumber_init : Addr
  fd_BadNumber_init : FuncData
  F_BadNumber_init : Fun K "__init__" "BadNumber.__init__" s_BadNumber_init f_BadNumber_init fd_BadNumber_init
  b_BadNumber_init : Binds K fd_BadNumber_init ["self", "what", "value"] []
  f_BadLot_init : Addr
  fd_BadLot_init : FuncData
  F_BadLot_init : Fun K "__init__" "BadLot.__init__" s_BadLot_init f_BadLot_init fd_BadLot_init
  b_BadLot_init : Binds K fd_BadLot_init ["self", "place"] []
  f_is_integer : Addr
  fd_is_integer : FuncData
  F_is_integer : Fun K "is_integer" "is_integer" s_is_integer f_is_integer fd_is_integer
  b_is_integer : Binds K fd_is_integer ["value"] []
  g_is_integer : mg "is_integer" = some (.ref f_is_integer)
  f_check_number : Addr
  fd_check_number : FuncData
  F_check_number : Fun K "check_number" "check_number" s_check_number f_check_number fd_check_number
  b_check_number : Binds K fd_check_number ["what", "value", "low", "high"] []
  g_check_number : mg "check_number" = some (.ref f_check_number)
  f_check_copies : Addr
  fd_check_copies : FuncData
  F_check_copies : Fun K "check_copies" "check_copies" s_check_copies f_check_copies fd_check_copies
  b_check_copies : Binds K fd_check_copies ["copies"] []
  g_check_copies : mg "check_copies" = some (.ref f_check_copies)
  f_check_copy : Addr
  fd_check_copy : FuncData
  F_check_copy : Fun K "check_copy" "check_copy" s_check_copy f_check_copy fd_check_copy
  b_check_copy : Binds K fd_check_copy ["copies", "copy"] []
  g_check_copy : mg "check_copy" = some (.ref f_check_copy)
  f_mask_of : Addr
  fd_mask_of : FuncData
  F_mask_of : Fun K "mask_of" "mask_of" s_mask_of f_mask_of fd_mask_of
  b_mask_of : Binds K fd_mask_of ["copies", "numbers"] []
  g_mask_of : mg "mask_of" = some (.ref f_mask_of)
  f_lot_at : Addr
  fd_lot_at : FuncData
  F_lot_at : Fun K "lot_at" "lot_at" s_lot_at f_lot_at fd_lot_at
  b_lot_at : Binds K fd_lot_at ["mask"] []
  g_lot_at : mg "lot_at" = some (.ref f_lot_at)
  f_check_alike : Addr
  fd_check_alike : FuncData
  F_check_alike : Fun K "check_alike" "check_alike" s_check_alike f_check_alike fd_check_alike
  b_check_alike : Binds K fd_check_alike ["copies", "other"] []
  g_check_alike : mg "check_alike" = some (.ref f_check_alike)
  f_is_within : Addr
  fd_is_within : FuncData
  F_is_within : Fun K "is_within" "is_within" s_is_within f_is_within fd_is_within
  b_is_within : Binds K fd_is_within ["marks", "more"] []
  g_is_within : mg "is_within" = some (.ref f_is_within)
  f_masks_of : Addr
  fd_masks_of : FuncData
  F_masks_of : Fun K "masks_of" "masks_of" s_masks_of f_masks_of fd_masks_of
  b_masks_of : Binds K fd_masks_of ["copies", "lots"] []
  g_masks_of : mg "masks_of" = some (.ref f_masks_of)
  f_marks_above : Addr
  fd_marks_above : FuncData
  F_marks_above : Fun K "marks_above" "marks_above" s_marks_above f_marks_above fd_marks_above
  b_marks_above : Binds K fd_marks_above ["copies", "masks"] []
  g_marks_above : mg "marks_above" = some (.ref f_marks_above)
  f_minimal_lots : Addr
  fd_minimal_lots : FuncData
  F_minimal_lots : Fun K "minimal_lots" "minimal_lots" s_minimal_lots f_minimal_lots fd_minimal_lots
  b_minimal_lots : Binds K fd_minimal_lots ["copies", "marks"] []
  g_minimal_lots : mg "minimal_lots" = some (.ref f_minimal_lots)
  f_Family_init : Addr
  fd_Family_init : FuncData
  F_Family_init : Fun K "__init__" "Family.__init__" s_Family_init f_Family_init fd_Family_init
  f_marked : Addr
  fd_marked : FuncData
  F_marked : Fun K "marked" "marked" s_marked f_marked fd_marked
  b_marked : Binds K fd_marked ["copies", "marks"] []
  g_marked : mg "marked" = some (.ref f_marked)
  f_Family_eq : Addr
  fd_Family_eq : FuncData
  F_Family_eq : Fun K "__eq__" "Family.__eq__" s_Family_eq f_Family_eq fd_Family_eq
  b_Family_eq : Binds K fd_Family_eq ["self", "other"] []
  me_Family_eq : Meth K c_Family "__eq__" f_Family_eq
  f_Family_le : Addr
  fd_Family_le : FuncData
  F_Family_le : Fun K "__le__" "Family.__le__" s_Family_le f_Family_le fd_Family_le
  b_Family_le : Binds K fd_Family_le ["self", "other"] []
  me_Family_le : Meth K c_Family "__le__" f_Family_le
  f_Family_or : Addr
  fd_Family_or : FuncData
  F_Family_or : Fun K "__or__" "Family.__or__" s_Family_or f_Family_or fd_Family_or
  b_Family_or : Binds K fd_Family_or ["self", "other"] []
  me_Family_or : Meth K c_Family "__or__" f_Family_or
  f_Family_and : Addr
  fd_Family_and : FuncData
  F_Family_and : Fun K "__and__" "Family.__and__" s_Family_and f_Family_and fd_Family_and
  b_Family_and : Binds K fd_Family_and ["self", "other"] []
  me_Family_and : Meth K c_Family "__and__" f_Family_and
  f_mask_in : Addr
  fd_mask_in : FuncData
  F_mask_in : Fun K "mask_in" "mask_in" s_mask_in f_mask_in fd_mask_in
  b_mask_in : Binds K fd_mask_in ["copies", "value"] []
  g_mask_in : mg "mask_in" = some (.ref f_mask_in)
  f_Family_contains : Addr
  fd_Family_contains : FuncData
  F_Family_contains : Fun K "__contains__" "Family.__contains__" s_Family_contains f_Family_contains fd_Family_contains
  b_Family_contains : Binds K fd_Family_contains ["self", "lot"] []
  me_Family_contains : Meth K c_Family "__contains__" f_Family_contains
  f_Family_meets : Addr
  fd_Family_meets : FuncData
  F_Family_meets : Fun K "meets" "Family.meets" s_Family_meets f_Family_meets fd_Family_meets
  b_Family_meets : Binds K fd_Family_meets ["self", "other"] []
  me_Family_meets : Meth K c_Family "meets" f_Family_meets
  f_Family_is_strict : Addr
  fd_Family_is_strict : FuncData
  F_Family_is_strict : Fun K "is_strict" "Family.is_strict" s_Family_is_strict f_Family_is_strict fd_Family_is_strict
  b_Family_is_strict : Binds K fd_Family_is_strict ["self"] []
  me_Family_is_strict : Meth K c_Family "is_strict" f_Family_is_strict
  f_Family_dual : Addr
  fd_Family_dual : FuncData
  F_Family_dual : Fun K "dual" "Family.dual" s_Family_dual f_Family_dual fd_Family_dual
  b_Family_dual : Binds K fd_Family_dual ["self"] []
  me_Family_dual : Meth K c_Family "dual" f_Family_dual
  f_l_start : Addr
  fd_l_start : FuncData
  F_l_start : Fun K "_law_start" "_law_start" s_l_start f_l_start fd_l_start
  b_l_start : Binds K fd_l_start ["_law_script"] []
  g_l_start : mg "_law_start" = some (.ref f_l_start)
  f_l_draw : Addr
  fd_l_draw : FuncData
  F_l_draw : Fun K "_law_draw" "_law_draw" s_l_draw f_l_draw fd_l_draw
  b_l_draw : Binds K fd_l_draw ["_law_script", "_law_state", "_law_limit"] []
  g_l_draw : mg "_law_draw" = some (.ref f_l_draw)
  f_l_lots : Addr
  fd_l_lots : FuncData
  F_l_lots : Fun K "_law_lots" "_law_lots" s_l_lots f_l_lots fd_l_lots
  b_l_lots : Binds K fd_l_lots ["_law_copies"] []
  g_l_lots : mg "_law_lots" = some (.ref f_l_lots)
  f_l_drawn : Addr
  fd_l_drawn : FuncData
  F_l_drawn : Fun K "_law_drawn" "_law_drawn" s_l_drawn f_l_drawn fd_l_drawn
  b_l_drawn : Binds K fd_l_drawn ["_law_script", "_law_state", "_law_copies"] []
  g_l_drawn : mg "_law_drawn" = some (.ref f_l_drawn)
  f_l_family : Addr
  fd_l_family : FuncData
  F_l_family : Fun K "_law_family" "_law_family" s_l_family f_l_family fd_l_family
  b_l_family : Binds K fd_l_family ["_law_copies", "_law_chosen"] []
  g_l_family : mg "_law_family" = some (.ref f_l_family)
  f_l_holds : Addr
  fd_l_holds : FuncData
  F_l_holds : Fun K "_law_holds" "_law_holds" s_l_holds f_l_holds fd_l_holds
  b_l_holds : Binds K fd_l_holds ["_law_lot", "_law_part"] []
  g_l_holds : mg "_law_holds" = some (.ref f_l_holds)
  f_l_grown : Addr
  fd_l_grown : FuncData
  F_l_grown : Fun K "_law_grown" "_law_grown" s_l_grown f_l_grown fd_l_grown
  b_l_grown : Binds K fd_l_grown ["_law_copies", "_law_chosen"] []
  g_l_grown : mg "_law_grown" = some (.ref f_l_grown)
  f_l_meet : Addr
  fd_l_meet : FuncData
  F_l_meet : Fun K "_law_meet" "_law_meet" s_l_meet f_l_meet fd_l_meet
  b_l_meet : Binds K fd_l_meet ["_law_first", "_law_second"] []
  g_l_meet : mg "_law_meet" = some (.ref f_l_meet)
  f_l_all_meet : Addr
  fd_l_all_meet : FuncData
  F_l_all_meet : Fun K "_law_all_meet" "_law_all_meet" s_l_all_meet f_l_all_meet fd_l_all_meet
  b_l_all_meet : Binds K fd_l_all_meet ["_law_first", "_law_second"] []
  g_l_all_meet : mg "_law_all_meet" = some (.ref f_l_all_meet)
  f_law : Addr
  fd_law : FuncData
  F_law : Fun K "law" "law" s_law f_law fd_law
  b_law : Binds K fd_law ["_law_script"] []
  g_law : mg "law" = some (.ref f_law)
  ox_BadNumber : OexC K c_BadNumber
  xn_BadNumber : PySem.W.findIn K (.ref c_BadNumber) "__init__" = some (some (.ref f_BadNumber_init))
  xt_BadNumber : PySem.W.typeIn K (.ref f_BadNumber_init) = some (.type "function")
  xf_BadNumber : XfC K c_BadNumber
  xi_BadNumber : XiC K c_BadNumber
  n_BadNumber_what : PySem.W.findIn K (.ref c_BadNumber) "what" = some none
  n_BadNumber_value : PySem.W.findIn K (.ref c_BadNumber) "value" = some none
  ox_BadLot : OexC K c_BadLot
  xn_BadLot : PySem.W.findIn K (.ref c_BadLot) "__init__" = some (some (.ref f_BadLot_init))
  xt_BadLot : PySem.W.typeIn K (.ref f_BadLot_init) = some (.type "function")
  xf_BadLot : XfC K c_BadLot
  xi_BadLot : XiC K c_BadLot
  n_BadLot_place : PySem.W.findIn K (.ref c_BadLot) "place" = some none
  e0_Unlike : Ex0C K c_Unlike
  xi_Unlike : XiC K c_Unlike
  cl_Family : Cls K c_Family
  M_Family : Mk K c_Family f_Family_init
  oh_Family_or : PySem.W.findIn K (.ref c_Family) (PySem.dunder "or") = some (some (.ref f_Family_or))
  oh_Family_and : PySem.W.findIn K (.ref c_Family) (PySem.dunder "and") = some (some (.ref f_Family_and))
  oc_Family : OpC K c_Family
  ic_Family : InsC K c_Family
  n_Family_copies : NoAttr K c_Family "copies"
  n_Family_lots : NoAttr K c_Family "lots"
  n_Family_marks : NoAttr K c_Family "marks"
  ki_Family_Family : PySem.W.kitOne K (.ref c_Family) (.ref c_Family) = some true
  ex_BadNumber_BadNumber : PySem.W.exmOne K (.ref c_BadNumber) (.ref c_BadNumber) = some true
  gt_MOST_COPIES : Tok
  gk_MOST_COPIES : mg "MOST_COPIES" = some (.int 8 gt_MOST_COPIES)
  m_abs : mg "abs" = none
  m_all : mg "all" = none
  m_any : mg "any" = none
  m_bool : mg "bool" = none
  m_enumerate : mg "enumerate" = none
  m_int : mg "int" = none
  m_isinstance : mg "isinstance" = none
  m_len : mg "len" = none
  m_list : mg "list" = none
  m_range : mg "range" = none
  m_tuple : mg "tuple" = none
  m_zip : mg "zip" = none

section
variable {P : Program} {w : World} {K : PySem.W.Frag} {mg : Str → Option Value} {base : Heap}
theorem ok_l_start (T : Ctx K mg) : FnOk P w K mg base CX0 1 T.f_l_start T.fd_l_start ["_law_script"] (spStart K) := by
  refine T.F_l_start.ok sc_l_start (fun vs H Q E h => ?_) (fun cdv A outer s H vs Q E hr h => ?_)
  · obtain ⟨l, ns, rfl, _⟩ := h
    rfl
  · obtain ⟨l, ns, rfl, hS, q⟩ := h
    refine ⟨_, (pss_cons (ps_set (i := 1) sc_l_start.nd rfl (Or.inl rfl) pe_int)
      (Evl.pss_cut (ps_if (pt_cmpR op_gt (pe_callB call_len_seq (by rfl) T.m_len (by decide +kernel) (pa_cons (pv 0) pa_nil)) pe_int (nomark _))
        (pss_one (ps_set (i := 1) sc_l_start.nd rfl (Or.inl rfl) (pe_ix ix_list (pv 0) pe_int (fun _ _ => rfl))))
        pss_nil)
      (pss_one (ps_ret (pe_lst (pa_cons (pe_callB call_abs (by rfl) T.m_abs (by decide +kernel) (pa_cons (pe_callTy call_int1 (by rfl) T.m_int (by decide +kernel) (pa_cons (pv 1) pa_nil)) pa_nil)) (pa_cons (pe_callTy call_int1 (by rfl) T.m_int (by decide +kernel) (pa_cons (pe_cmpR op_ge (pe_callB call_abs (by rfl) T.m_abs (by decide +kernel) (pa_cons (pe_callTy call_int1 (by rfl) T.m_int (by decide +kernel) (pa_cons (pv 1) pa_nil)) pa_nil)) (pe_op op_pow pe_int pe_int) (nomark _)) pa_nil)) (pa_cons pe_int (pa_cons pe_int pa_nil))))))))), ?_⟩
    refine ⟨fun σ' H' => H' = H ∧ ∃ z : Int, σ' = [some (.ref l), some (.int z)], ?_, ?_⟩
    · refine ⟨_, rfl, l, _, rfl, .inl hS, _, _, rfl, rfl, _, rfl, ?_⟩
      refine ite2 (fun hc => ?_) fun hc => ⟨rfl, 0, rfl⟩
      have hn : 0 < ns.length := by
        have := of_decide_eq_true hc
        rw [List.length_map] at this
        omega
      refine ⟨_, rfl, l, _, _, .int ns[0], rfl, rfl, hS, at_of (j := 0) rfl (by rw [List.getElem?_map, List.getElem?_eq_getElem hn]; rfl), ?_⟩
      exact ⟨rfl, _, rfl⟩
    · rintro σ' H' ⟨rfl, z, rfl⟩
      refine ⟨_, rfl, .inl ⟨_, rfl, _, rfl, ?_⟩⟩
      refine ⟨_, rfl, .inl ⟨_, rfl, _, rfl, _, _, rfl, rfl, ⟨by decide, by decide, by decide⟩, _, _, rfl, rfl, .inr ⟨_, rfl, ?_⟩⟩⟩
      refine ⟨by show 4 ≤ sizeLine; decide, fun t ht => ?_⟩
      exact q t _ ht ⟨⟨ns, hS⟩, ht, same_upd ht, ⟨_, _, _, _, upd_same⟩⟩ (But.refl.upd)
theorem ok_l_draw (T : Ctx K mg) : FnOk P w K mg base CX0 1 T.f_l_draw T.fd_l_draw ["_law_script", "_law_state", "_law_limit"] (spDraw K) := by
  refine T.F_l_draw.ok sc_l_draw (fun vs H Q E h => ?_) (fun cdv A outer s H vs Q E hr h => ?_)
  · obtain ⟨l, t, m, H0, rfl, _⟩ := h
    rfl
  · obtain ⟨l, t, m, H0, rfl, D, hm, hm2, q⟩ := h
    obtain ⟨a, b, c, d, ht⟩ := D.st
    have fin : ∀ (z : Int) H', But t H H' → Drw K H0 l t H' → Q (.int (z.fmod m)) H' := fun z H' e1 D' =>
      q _ _ (Int.fmod_nonneg_of_pos _ hm) (Int.fmod_lt_of_pos _ hm) e1 D'
    refine ⟨_, (pss_cons (ps_asg (pe_op op_add (pe_ix ix_list (pv 1) pe_int (fun _ _ => rfl)) pe_int) (pg_sub (pv 1) pe_int set_list))
      (Evl.pss_cut (ps_if (PW.pt (pw_and (pt_cmpR op_eq (pe_ix ix_list (pv 1) pe_int (fun _ _ => rfl)) pe_int (nomark _)) (pw_and1 (pt_cmpR op_gt (pe_ix ix_list (pv 1) pe_int (fun _ _ => rfl)) pe_int (nomark _)))))
        (pss_cons (ps_set (i := 3) sc_l_draw.nd rfl (Or.inl rfl) (pe_op op_modN (pe_callTy call_int1 (by rfl) T.m_int (by decide +kernel) (pa_cons (pe_ix ix_list (pv 1) pe_int (fun _ _ => rfl)) pa_nil)) (pv 2)))
        (pss_cons (ps_asg (pe_op op_fdivN (pe_ix ix_list (pv 1) pe_int (fun _ _ => rfl)) (pv 2)) (pg_sub (pv 1) pe_int set_list))
        (pss_one (ps_ret (pv 3)))))
        pss_nil)
      (pss_cons (ps_asg pe_int (pg_sub (pv 1) pe_int set_list))
      (pss_cons (ps_set (i := 4) sc_l_draw.nd rfl (Or.inl rfl) pe_int)
      (Evl.pss_cut (ps_if (pt_cmpR op_gt (pe_callB call_len_seq (by rfl) T.m_len (by decide +kernel) (pa_cons (pv 0) pa_nil)) pe_int (nomark _))
        (pss_one (ps_set (i := 4) sc_l_draw.nd rfl (Or.inl rfl) (pe_ix ix_list (pv 0) (pe_op op_modN (pe_callTy call_int1 (by rfl) T.m_int (by decide +kernel) (pa_cons (pe_ix ix_list (pv 1) pe_int (fun _ _ => rfl)) pa_nil)) (pe_callB call_len_seq (by rfl) T.m_len (by decide +kernel) (pa_cons (pv 0) pa_nil))) (fun _ _ => rfl))))
        pss_nil)
      (pss_cons (ps_asg (pe_op op_add (pe_ix ix_list (pv 1) pe_int (fun _ _ => rfl)) pe_int) (pg_sub (pv 1) pe_int set_list))
      (pss_cons (ps_set (i := 5) sc_l_draw.nd rfl (Or.inl rfl) (pe_op op_mul (pe_op op_mod (pe_callTy call_int1 (by rfl) T.m_int (by decide +kernel) (pa_cons (pe_ix ix_list (pv 1) pe_int (fun _ _ => rfl)) pa_nil)) pe_int) pe_int))
      (pss_cons (ps_set (i := 5) sc_l_draw.nd rfl (Or.inl rfl) (pe_op op_add (pe_op op_add (pe_op op_add (pv 5) (pe_op op_mod (pe_callTy call_int1 (by rfl) T.m_int (by decide +kernel) (pa_cons (pv 4) pa_nil)) pe_int)) (pe_op op_mul pe_int (pe_ix ix_list (pv 1) pe_int (fun _ _ => rfl)))) pe_int))
      (pss_cons (ps_asg (pe_op op_mod (pe_callTy call_int1 (by rfl) T.m_int (by decide +kernel) (pa_cons (pv 5) pa_nil)) pe_int) (pg_sub (pv 1) pe_int set_list))
      (pss_cons (ps_set (i := 5) sc_l_draw.nd rfl (Or.inl rfl) (pe_op op_mod (pe_callTy call_int1 (by rfl) T.m_int (by decide +kernel) (pa_cons (pe_op op_add (pe_op op_mul (pe_ix ix_list (pv 1) pe_int (fun _ _ => rfl)) pe_int) (pe_ix ix_list (pv 1) pe_int (fun _ _ => rfl))) pa_nil)) pe_int))
      (pss_one (ps_ret (pe_op op_modN (pe_callTy call_int1 (by rfl) T.m_int (by decide +kernel) (pa_cons (pe_op op_fdiv (pv 5) pe_int) pa_nil)) (pv 2)))))))))))))), ?_⟩
    -- state[3] = state[3] + 1
    refine ⟨_, rfl, t, _, _, _, rfl, rfl, SqL.of ht, at3, _, _, rfl, rfl, _, rfl, t, _, _, 3, rfl, rfl, ht, rfl, ?_⟩
    -- the first way
    refine ⟨fun σ' H' => σ' = [some (.ref l), some (.ref t), some (.int m), none, none, none] ∧ H' = upd H t (.lst [.int a, .int b, .int c, .int (d + 1)]), ?_, ?_⟩
    · refine ⟨_, rfl, t, _, _, _, rfl, rfl, SqL.of upd_same, at1, rfl, _, rfl, ?_⟩
      refine ite2 (fun hc => ?_) fun hc => iteF ⟨rfl, rfl⟩
      refine ⟨_, rfl, t, _, _, _, rfl, rfl, SqL.of upd_same, at0, _, _, rfl, rfl, _, rfl, ?_⟩
      refine ite2 (fun hc => ?_) fun hc => ⟨rfl, rfl⟩
      refine ⟨_, rfl, t, _, _, _, rfl, rfl, SqL.of upd_same, at0, .inl ⟨_, rfl, _, rfl, _, _, rfl, rfl, by omega, ?_⟩⟩
      refine ⟨_, rfl, t, _, _, _, rfl, rfl, SqL.of upd_same, at0, _, rfl, _, _, rfl, rfl, ⟨by omega, by omega⟩, _, rfl, t, _, _, 0, rfl, rfl, upd_same, rfl, ?_⟩
      exact ⟨_, rfl, fin _ _ (But.refl.upd.upd) (D.upd.upd)⟩
    · rintro σ' H' ⟨rfl, rfl⟩
      -- state[1] = 0; cell = 0
      refine ⟨_, rfl, t, _, _, 1, rfl, rfl, upd_same, rfl, ?_⟩
      have e1 : upd (upd H t (.lst [.int a, .int b, .int c, .int (d + 1)])) t (.lst ([V.int a, .int b, .int c, .int (d + 1)].set 1 (.int 0))) = upd H t (.lst [.int a, .int 0, .int c, .int (d + 1)]) := upd_upd
      rw [e1]
      have D1 : Drw K H0 l t (upd H t (.lst [.int a, .int 0, .int c, .int (d + 1)])) := D.upd
      obtain ⟨ns, hS⟩ := D1.sc
      refine ⟨fun σ' H' => H' = upd H t (.lst [.int a, .int 0, .int c, .int (d + 1)]) ∧ ∃ z : Int, σ' = [some (.ref l), some (.ref t), some (.int m), none, some (.int z), none], ?_, ?_⟩
      · refine ⟨_, rfl, l, _, rfl, .inl hS, _, _, rfl, rfl, _, rfl, ?_⟩
        refine ite2 (fun hc => ?_) fun hc => ⟨rfl, 0, rfl⟩
        have hn : 0 < ns.length := by
          have := of_decide_eq_true hc
          rw [List.length_map] at this
          omega
        have hn' : (0 : Int) < (((ns.map V.int).length : Nat) : Int) := by
          rw [List.length_map]
          omega
        have h0 := Int.fmod_nonneg_of_pos c hn'
        have h1 := Int.fmod_lt_of_pos c hn'
        rw [List.length_map] at h1
        have hj : (c.fmod ((ns.map V.int).length : Nat)).toNat < ns.length := by
          rw [List.length_map] at h0 ⊢
          omega
        refine ⟨_, rfl, _, rfl, t, _, _, _, rfl, rfl, SqL.of upd_same, at2, .inl ⟨_, rfl, _, rfl, l, _, rfl, .inl hS, _, _, rfl, rfl, by omega, ?_⟩⟩
        refine ⟨l, _, _, .int ns[(c.fmod ((ns.map V.int).length : Nat)).toNat], rfl, rfl, hS, at_of (j := (c.fmod ((ns.map V.int).length : Nat)).toNat) (by omega) (by rw [List.getElem?_map, List.getElem?_eq_getElem hj]; rfl), ?_⟩
        exact ⟨rfl, _, rfl⟩
      · rintro σ' H' ⟨rfl, z, rfl⟩
        -- state[2] = state[2] + 1
        refine ⟨_, rfl, t, _, _, _, rfl, rfl, SqL.of upd_same, at2, _, _, rfl, rfl, _, rfl, t, _, _, 2, rfl, rfl, upd_same, rfl, ?_⟩
        have e2 : upd (upd H t (.lst [.int a, .int 0, .int c, .int (d + 1)])) t (.lst ([V.int a, .int 0, .int c, .int (d + 1)].set 2 (.int (c + 1)))) = upd H t (.lst [.int a, .int 0, .int (c + 1), .int (d + 1)]) := upd_upd
        rw [e2]
        have hb := Int.emod_nonneg a (b := 2147483647) (by decide)
        have hb2 := Int.emod_lt_of_pos a (b := 2147483647) (by decide)
        refine ⟨_, rfl, t, _, _, _, rfl, rfl, SqL.of upd_same, at0, .inl ⟨_, rfl, _, _, rfl, rfl, (show (0 : Int) < 2147483647 by decide), _, _, rfl, rfl, .inl ⟨by omega, by omega⟩, ?_⟩⟩
        refine ⟨_, rfl, _, rfl, .inl ⟨_, rfl, _, _, rfl, rfl, (show (0 : Int) < 2147483629 by decide), _, _, rfl, rfl, _, rfl, t, _, _, _, rfl, rfl, SqL.of upd_same, at3, _, _, rfl, rfl, .inl ⟨by decide, by decide⟩, _, _, rfl, rfl, _, _, rfl, rfl, ?_⟩⟩
        refine ⟨_, rfl, .inl ⟨_, rfl, _, _, rfl, rfl, (show (0 : Int) < 2147483647 by decide), _, rfl, t, _, _, 0, rfl, rfl, upd_same, rfl, ?_⟩⟩
        generalize hw : (a % 2147483647 * 48271 + z % 2147483629 + 7 * (d + 1) + 11) = w'
        have e3 : upd (upd H t (.lst [.int a, .int 0, .int (c + 1), .int (d + 1)])) t (.lst ([V.int a, .int 0, .int (c + 1), .int (d + 1)].set 0 (.int (w' % 2147483647)))) = upd H t (.lst [.int (w' % 2147483647), .int 0, .int (c + 1), .int (d + 1)]) := upd_upd
        rw [e3]
        have hc := Int.emod_nonneg w' (b := 2147483647) (by decide)
        have hc2 := Int.emod_lt_of_pos w' (b := 2147483647) (by decide)
        refine ⟨_, rfl, t, _, _, _, rfl, rfl, SqL.of upd_same, at0, _, _, rfl, rfl, .inl ⟨by omega, by omega⟩, _, rfl, t, _, _, _, rfl, rfl, SqL.of upd_same, at3, _, _, rfl, rfl, .inl ⟨_, rfl, _, _, rfl, rfl, (show (0 : Int) < 2147483629 by decide), ?_⟩⟩
        refine ⟨_, rfl, _, _, rfl, rfl, ⟨by decide, by decide⟩, .inl ⟨_, rfl, _, rfl, _, _, rfl, rfl, by omega, ?_⟩⟩
        exact fin _ _ But.refl.upd D.upd
end
section
variable {P : Program} {w : World} {K : PySem.W.Frag} {mg : Str → Option Value} {base : Heap}
theorem ok_BadNumber_init (T : Ctx K mg) : FnOk P w K mg base CX0 1 T.f_BadNumber_init T.fd_BadNumber_init ["self", "what", "value"] (spX2 T.c_BadNumber "what" "value") := by
  refine T.F_BadNumber_init.ok sc_BadNumber_init (fun vs H Q E h => ?_) (fun cdv A outer s H vs Q E hr h => ?_)
  · obtain ⟨a, x, y, rfl, _⟩ := h
    rfl
  · obtain ⟨a, x, y, rfl, ha, q⟩ := h
    refine ⟨_, (pss_cons (ps_ost (pv 0) (pv 1))
      (pss_one (ps_ost (pv 0) (pv 2)))), ?_⟩
    refine ⟨_, rfl, _, rfl, a, T.c_BadNumber, rfl, T.ox_BadNumber, T.n_BadNumber_what, .inl ⟨ha, fun d hd hda => ?_⟩⟩
    refine ⟨_, rfl, _, rfl, a, T.c_BadNumber, rfl, T.ox_BadNumber, T.n_BadNumber_value, .inr ⟨d, [("what", x)], upd_same, ?_, by show 1 ≤ 900; decide, ?_⟩⟩
    · rw [upd_ne hda, upd_same]
    · exact q d hd hda
theorem ok_is_integer (T : Ctx K mg) : FnOk P w K mg base CX0 1 T.f_is_integer T.fd_is_integer ["value"] (spIsInt K) := by
  refine T.F_is_integer.ok sc_is_integer (fun vs H Q E h => ?_) (fun cdv A outer s H vs Q E hr h => ?_)
  · obtain ⟨x, rfl, _⟩ := h
    rfl
  · obtain ⟨x, rfl, ⟨t, b1, b2, ty, k1, k2, e⟩, q⟩ := h
    refine ⟨_, (pss_one (ps_ret (pe_and (pe_callB call_isi (by rfl) T.m_isinstance (by decide +kernel) (pa_cons (pv 0) (pa_cons (pe_bltn (v := .ty "int") (by rfl) T.m_int (by decide +kernel) rfl) pa_nil))) (pe_one (pe_not (pe_callB call_isi (by rfl) T.m_isinstance (by decide +kernel) (pa_cons (pv 0) (pa_cons (pe_bltn (v := .ty "bool") (by rfl) T.m_bool (by decide +kernel) rfl) pa_nil)))))))), ?_⟩
    refine ⟨_, rfl, _, _, _, _, _, rfl, .ty _, ty, k1, b1, rfl, ?_⟩
    rw [← e] at q
    cases b1 with
    | false => exact iteF q
    | true => exact iteT ⟨_, rfl, _, _, _, _, _, rfl, .ty _, ty, k2 rfl, b2, rfl, q⟩
theorem ok_check_number (T : Ctx K mg) : FnOk P w K mg base (L2.CX P w) 3 T.f_check_number T.fd_check_number ["what", "value", "low", "high"] (spCheck K T.c_BadNumber) := by
  refine T.F_check_number.okX sc_check_number (fun vs H Q E h => ?_) (fun cdv A outer s H vs Q E hr h => ?_)
  · obtain ⟨w, x, lo, hi, rfl, _⟩ := h
    rfl
  · obtain ⟨w, x, lo, hi, rfl, kn, q1, q2⟩ := h
    refine ⟨_, (pss_cons (ps_if (pt_not (pt_val (pe_call (ok_is_integer T) (hr.mono (by decide)) (by rfl) T.g_is_integer T.F_is_integer.kp T.b_is_integer .nil pass0 (pa_cons (pv 1) pa_nil))))
        (pss_one (ps_raise rfl (takes_of rfl rfl rfl rfl) (pmk_oex T.ox_BadNumber T.xn_BadNumber T.xt_BadNumber (ok_BadNumber_init T) (hr.mono (by decide)) T.b_BadNumber_init .nil pass0 (by rfl) T.gc_BadNumber (pa_cons (pv 0) (pa_cons (pv 1) pa_nil)))))
        pss_nil)
      (Evl.pss_cut (ps_if (PW.pt (pw_and (pt_cmpR op_notN (pv 2) pe_non (nomark _)) (pw_and1 (pt_cmpR op_lt (pv 1) (pv 2) (nomark _)))))
        (pss_one (ps_raise rfl (takes_of rfl rfl rfl rfl) (pmk_oex T.ox_BadNumber T.xn_BadNumber T.xt_BadNumber (ok_BadNumber_init T) (hr.mono (by decide)) T.b_BadNumber_init .nil pass0 (by rfl) T.gc_BadNumber (pa_cons (pv 0) (pa_cons (pv 1) pa_nil)))))
        pss_nil)
      (Evl.pss_cut (ps_if (PW.pt (pw_and (pt_cmpR op_notN (pv 3) pe_non (nomark _)) (pw_and1 (pt_cmpR op_gt (pv 1) (pv 3) (nomark _)))))
        (pss_one (ps_raise rfl (takes_of rfl rfl rfl rfl) (pmk_oex T.ox_BadNumber T.xn_BadNumber T.xt_BadNumber (ok_BadNumber_init T) (hr.mono (by decide)) T.b_BadNumber_init .nil pass0 (by rfl) T.gc_BadNumber (pa_cons (pv 0) (pa_cons (pv 1) pa_nil)))))
        pss_nil)
      (pss_one (ps_ret (pv 1)))))), ?_⟩
    refine ⟨_, rfl, x, rfl, kn, _, rfl, ?_⟩
    cases x with
    | int i =>
      refine iteF ?_
      refine ⟨fun σ' H' => σ' = [some (.str w), some (.int i), some (oV lo), some (oV hi)] ∧ H' = H ∧ lo.all (fun l => decide (l ≤ i)) = true, ?_, ?_⟩
      · cases lo with
        | none => exact ⟨_, rfl, rfl, _, rfl, iteF ⟨rfl, rfl, rfl⟩⟩
        | some l =>
          refine ⟨_, rfl, rfl, _, rfl, iteT ⟨_, rfl, _, rfl, _, _, rfl, rfl, _, rfl, ?_⟩⟩
          refine ite2 (fun hc => ?_) fun hc => ⟨rfl, rfl, ?_⟩
          · have hlt := of_decide_eq_true hc
            refine ⟨_, rfl, _, rfl, mk2 (q2 ?_)⟩
            have z : decide (l ≤ i) = false := decide_eq_false (by omega)
            simp [good, z]
          · have hlt := of_decide_eq_false (Bool.eq_false_iff.mpr hc)
            exact decide_eq_true (show l ≤ i by omega)
      · rintro σ' H' ⟨rfl, rfl, hlo⟩
        refine ⟨fun σ' H'' => σ' = [some (.str w), some (.int i), some (oV lo), some (oV hi)] ∧ H'' = H' ∧ hi.all (fun h => decide (i ≤ h)) = true, ?_, ?_⟩
        · cases hi with
          | none => exact ⟨_, rfl, rfl, _, rfl, iteF ⟨rfl, rfl, rfl⟩⟩
          | some l =>
            refine ⟨_, rfl, rfl, _, rfl, iteT ⟨_, rfl, _, rfl, _, _, rfl, rfl, _, rfl, ?_⟩⟩
            refine ite2 (fun hc => ?_) fun hc => ⟨rfl, rfl, ?_⟩
            · have hlt := of_decide_eq_true hc
              refine ⟨_, rfl, _, rfl, mk2 (q2 ?_)⟩
              have z : decide (i ≤ l) = false := decide_eq_false (by omega)
              simp [good, z]
            · have hlt := of_decide_eq_false (Bool.eq_false_iff.mpr hc)
              exact decide_eq_true (show i ≤ l by omega)
        · rintro σ' H'' ⟨rfl, rfl, hhi⟩
          refine ⟨_, rfl, q1 ?_⟩
          show (lo.all (fun l => decide (l ≤ i)) && hi.all (fun h => decide (i ≤ h))) = true
          rw [hlo, hhi] <;> rfl
    | _ => exact iteT ⟨_, rfl, _, rfl, mk2 (q2 rfl)⟩
end
section
variable {P : Program} {w : World} {K : PySem.W.Frag} {mg : Str → Option Value} {base : Heap}
theorem ok_check_copies (T : Ctx K mg) : FnOk P w K mg base (L2.CX P w) 4 T.f_check_copies T.fd_check_copies ["copies"] (spCopies K T.c_BadNumber) := by
  refine T.F_check_copies.okX sc_check_copies (fun vs H Q E h => ?_) (fun cdv A outer s H vs Q E hr h => ?_)
  · obtain ⟨x, rfl, _⟩ := h
    rfl
  · obtain ⟨x, rfl, kn, k1, k2⟩ := h
    refine ⟨_, (pss_one (ps_ret (pe_call (ok_check_number T) (hr.mono (by decide)) (by rfl) T.g_check_number T.F_check_number.kp T.b_check_number .nil (passes_call (takes_of rfl rfl rfl rfl) (fun _ _ _ _ h => h)) (pa_cons pe_str (pa_cons (pv 0) (pa_cons pe_int (pa_cons (pe_glob (v := .int 8) (by rfl) T.gk_MOST_COPIES ⟨_, rfl⟩) pa_nil))))))), ?_⟩
    exact ⟨_, rfl, "copies", x, some 1, some 8, rfl, kn, k1, k2⟩
theorem ok_check_copy (T : Ctx K mg) : FnOk P w K mg base (L2.CX P w) 4 T.f_check_copy T.fd_check_copy ["copies", "copy"] (spCopy K T.c_BadNumber) := by
  refine T.F_check_copy.okX sc_check_copy (fun vs H Q E h => ?_) (fun cdv A outer s H vs Q E hr h => ?_)
  · obtain ⟨n, x, rfl, _⟩ := h
    rfl
  · obtain ⟨n, x, rfl, kn, k1, k2⟩ := h
    refine ⟨_, (pss_one (ps_ret (pe_call (ok_check_number T) (hr.mono (by decide)) (by rfl) T.g_check_number T.F_check_number.kp T.b_check_number .nil (passes_call (takes_of rfl rfl rfl rfl) (fun _ _ _ _ h => h)) (pa_cons pe_str (pa_cons (pv 1) (pa_cons pe_int (pa_cons (pe_op op_sub (pv 0) pe_int) pa_nil))))))), ?_⟩
    exact ⟨_, rfl, _, rfl, _, _, rfl, rfl, "copy", x, some 0, some ((n : Int) - 1), rfl, kn, k1, k2⟩
theorem ok_mask_of (T : Ctx K mg) : FnOk P w K mg base (L2.CX P w) 5 T.f_mask_of T.fd_mask_of ["copies", "numbers"] (spMaskOf K T.c_BadNumber) := by
  refine T.F_mask_of.okX sc_mask_of (fun vs H Q E h => ?_) (fun cdv A outer s H vs Q E hr h => ?_)
  · obtain ⟨n, a, xs, rfl, _⟩ := h
    rfl
  · obtain ⟨n, a, xs, rfl, hn, hS, sc, k1, k2⟩ := h
    refine ⟨_, (pss_cons (ps_set (i := 2) sc_mask_of.nd rfl (Or.inl rfl) pe_int)
      (pss_cons (ps_for (passes_of rfl) rfl (pi_seq (pv 1)) (pg_name (i := 3) sc_mask_of.nd rfl (Or.inl rfl))
        (pss_one (ps_set (i := 2) sc_mask_of.nd rfl (Or.inl rfl) (pe_op op_or (pv 2) (pe_op op_shl pe_int (pe_call (ok_check_copy T) (hr.mono (by decide)) (by rfl) T.g_check_copy T.F_check_copy.kp T.b_check_copy .nil (passes_call (takes_of rfl rfl rfl rfl) (fun _ _ _ _ h => h)) (pa_cons (pv 0) (pa_cons (pv 3) pa_nil))))))))
      (pss_one (ps_ret (pv 2))))), ?_⟩
    let Pv : Nat → L2.St → Hp → Prop := fun i σ H' => H' = H ∧ (∀ x ∈ xs.take i, copyOk n x = true) ∧ ∃ v, σ = [some (.int n), some (.ref a), some (.int (maskV (xs.take i))), v]
    have start : Pv 0 [some (.int n), some (.ref a), some (.int 0), none] H := ⟨rfl, fun x hx => by simp at hx, _, rfl⟩
    have fin : ∀ σ H', Pv xs.length σ H' → ∃ v, σ[2]? = some (some v) ∧ Q v H' := by
      rintro σ H' ⟨rfl, hok, v, rfl⟩
      rw [List.take_length] at hok ⊢
      exact ⟨_, rfl, k1 (badOf_ok hok)⟩
    have turn : ∀ i x σ H', xs[i]? = some x → Pv i σ H' → ∃ v, σ = [some (.int n), some (.ref a), some (.int (maskV (xs.take i))), v] ∧ H' = H ∧ Kn K H x ∧
        (copyOk n x = true → ∃ c : Nat, x = .int c ∧ Builtin.bitOr (maskV (xs.take i)) ((1 : Int) * (2 : Int) ^ ((c : Int)).toNat) = (maskV (xs.take (i + 1)) : Nat) ∧ c < n ∧ ∀ x ∈ xs.take (i + 1), copyOk n x = true) ∧ (copyOk n x = false → Err T.c_BadNumber H E "copy" x) := by
      rintro i x σ H' hx ⟨rfl, hok, v, rfl⟩
      refine ⟨v, rfl, rfl, kn_scal (sc x (List.mem_of_getElem? hx)), fun h => ?_, fun h => k2 x ?_⟩
      · obtain ⟨c, rfl, hc⟩ := copyOk_iff h
        refine ⟨c, rfl, ?_, hc, fun y hy => ?_⟩
        · rw [List.take_add_one, hx, shl_nat c, bitOr_nn (Int.natCast_nonneg _) (Int.natCast_nonneg _), Int.toNat_natCast, Int.toNat_natCast]
          show _ = ((maskV (xs.take i ++ [.int (c : Nat)]) : Nat) : Int)
          rw [maskV_snoc] <;> rfl
        · rw [List.take_add_one, hx] at hy
          rcases List.mem_append.mp hy with k | k
          · exact hok y k
          · have k : y ∈ [V.int (c : Nat)] := k
            rw [List.mem_singleton.mp k]
            exact h
      · exact badOf_at hx hok h
    refine ⟨_, rfl, a, rfl, ?_⟩
    rcases hS with hS | hS
    · refine .inl ⟨⟨xs, hS⟩, for_list (K := K) (a := a) (xs := xs) Pv start (fun i σ H' _ h => by rw [h.1]; exact hS) (fun i x σ H' hx hp => ?_) fun σ H' hp => fin σ H' hp⟩
      obtain ⟨v, rfl, rfl, kn, t1, t2⟩ := turn i x σ H' hx hp
      refine ⟨_, rfl, _, rfl, _, rfl, n, x, rfl, kn, fun h => ?_, t2⟩
      obtain ⟨c, rfl, e, hc, ho⟩ := t1 h
      refine ⟨_, _, rfl, rfl, ⟨by omega, by omega, by decide⟩, _, _, rfl, rfl, ?_⟩
      refine ⟨rfl, ho, some (.int c), ?_⟩
      show [some (V.int n), some (.ref a), some (V.int (Builtin.bitOr (maskV (xs.take i)) ((1 : Int) * (2 : Int) ^ ((c : Int)).toNat))), some (.int c)] = _
      rw [e]
    · refine .inr ⟨⟨xs, hS⟩, for_tup (K := K) (a := a) (xs := xs) Pv start (fun i σ H' _ h => by rw [h.1]; exact hS) (fun i x σ H' hx hp => ?_) fun σ H' hp => fin σ H' hp⟩
      obtain ⟨v, rfl, rfl, kn, t1, t2⟩ := turn i x σ H' hx hp
      refine ⟨_, rfl, _, rfl, _, rfl, n, x, rfl, kn, fun h => ?_, t2⟩
      obtain ⟨c, rfl, e, hc, ho⟩ := t1 h
      refine ⟨_, _, rfl, rfl, ⟨by omega, by omega, by decide⟩, _, _, rfl, rfl, ?_⟩
      refine ⟨rfl, ho, some (.int c), ?_⟩
      show [some (V.int n), some (.ref a), some (V.int (Builtin.bitOr (maskV (xs.take i)) ((1 : Int) * (2 : Int) ^ ((c : Int)).toNat))), some (.int c)] = _
      rw [e]
theorem ok_lot_at (T : Ctx K mg) : FnOk P w K mg base CX0 1 T.f_lot_at T.fd_lot_at ["mask"] (spLotAt K) := by
  refine T.F_lot_at.ok sc_lot_at (fun vs H Q E h => ?_) (fun cdv A outer s H vs Q E hr h => ?_)
  · obtain ⟨m, rfl, _⟩ := h
    rfl
  · obtain ⟨m, rfl, q⟩ := h
    refine ⟨_, (pss_one (ps_ret (pe_callTy call_tuple_of (by rfl) T.m_tuple (by decide +kernel) (pa_cons (pe_lc (own := [("copy", 1)]) (g := gName 1) (tt := _) rfl sc_lot_at.nd (pi_range1 (by rfl) T.m_range (pa_cons (pe_glob (v := .int 8) (by rfl) T.gk_MOST_COPIES ⟨_, rfl⟩) pa_nil)) (blkOk_by (own := [("copy", 1)]) (N := ["mask", "copy"]) (sc := defScope s_lot_at) (by decide +kernel)) (fun _ _ _ _ _ => (pg_name (i := 1) sc_lot_at.nd rfl (Or.inl rfl))) (fun _ _ _ _ _ => (pts_one (pt_int (pe_op op_and (pv 0) (pe_op op_shl pe_int (pv 1)))))) (fun _ _ _ _ _ => (pv 1))) pa_nil)))), ?_⟩
    refine ⟨_, rfl, by decide, by decide, fun D nD => lc_itM (walk_range (lo := 0) (n := 8)) (fun i => if m.testBit i then some (V.int i) else none) (fun a y _ => y = a) (fun _ _ _ _ _ h => h) nD (fun _ _ => trivial) (by decide) ?_ ?_⟩
    · rintro i x H1 H' k N hi sm ⟨rfl, rfl⟩ h1 h2
      refine ⟨rfl, _, rfl, _, rfl, _, _, rfl, rfl, ⟨by omega, by omega, by decide⟩, _, _, rfl, rfl, _, rfl, ?_⟩
      have e0 : (Builtin.bitAnd (m : Int) ((1 : Int) * (2 : Int) ^ (0 + (i : Int)).toNat) != 0) = m.testBit i := by rw [Int.zero_add, shl_nat, bitAnd_nat, and_bit]
      rw [e0]
      cases e : m.testBit i with
      | true => exact iteT ⟨_, rfl, h1 _ _ _ (Same.refl _) (by rw [e] <;> rfl) (by show V.int (0 + (i : Int)) = V.int i; rw [Int.zero_add])⟩
      | false => exact iteF (h2 _ (Same.refl _) (by rw [e] <;> rfl))
    · intro H' ys sm hD p
      have e := paired_eq p
      have e2 : ys = lotV m := by
        rw [e]
        unfold lotV lotL oneL
        rw [List.map_map, ← List.filterMap_eq_map, List.filterMap_filter]
        rfl
      subst e2
      exact ⟨D, _, rfl, .inl ⟨SqL.of hD, fun l nl => q l _ (same_upd2 sm (sm.free nl)) (sm.free nl) upd_same⟩⟩
end
section
variable {P : Program} {w : World} {K : PySem.W.Frag} {mg : Str → Option Value} {base : Heap}
theorem ok_BadLot_init (T : Ctx K mg) : FnOk P w K mg base CX0 1 T.f_BadLot_init T.fd_BadLot_init ["self", "place"] (spX1 T.c_BadLot "place") := by
  refine T.F_BadLot_init.ok sc_BadLot_init (fun vs H Q E h => ?_) (fun cdv A outer s H vs Q E hr h => ?_)
  · obtain ⟨a, x, rfl, _⟩ := h
    rfl
  · obtain ⟨a, x, rfl, ha, q⟩ := h
    refine ⟨_, (pss_one (ps_ost (pv 0) (pv 1))), ?_⟩
    exact ⟨_, rfl, _, rfl, a, T.c_BadLot, rfl, T.ox_BadLot, T.n_BadLot_place, .inl ⟨ha, fun d hd hda => q d hd hda⟩⟩
theorem ok_check_alike (T : Ctx K mg) : FnOk P w K mg base (L2.CX P w) 1 T.f_check_alike T.fd_check_alike ["copies", "other"] (spAlike K T.c_Family T.c_Unlike) := by
  refine T.F_check_alike.okX sc_check_alike (fun vs H Q E h => ?_) (fun cdv A outer s H vs Q E hr h => ?_)
  · obtain ⟨n, m, v, g, rfl, _⟩ := h
    rfl
  · obtain ⟨n, m, v, g, rfl, ⟨⟨a, dx, tl, tm, ls, rfl, ha, _⟩, _⟩, k1, k2⟩ := h
    refine ⟨_, (pss_one (ps_if (pt_cmpR op_ne (pe_fld (pv 1) rfl) (pv 0) (nomark _))
        (pss_one (ps_raise rfl (takes_of rfl rfl rfl rfl) (pmk_own0 T.e0_Unlike T.gc_Unlike (by rfl))))
        pss_nil)), ?_⟩
    refine ⟨_, rfl, a, T.c_Family, dx, _, _, rfl, ha, T.cl_Family, T.n_Family_copies, famF_copies _ _ _, _, rfl, rfl, _, rfl, ?_⟩
    by_cases e : n = m
    · subst e
      have e1 : (!decide (V.int (n : Int) = V.int n)) = false := by simp
      rw [e1]
      exact iteF (k1 rfl)
    · have e1 : (!decide (V.int (m : Int) = V.int n)) = true := by
        rw [decide_eq_false (fun z => e (by injection z with z; omega))] <;> rfl
      rw [e1]
      exact iteT (k2 e)
theorem ok_is_within (T : Ctx K mg) : FnOk P w K mg base CX0 1 T.f_is_within T.fd_is_within ["marks", "more"] (spWithin K) := by
  refine T.F_is_within.ok sc_is_within (fun vs H Q E h => ?_) (fun cdv A outer s H vs Q E hr h => ?_)
  · obtain ⟨p, q, n, f, g, rfl, _⟩ := h
    rfl
  · obtain ⟨p, q, n, f, g, rfl, hS, hn, k⟩ := h
    refine ⟨_, (pss_one (ps_ret (pe_callB (cr_all rfl) (by rfl) T.m_all (by decide +kernel) (pa_cons (pe_lc (own := [("mine", 2), ("theirs", 3)]) (g := gTup K 2 (gCons (gName 2) (gCons (gName 3) gNil))) (tt := tYes) rfl sc_is_within.nd (RZ.pi_zipA (by rfl) T.m_zip (pa_cons (pv 0) (pa_cons (pv 1) pa_nil))) (blkOk_by (own := [("mine", 2), ("theirs", 3)]) (N := ["marks", "more", "mine", "theirs"]) (sc := defScope s_is_within) (by decide +kernel)) (fun _ _ _ _ _ => (pg_tup rfl (pgs_cons (pg_name (i := 2) sc_is_within.nd rfl (Or.inl rfl)) (pgs_cons (pg_name (i := 3) sc_is_within.nd rfl (Or.inl rfl)) pgs_nil)))) (fun _ _ _ _ _ => pts_nil) (fun _ _ _ _ _ => (pe_or (pv 3) (pe_one (pe_not (pv 2)))))) pa_nil)))), ?_⟩
    have hl : min (marksV n f).length (marksV n g).length = 2 ^ n := by rw [marksV_len, marksV_len, Nat.min_self]
    have h256 := pow_le8 hn
    have fin : ∀ {D : Addr} {H' : Hp} {ys : List V}, Same H H' → H' D = some (.lst ys) → ys = (List.range (2 ^ n)).map (fun m => V.bl (g m || !f m)) → ∃ (a : Addr) (bs : List Bool), [V.ref D] = [V.ref a] ∧ SqL K H' a (bs.map V.bl) ∧ Q (.bl (bs.all id)) H' := fun {D H' ys} sm hD e => by
      refine ⟨D, (List.range (2 ^ n)).map (fun m => g m || !f m), rfl, ?_, ?_⟩
      · rw [List.map_map]
        rw [e] at hD
        exact SqL.of hD
      · have := k H' sm
        unfold leB at this
        rw [List.all_map]
        exact this
    rcases hS with ⟨h1, h2⟩ | ⟨h1, h2⟩
    · refine ⟨_, rfl, _, rfl, p, q, _, _, rfl, .inr ⟨h1, h2, fun D nD => ?_⟩⟩
      refine lc_itA (walk_zipT hl.symm) (fun m => V.bl (g m || !f m)) (fun a y _ => y = a) (fun _ _ _ _ _ h => h) nD (fun H' e => ⟨Same.seqT e h1, Same.seqT e h2⟩) (by omega) ?_ fun H' ys sm hD pr => fin sm hD (paired_fn (prUnmapL pr))
      rintro m x H1 H' k1 hm sm ⟨t, y, z, rfl, nt, rfl, hy, hz⟩ h1
      obtain ⟨_, rfl⟩ := marksV_get hy
      obtain ⟨_, rfl⟩ := marksV_get hz
      refine ⟨t, _, rfl, .inl (.inl upd_same), rfl, _, _, rfl, _, _, rfl, rfl, rfl, ?_⟩
      refine ⟨_, rfl, _, rfl, ite2 (fun c => ?_) fun c => ⟨_, rfl, _, rfl, ?_⟩⟩
      · exact h1 _ _ (same_upd nt) (by rw [c] <;> rfl)
      · exact h1 _ _ (same_upd nt) (by rw [Bool.eq_false_iff.mpr c, Bool.false_or])
    · refine ⟨_, rfl, _, rfl, p, q, _, _, rfl, .inl ⟨h1, h2, fun D nD => ?_⟩⟩
      refine lc_itA (walk_zip hl.symm) (fun m => V.bl (g m || !f m)) (fun a y _ => y = a) (fun _ _ _ _ _ h => h) nD (fun H' e => ⟨e.seq h1, e.seq h2⟩) (by omega) ?_ fun H' ys sm hD pr => fin sm hD (paired_fn (prUnmapL pr))
      rintro m x H1 H' k1 hm sm ⟨t, y, z, rfl, nt, rfl, hy, hz⟩ h1
      obtain ⟨_, rfl⟩ := marksV_get hy
      obtain ⟨_, rfl⟩ := marksV_get hz
      refine ⟨t, _, rfl, .inl (.inl upd_same), rfl, _, _, rfl, _, _, rfl, rfl, rfl, ?_⟩
      refine ⟨_, rfl, _, rfl, ite2 (fun c => ?_) fun c => ⟨_, rfl, _, rfl, ?_⟩⟩
      · exact h1 _ _ (same_upd nt) (by rw [c] <;> rfl)
      · exact h1 _ _ (same_upd nt) (by rw [Bool.eq_false_iff.mpr c, Bool.false_or])
theorem ok_masks_of (T : Ctx K mg) : FnOk P w K mg base (L2.CX P w) 6 T.f_masks_of T.fd_masks_of ["copies", "lots"] (spMasks K T.c_BadNumber T.c_BadLot) := by
  refine T.F_masks_of.okX sc_masks_of (fun vs H Q E h => ?_) (fun cdv A outer s H vs Q E hr h => ?_)
  · obtain ⟨n, p, ls, xss, rfl, _⟩ := h
    rfl
  · obtain ⟨n, p, ls, xss, rfl, hn, hS, pr, hl, k1, k2, k3⟩ := h
    refine ⟨_, (pss_cons (ps_set (i := 2) sc_masks_of.nd rfl (Or.inl rfl) (pe_lst pa_nil))
      (pss_cons (ps_for (passes_of rfl) rfl (pi_enumA (by rfl) T.m_enumerate (pa_cons (pv 1) pa_nil)) (pg_tup rfl (pgs_cons (pg_name (i := 3) sc_masks_of.nd rfl (Or.inl rfl)) (pgs_cons (pg_name (i := 4) sc_masks_of.nd rfl (Or.inl rfl)) pgs_nil)))
        (pss_cons (ps_set (i := 5) sc_masks_of.nd rfl (Or.inl rfl) (pe_call (ok_mask_of T) (hr.mono (by decide)) (by rfl) T.g_mask_of T.F_mask_of.kp T.b_mask_of .nil (passes_call (takes_of rfl rfl rfl rfl) (fun _ _ _ _ h => h)) (pa_cons (pv 0) (pa_cons (pv 4) pa_nil))))
        (pss_cons (ps_if (pt_cmpR op_eq (pv 5) pe_int (nomark _))
          (pss_one (ps_raise rfl (takes_of rfl rfl rfl rfl) (pmk_oex T.ox_BadLot T.xn_BadLot T.xt_BadLot (ok_BadLot_init T) (hr.mono (by decide)) T.b_BadLot_init .nil pass0 (by rfl) T.gc_BadLot (pa_cons (pv 3) pa_nil))))
          pss_nil)
        (pss_one (ps_expr (pe_bm PySem.F.plainAttrs_list PySem.F.slot_list_append PySem.F.type_list_append mt_append (pv 2) (pa_cons (pv 5) pa_nil)))))))
      (pss_one (ps_ret (pv 2))))), ?_⟩
    refine ⟨(by show 0 ≤ sizeLine; decide), fun q0 nq => ?_⟩
    have el := prLen pr
    refine ⟨_, rfl, p, ls, rfl, .inr ⟨Same.seqT (same_upd nq) hS, ?_⟩⟩
    refine for_it walk_enumT (fun i σ H' => i ≤ ls.length ∧ Same H H' ∧ badFrom n 0 xss = badFrom n i (xss.drop i) ∧ (∃ v3 v4 v5, σ = [some (.int n), some (.ref p), some (.ref q0), v3, v4, v5]) ∧ H' q0 = some (.lst ((xss.take i).map fun xs => .int (maskV xs))))
      ⟨Nat.zero_le _, same_upd nq, rfl, ⟨_, _, _, rfl⟩, upd_same⟩ (fun i σ H' _ h => Same.seqT h.2.1 hS) ?_ ?_
    · rintro i x σ H1 H2 hi ⟨_, sm, hb, ⟨v3, v4, v5, rfl⟩, hq⟩ ⟨t, y, z, rfl, nt, rfl, hy, hz⟩
      cases hy
      obtain ⟨xs, hxs, b, rfl, hA, sc⟩ := prAt pr hz
      have st := same_upd (o := .tup [.int (i : Nat), .ref b]) nt
      have hq2 := st _ _ hq
      have sm2 := sm.trans st
      have e1000 : (1000 : Nat) < sizeLine := by decide
      have hdrop : xss.drop i = xs :: xss.drop (i + 1) := by
        obtain ⟨h1, h2⟩ := List.getElem?_eq_some_iff.mp hxs
        rw [← h2]
        exact List.drop_eq_getElem_cons h1
      rw [hdrop] at hb
      have hb2 : badFrom n i (xs :: xss.drop (i + 1)) = match badOf n xs with
        | some x => .copy x
        | none => if maskV xs = 0 then .empty i else badFrom n (i + 1) (xss.drop (i + 1)) := rfl
      rw [hb2] at hb
      refine ⟨t, _, rfl, .inl (.inl upd_same), rfl, _, _, rfl, _, _, rfl, rfl, ?_⟩
      refine ⟨_, rfl, _, rfl, n, b, xs, rfl, hn, hA.same sm2, sc, fun ho => ?_, fun x ho => ?_⟩
      · rw [ho] at hb
        simp only at hb
        refine ⟨_, rfl, rfl, _, rfl, ?_⟩
        by_cases hz : maskV xs = 0
        · rw [hz, if_pos rfl] at hb
          rw [hz]
          exact iteT ⟨_, rfl, mk1 ((k3 i hb).of sm2)⟩
        · rw [if_neg hz] at hb
          have e1 : decide (V.int (maskV xs : Nat) = V.int 0) = false := decide_eq_false fun z => by injection z with z; omega
          rw [e1]
          refine iteF ⟨_, rfl, .inl ⟨rfl, _, SqL.of hq2⟩, _, rfl, q0, _, _, rfl, rfl, hq2, by rw [List.length_map, List.length_take]; omega, ?_⟩
          refine ⟨hi, same_upd2 sm2 nq, hb, ⟨_, _, _, rfl⟩, ?_⟩
          rw [upd_same, List.take_add_one, hxs, List.map_append]
          rfl
      · rw [ho] at hb
        exact (k2 x hb).of sm2
    · rintro σ H1 ⟨_, sm, hb, ⟨v3, v4, v5, rfl⟩, hq⟩
      have e0 : xss.drop ls.length = [] := List.drop_eq_nil_of_le (by omega)
      have e1 : xss.take ls.length = xss := List.take_of_length_le (by omega)
      rw [e0] at hb
      rw [e1] at hq
      exact ⟨_, rfl, k1 hb q0 H1 sm nq hq⟩
theorem ok_marks_above (T : Ctx K mg) : FnOk P w K mg base CX0 1 T.f_marks_above T.fd_marks_above ["copies", "masks"] (spAbove K) := by
  refine T.F_marks_above.ok sc_marks_above (fun vs H Q E h => ?_) (fun cdv A outer s H vs Q E hr h => ?_)
  · obtain ⟨n, p, ms, rfl, _⟩ := h
    rfl
  · obtain ⟨n, p, ms, rfl, hn, hS, hms, k⟩ := h
    refine ⟨_, (pss_cons (ps_set (i := 2) sc_marks_above.nd rfl (Or.inr rfl) (pe_lc (own := [("_", 3)]) (g := gName 3) (tt := tYes) rfl sc_marks_above.nd (pi_range1 (by rfl) T.m_range (pa_cons (pe_op op_shl pe_int (pv 0)) pa_nil)) (blkOk_by (own := [("_", 3)]) (N := ["copies", "masks", "marks", "_", "mask", "copy", "bit", "mark"]) (sc := defScope s_marks_above) (by decide +kernel)) (fun _ _ _ _ _ => (pg_name (i := 3) sc_marks_above.nd rfl (Or.inl rfl))) (fun _ _ _ _ _ => pts_nil) (fun _ _ _ _ _ => pe_bl)))
      (pss_cons (ps_for PassesOwn.never rfl (pi_list (pv 1)) (pg_name (i := 4) sc_marks_above.nd rfl (Or.inl rfl))
        (pss_one (ps_asg pe_bl (pg_sub (pv 2) (pv 4) set_list))))
      (pss_cons (ps_for PassesOwn.never rfl (pi_range1 (by rfl) T.m_range (pa_cons (pv 0) pa_nil)) (pg_name (i := 5) sc_marks_above.nd rfl (Or.inl rfl))
        (pss_cons (ps_set (i := 6) sc_marks_above.nd rfl (Or.inr rfl) (pe_op op_shl pe_int (pv 5)))
        (pss_one (ps_set (i := 2) sc_marks_above.nd rfl (Or.inr rfl) (pe_lc (own := [("mask", 4), ("mark", 7)]) (g := gTup K 2 (gCons (gName 4) (gCons (gName 7) gNil))) (tt := tYes) rfl sc_marks_above.nd (pi_enumA (by rfl) T.m_enumerate (pa_cons (pv 2) pa_nil)) (blkOk_by (own := [("mask", 4), ("mark", 7)]) (N := ["copies", "masks", "marks", "_", "mask", "copy", "bit", "mark"]) (sc := defScope s_marks_above) (by decide +kernel)) (fun _ _ _ _ _ => (pg_tup rfl (pgs_cons (pg_name (i := 4) sc_marks_above.nd rfl (Or.inl rfl)) (pgs_cons (pg_name (i := 7) sc_marks_above.nd rfl (Or.inl rfl)) pgs_nil)))) (fun _ _ _ _ _ => pts_nil) (fun _ _ _ _ _ => (pe_or (pv 7) (pe_one (pe_ix (ixK_list (K := K) rfl) (pv 2) (pe_op op_and (pv 4) (pe_un un_inv (pv 6))) (fun _ _ => rfl))))))))))
      (pss_one (ps_ret (pv 2)))))), ?_⟩
    have h256 := pow_le8 hn
    have e256 : (256 : Nat) < sizeLine := by decide
    have sh : (1 : Int) * (2 : Int) ^ ((n : Int)).toNat = ((2 ^ n : Nat) : Int) := by rw [shl_nat, Nat.one_shiftLeft]
    refine ⟨_, rfl, _, _, rfl, rfl, ⟨by omega, by omega, by decide⟩, ?_⟩
    have small : ∀ N : Nat, N ≤ 256 → -(2 ^ 62) ≤ (N : Int) ∧ (N : Int) < 2 ^ 62 := fun N h => ⟨by omega, by omega⟩
    refine ⟨((2 ^ n : Nat) : Int), congrArg (fun z => [V.int z]) sh, (small _ h256).1, (small _ h256).2, fun q0 nq => ?_⟩
    rw [Int.toNat_natCast]
    have nq' := nq
    refine lc_itA (walk_range (lo := 0) (n := 2 ^ n)) (fun _ => V.bl false) (fun a y _ => y = a) (fun _ _ _ _ _ h => h) nq (fun _ _ => trivial) (by omega) ?_ ?_
    · rintro m x H1 H2 k1 hm s1 ⟨rfl, rfl⟩ h1
      exact ⟨rfl, h1 _ _ (Same.refl _) rfl⟩
    intro H0 ys s0 hD pr
    have hq0 : H0 q0 = some (.lst (marksV n fun m => decide (m ∈ ms.take 0))) := by
      rw [hD, paired_fn (prUnmapL pr)]
      refine congrArg (fun z => some (HO.lst z)) ?_
      unfold marksV
      rw [List.map_map]
      exact List.map_congr_left fun m _ => by simp
    clear hD pr
    have hp0 := s0.seq hS
    refine ⟨_, rfl, p, rfl, ⟨_, hp0⟩, for_list (K := K) (a := p) (xs := ms.map fun (m : Nat) => V.int m) (fun i σ H' => i ≤ ms.length ∧ Same H H' ∧ H' q0 = some (.lst (marksV n fun m => decide (m ∈ ms.take i))) ∧ ∃ v3, σ = [some (.int n), some (.ref p), some (.ref q0), none, v3, none, none, none])
      ⟨Nat.zero_le _, s0, hq0, _, rfl⟩ (fun i σ H' _ h => h.2.1.seq hS) ?_ ?_⟩
    · rintro i x σ H1 hx ⟨_, sm, hq, v3, rfl⟩
      rw [List.getElem?_map] at hx
      cases hm : ms[i]? with
      | none => rw [hm] at hx; cases hx
      | some m =>
        rw [hm] at hx
        cases hx
        have hlt := hms m (List.mem_of_getElem? hm)
        refine ⟨_, rfl, _, rfl, q0, _, _, m, rfl, rfl, hq, ?_, ?_⟩
        · rw [marksV_len]
          exact ixN_nat hlt
        · refine ⟨(List.getElem?_eq_some_iff.mp hm).1, same_upd2 sm nq', ?_, _, rfl⟩
          rw [upd_same, marksV_set _ hlt]
          refine congrArg (fun z => some (HO.lst z)) (marksV_congr fun k _ => ?_)
          rw [List.take_add_one, hm]
          simp only [Option.toList_some, List.mem_append, List.mem_singleton, Bool.decide_or]
          by_cases e : k = m
          · simp [e]
          · simp [e]
    · rintro σ H1 ⟨_, sm, hq, v3, rfl⟩
      rw [List.length_map, List.take_length] at hq
      have e0 : ∀ m, growN 0 (fun m => decide (m ∈ ms)) m = decide (m ∈ ms) := fun _ => rfl
      refine ⟨_, rfl, n, rfl, by omega, by omega, for_range (n := n) (fun i σ H' => i ≤ n ∧ Same H H' ∧ ∃ qi v3 v4 v5 v6, σ = [some (.int n), some (.ref p), some (.ref qi), none, v3, v4, v5, v6] ∧ H qi = none ∧ H' qi = some (.lst (marksV n (growN i fun m => decide (m ∈ ms)))))
        ⟨Nat.zero_le _, sm, q0, _, _, _, _, rfl, nq', hq⟩ ?_ ?_⟩
      · rintro i σ H2 hi ⟨_, sm2, qi, v3, v4, v5, v6, rfl, nqi, hqi⟩
        have hi : i < n := by omega
        refine ⟨_, rfl, _, _, rfl, rfl, ⟨by omega, by omega, by decide⟩, ?_⟩
        refine ⟨_, rfl, qi, _, rfl, .inl ⟨SqL.of hqi, fun D nD => ?_⟩⟩
        refine lc_itA walk_enum (fun m => V.bl (growN (i + 1) (fun m => decide (m ∈ ms)) m)) (fun a y _ => y = a) (fun _ _ _ _ _ h => h) nD (fun H' e => e.seq (SqL.of hqi)) (by rw [marksV_len]; omega) ?_ ?_
        · rintro m x H3 H4 k1 hm s3 ⟨t, y, z, rfl, nt, rfl, hy, hz⟩ h1
          cases hy
          obtain ⟨hmn, rfl⟩ := marksV_get hz
          refine ⟨t, _, rfl, .inl (.inl upd_same), rfl, _, _, rfl, _, _, rfl, rfl, rfl, ?_⟩
          refine ⟨_, rfl, _, rfl, ite2 (fun c => ?_) fun c => ⟨_, rfl, _, rfl, _, rfl, _, rfl, _, _, rfl, rfl, ?_⟩⟩
          · refine h1 _ _ (same_upd nt) ?_
            show V.bl true = V.bl (growN i _ m || growN i _ (cl m i))
            rw [c] <;> rfl
          · refine ⟨qi, _, _, .bl (growN i (fun m => decide (m ∈ ms)) (cl m i)), rfl, rfl, SqL.of (same_upd nt _ _ (s3 _ _ hqi)), at_of (j := cl m i) ?_ (marksV_at _ (Nat.lt_of_le_of_lt (cl_le m i) hmn)), h1 _ _ (same_upd nt) ?_⟩
            · rw [Int.zero_add]
              exact and_not m i
            · show V.bl _ = V.bl (growN i _ m || growN i _ (cl m i))
              rw [Bool.eq_false_iff.mpr c, Bool.false_or]
        · intro H3 zs s3 hD pz
          have ez := paired_fn (prUnmapL pz)
          rw [marksV_len] at ez
          rw [marksV_fn ez] at hD
          exact ⟨hi, sm2.trans s3, D, _, _, _, _, rfl, sm2.free nD, hD⟩
      · rintro σ H2 ⟨_, sm2, qi, v3, v4, v5, v6, rfl, nqi, hqi⟩
        refine ⟨_, rfl, k qi H2 sm2 nqi ?_⟩
        rw [hqi]
        exact congrArg (fun z => some (HO.lst z)) (marksV_congr fun m hm => growN_up hn hm hms)
theorem ok_minimal_lots (T : Ctx K mg) : FnOk P w K mg base CX0 2 T.f_minimal_lots T.fd_minimal_lots ["copies", "marks"] (spMinimal K) := by
  refine T.F_minimal_lots.ok sc_minimal_lots (fun vs H Q E h => ?_) (fun cdv A outer s H vs Q E hr h => ?_)
  · obtain ⟨n, p, f, rfl, _⟩ := h
    rfl
  · obtain ⟨n, p, f, rfl, hn, hS, k⟩ := h
    refine ⟨_, (pss_cons (ps_setLc (i := 2) (own := [("copy", 3)]) (g := gName 3) (tt := tYes) rfl sc_minimal_lots.nd rfl rfl (sw_true rfl rfl rfl (by decide +kernel)) (pi_range1 (by rfl) T.m_range (pa_cons (pv 0) pa_nil)) (blkOk_by (own := [("copy", 3)]) (N := ["copies", "marks", "bits", "copy", "found", "mask", "mark", "bit"]) (sc := defScope s_minimal_lots) (by decide +kernel)) (fun _ _ _ _ _ => (pg_name (i := 3) sc_minimal_lots.nd rfl (Or.inl rfl))) (fun _ _ _ _ _ => pts_nil) (fun _ _ _ _ _ => (pe_op op_shl pe_int (pv 3))))
      (pss_cons (ps_set (i := 4) sc_minimal_lots.nd rfl (Or.inl rfl) (pe_lst pa_nil))
      (pss_cons (ps_for PassesOwn.never rfl (pi_enumA (by rfl) T.m_enumerate (pa_cons (pv 1) pa_nil)) (pg_tup rfl (pgs_cons (pg_name (i := 5) sc_minimal_lots.nd rfl (Or.inr rfl)) (pgs_cons (pg_name (i := 6) sc_minimal_lots.nd rfl (Or.inl rfl)) pgs_nil)))
        (pss_one (ps_if (PW.pt (pw_and (pt_val (pv 6)) (pw_and1 (pt_not (pt_val (pe_callB (cr_any rfl) (by rfl) T.m_any (by decide +kernel) (pa_cons (pe_lc (own := [("bit", 7)]) (g := gName 7) (tt := _) rfl sc_minimal_lots.nd (pi_list (pv 2)) (blkOk_by (own := [("bit", 7)]) (N := ["copies", "marks", "bits", "copy", "found", "mask", "mark", "bit"]) (sc := defScope s_minimal_lots) (by decide +kernel)) (fun _ _ _ _ _ => (pg_name (i := 7) sc_minimal_lots.nd rfl (Or.inl rfl))) (fun _ _ _ _ _ => (pts_one (pt_int (pe_op op_and (pv 5) (pv 7))))) (fun _ _ _ _ _ => (pe_ix (ixK_list (K := K) rfl) (pv 1) (pe_op op_sub (pv 5) (pv 7)) (fun _ _ => rfl)))) pa_nil)))))))
          (pss_one (ps_expr (pe_bm PySem.F.plainAttrs_list PySem.F.slot_list_append PySem.F.type_list_append mt_append (pv 4) (pa_cons (pe_call (ok_lot_at T) (hr.mono (by decide)) (by rfl) T.g_lot_at T.F_lot_at.kp T.b_lot_at .nil pass0 (pa_cons (pv 5) pa_nil)) pa_nil))))
          pss_nil)))
      (pss_one (ps_ret (pv 4)))))), ?_⟩
    have h256 := pow_le8 hn
    have e256 : (256 : Nat) < sizeLine := by decide
    refine ⟨_, rfl, n, rfl, by omega, by omega, fun B nB => ?_⟩
    rw [Int.toNat_natCast]
    refine lc_itA (walk_range (lo := 0) (n := n)) (fun c => V.int (1 <<< c : Nat)) (fun a y _ => y = a) (fun _ _ _ _ _ h => h) nB (fun _ _ => trivial) (by omega) ?_ ?_
    · rintro c x H1 H' k1 hc sm ⟨rfl, rfl⟩ h1
      refine ⟨rfl, _, rfl, _, _, rfl, rfl, ⟨by omega, by omega, by decide⟩, h1 _ _ (Same.refl _) ?_⟩
      show V.int ((1 : Int) * (2 : Int) ^ (0 + (c : Int)).toNat) = _
      rw [Int.zero_add, shl_nat]
    intro H1 bs s1 hB pb
    have eb := paired_fn (prUnmapL pb)
    refine ⟨(by show 0 ≤ sizeLine; decide), fun q0 nq => ?_⟩
    have s2 := s1.trans (same_upd (o := .lst []) nq)
    have hB2 := same_upd (o := .lst []) nq _ _ hB
    have hq0 : upd H1 q0 (.lst []) q0 = some (.lst []) := upd_same
    have nqH := s1.free nq
    have ne : q0 ≠ B := Ne.symm (ne_of_none hB nq)
    revert s2 hB2 hq0
    generalize upd H1 q0 _ = H2
    intro s2 hB2 hq0
    refine ⟨_, rfl, p, _, rfl, .inl ⟨s2.seq hS, ?_⟩⟩
    refine for_it walk_enum (fun i σ H' => i ≤ (marksV n f).length ∧ Same H H' ∧ H' B = some (.lst bs) ∧ (∃ v4 v5 v6 v7, σ = [some (.int n), some (.ref p), some (.ref B), v4, some (.ref q0), v5, v6, v7]) ∧ ∃ ls, H' q0 = some (.lst ls) ∧ ls.length ≤ i ∧ Paired (fun m y => Lot K H' m y) ((List.range i).filter (minB n f)) ls)
      ⟨Nat.zero_le _, s2, hB2, ⟨_, _, _, _, rfl⟩, [], hq0, Nat.le_refl _, .nil⟩ (fun i σ H' _ h => h.2.1.seq hS) ?_ ?_
    · rintro m x σ H3 H4 hm ⟨_, s3, hB3, ⟨v4, v5, v6, v7, rfl⟩, ls, hq, hl, pl⟩ ⟨t, y, z, rfl, nt, rfl, hy, hz⟩
      cases hy
      obtain ⟨hmn, rfl⟩ := marksV_get hz
      rw [marksV_len] at hm
      have st := same_upd (o := .tup [V.int (m : Nat), .bl (f m)]) nt
      have hB4 := st _ _ hB3
      have hq4 := st _ _ hq
      have s4 := s3.trans st
      have pl4 := prImp (fun m y (h : Lot K H3 m y) => h.same st) pl
      refine ⟨t, _, rfl, .inl (.inl upd_same), rfl, _, _, rfl, _, _, rfl, rfl, ?_⟩
      revert hB4 hq4 s4 pl4
      generalize upd H3 t _ = H4
      intro hB4 hq4 s4 pl4
      have more : ∀ {b : Bool}, minB n f m = b → (List.range (m + 1)).filter (minB n f) = (List.range m).filter (minB n f) ++ (if b = true then [m] else []) := fun {b} e => by
        rw [List.range_succ, List.filter_append, List.filter_cons, e] <;> rfl
      refine ⟨_, rfl, _, rfl, ite2 (fun c => ?_) fun c => iteF ?_⟩
      · refine ⟨_, rfl, B, rfl, ⟨_, SqL.of hB4⟩, fun D nD => ?_⟩
        refine lc_itM (walk_list (K := K) (a := B) (xs := bs)) (fun c => if m.testBit c = true then some (V.bl (f (m - 1 <<< c))) else none) (fun a y _ => y = a) (fun _ _ _ _ _ h => h) nD (fun H' e => e.seq (SqL.of hB4)) (by rw [eb, List.length_map, List.length_range]; omega) ?_ ?_
        · rintro c x H5 H6 k1 N hc s5 ⟨rfl, hx⟩ h1 h2
          rw [eb, List.getElem?_map] at hx
          have hcn : c < n := by
            rw [eb, List.length_map, List.length_range] at hc
            exact hc
          rw [List.getElem?_range hcn] at hx
          cases hx
          refine ⟨rfl, _, rfl, _, rfl, _, _, rfl, rfl, _, rfl, ?_⟩
          have e0 : (Builtin.bitAnd (m : Int) ((1 <<< c : Nat) : Int) != 0) = m.testBit c := by rw [bitAnd_nat, and_bit]
          rw [e0]
          cases e : m.testBit c with
          | false => exact iteF (h2 _ (Same.refl _) (by rw [e] <;> rfl))
          | true =>
            have hle : 1 <<< c ≤ m := by
              have := and_one m c
              rw [e, if_pos rfl] at this
              rw [← this]
              exact Nat.and_le_left
            have es : (m : Int) - ((1 <<< c : Nat) : Int) = ((m - 1 <<< c : Nat) : Int) := by
              generalize 1 <<< c = k at hle ⊢
              omega
            refine iteT ⟨_, rfl, _, rfl, _, rfl, _, _, rfl, rfl, p, _, _, .bl (f (m - 1 <<< c)), rfl, rfl, (s4.trans s5).seq hS, at_of (j := m - 1 <<< c) es (marksV_at _ (Nat.lt_of_le_of_lt (Nat.sub_le _ _) hmn)), h1 _ _ _ (Same.refl _) (by rw [e] <;> rfl) rfl⟩
        · intro H5 zs s5 hD pz
          have ez := paired_eq pz
          have ez2 : zs = ((List.range n).filterMap fun c => if m.testBit c = true then some (f (m - 1 <<< c)) else none).map V.bl := by
            rw [ez, eb, List.length_map, List.length_range, List.map_filterMap]
            refine fm_congr fun c _ => ?_
            cases m.testBit c <;> rfl
          rw [ez2] at hD
          refine ⟨D, _, rfl, SqL.of hD, _, rfl, ?_⟩
          have em : minB n f m = !((((List.range n).filterMap fun c => if m.testBit c = true then some (f (m - 1 <<< c)) else none)).any id) := by
            unfold minB
            rw [c, any_fm] <;> rfl
          show (if (!((((List.range n).filterMap fun c => if m.testBit c = true then some (f (m - 1 <<< c)) else none)).any id)) = true then _ else _)
          rw [← em]
          have hq5 := s5 _ _ hq4
          have pl5 := prImp (fun m y (h : Lot K H4 m y) => h.same s5) pl4
          cases e : minB n f m with
          | true =>
            refine iteT ⟨_, rfl, .inl ⟨rfl, _, SqL.of hq5⟩, _, rfl, m, rfl, fun a H6 s6 na ha => ?_⟩
            have hq6 := s6 _ _ hq5
            refine ⟨q0, _, _, rfl, rfl, hq6, by omega, ?_⟩
            refine ⟨by rw [marksV_len]; omega, same_upd2 (s4.trans (s5.trans s6)) nqH, by rw [upd_ne (Ne.symm ne)]; exact s6 _ _ (s5 _ _ hB4), ⟨_, _, _, _, rfl⟩, ls ++ [.ref a], upd_same, by rw [List.length_append, List.length_singleton]; omega, ?_⟩
            rw [more e, if_pos rfl]
            have t6 := sameT_upd (ys := ls ++ [.ref a]) hq6
            exact prApp (prImp (fun m y h => (h.same s6).sameT t6) pl5) (.cons ⟨a, rfl, .inl (.inl (t6.tup ha))⟩ .nil)
          | false =>
            refine iteF ⟨by rw [marksV_len]; omega, s4.trans s5, s5 _ _ hB4, ⟨_, _, _, _, rfl⟩, ls, hq5, by omega, ?_⟩
            rw [more e, if_neg (by simp), List.append_nil]
            exact pl5
      · have em : minB n f m = false := by
          unfold minB
          rw [Bool.eq_false_iff.mpr c] <;> rfl
        refine ⟨by rw [marksV_len]; omega, s4, hB4, ⟨_, _, _, _, rfl⟩, ls, hq4, by omega, ?_⟩
        rw [more em, if_neg (by simp), List.append_nil]
        exact pl4
    · rintro σ H3 ⟨_, s3, hB3, ⟨v4, v5, v6, v7, rfl⟩, ls, hq, hl, pl⟩
      rw [marksV_len] at pl
      exact ⟨_, rfl, k q0 ls H3 s3 nqH hq pl⟩
theorem ok_Family_init (T : Ctx K mg) : FnR P w K mg base (L2.CX P w) 7 T.f_Family_init (spStar 2 (spFam0 K T.c_Family T.c_BadNumber T.c_BadLot)) := by
  refine Fun.okStar (ps := ["self", "copies"]) (pv := "lots") T.F_Family_init sc_Family_init bs_Family_init (fun cdv A outer s H vs Q E hr h => ?_)
  obtain ⟨a, dx, c, p, ls, xss, rfl, ha, kn, hS, pr, hl, kc, kk⟩ := h
  refine ⟨_, (pss_cons (ps_expr (pe_call (ok_check_copies T) (hr.mono (by decide)) (by rfl) T.g_check_copies T.F_check_copies.kp T.b_check_copies .nil (passes_call (takes_of rfl rfl rfl rfl) (fun _ _ _ _ h => h)) (pa_cons (pv 1) pa_nil)))
      (pss_cons (ps_if (pt_cmpR op_eq (pe_callB call_len_seq (by rfl) T.m_len (by decide +kernel) (pa_cons (pv 2) pa_nil)) pe_int (nomark _))
        (pss_one (ps_raise rfl (takes_of rfl rfl rfl rfl) (pmk_oex T.ox_BadNumber T.xn_BadNumber T.xt_BadNumber (ok_BadNumber_init T) (hr.mono (by decide)) T.b_BadNumber_init .nil pass0 (by rfl) T.gc_BadNumber (pa_cons pe_str (pa_cons pe_int pa_nil)))))
        pss_nil)
      (pss_cons (ps_set (i := 3) sc_Family_init.nd rfl (Or.inl rfl) (pe_call (ok_marks_above T) (hr.mono (by decide)) (by rfl) T.g_marks_above T.F_marks_above.kp T.b_marks_above .nil pass0 (pa_cons (pv 1) (pa_cons (pe_call (ok_masks_of T) (hr.mono (by decide)) (by rfl) T.g_masks_of T.F_masks_of.kp T.b_masks_of .nil (passes_call (takes_of rfl rfl rfl rfl) (fun _ _ _ _ h => h)) (pa_cons (pv 1) (pa_cons (pv 2) pa_nil))) pa_nil))))
      (pss_cons (ps_fld (pv 0) (pv 1) rfl)
      (pss_cons (ps_fld (pv 0) (pe_callTy call_tuple_ofZ (by rfl) T.m_tuple (by decide +kernel) (pa_cons (pe_call (ok_minimal_lots T) (hr.mono (by decide)) (by rfl) T.g_minimal_lots T.F_minimal_lots.kp T.b_minimal_lots .nil pass0 (pa_cons (pv 1) (pa_cons (pv 3) pa_nil))) pa_nil)) rfl)
      (pss_one (ps_fld (pv 0) (pe_callTy call_tuple_ofZ (by rfl) T.m_tuple (by decide +kernel) (pa_cons (pv 3) pa_nil)) rfl))))))), ?_⟩
  refine ⟨_, rfl, c, rfl, kn, fun hg => ?_, kc⟩
  obtain ⟨n, rfl, n1, n8⟩ := good_copies hg
  obtain ⟨k1, k2⟩ := kk n rfl n1 n8
  have el := prLen pr
  have h256 := pow_le8 n8
  refine ⟨_, rfl, p, ls, rfl, .inr hS, rfl, _, rfl, ?_⟩
  by_cases he : xss = []
  · have e0 : decide (V.int (ls.length : Nat) = V.int 0) = true := by rw [el, he] <;> rfl
    rw [e0]
    exact iteT (mk2 (k1 he))
  · obtain ⟨k2, k3, k4⟩ := k2 he
    have e0 : decide (V.int (ls.length : Nat) = V.int 0) = false := decide_eq_false fun z => he (List.length_eq_zero_iff.mp (by injection z with z; omega))
    rw [e0]
    refine iteF ⟨_, rfl, _, rfl, _, rfl, n, p, ls, xss, rfl, n8, hS, pr, hl, fun hb q H1 s1 nq hq => ?_, k2, k3⟩
    have hms : ∀ m ∈ xss.map maskV, m < 2 ^ n := fun m hm => by
      obtain ⟨xs, hxs, rfl⟩ := List.mem_map.mp hm
      exact mask_lt fun x hx => badOf_none (badFrom_ok hb xs hxs).1 hx
    refine ⟨n, q, xss.map maskV, rfl, n8, by rw [List.map_map]; exact SqL.of hq, hms, fun q2 H2 s2 nq2 hq2 => ?_⟩
    have ha2 := s2 _ _ (s1 _ _ ha)
    have s12 := s1.trans s2
    have F : Fm n (upB (xss.map maskV)) := fm_upB n1 n8 (fun z => he (List.map_eq_nil_iff.mp z)) fun m hm => by
      obtain ⟨xs, hxs, rfl⟩ := List.mem_map.mp hm
      exact ⟨hms _ hm, (badFrom_ok hb xs hxs).2⟩
    -- self.copies
    refine ⟨_, rfl, _, rfl, a, T.c_Family, dx, _, rfl, ha2, T.cl_Family, T.n_Family_copies, by decide, ?_⟩
    have ha3 : upd H2 a (.ins T.c_Family dx (putF "copies" (.int n) [])) a = some (.ins T.c_Family dx (putF "copies" (.int n) [])) := upd_same
    have e3 : Exc a H2 (upd H2 a (.ins T.c_Family dx (putF "copies" (.int n) []))) := exc_at
    have hm3 := e3 q2 _ (fun z => by rw [z, ha2] at hq2; cases hq2) hq2
    revert ha3 e3 hm3
    generalize upd H2 a _ = H3
    intro ha3 e3 hm3
    -- self.lots
    refine ⟨_, rfl, _, rfl, n, q2, _, rfl, n8, SqL.of hm3, fun q4 ms4 H4 s4 nq4 hq4 pl4 => ?_⟩
    refine ⟨q4, ms4, rfl, SqL.of hq4, fun tl ob1 ntl _ => ?_⟩
    have s5 := s4.trans (same_upd (o := .frz ob1 (.tup ms4)) ntl)
    have htl : upd H4 tl (.frz ob1 (.tup ms4)) tl = some (.frz ob1 (.tup ms4)) := upd_same
    have pl5 := prImp (fun m y (h : Lot K H4 m y) => h.same (same_upd (o := .frz ob1 (.tup ms4)) ntl)) pl4
    have hm5 := s5 _ _ hm3
    have ha5 := s5 _ _ ha3
    revert s5 htl pl5 hm5 ha5
    generalize upd H4 tl _ = H5
    intro s5 htl pl5 hm5 ha5
    refine ⟨_, rfl, a, T.c_Family, dx, _, rfl, ha5, T.cl_Family, T.n_Family_lots, few1, ?_⟩
    have ha6 : upd H5 a (.ins T.c_Family dx (putF "lots" (.ref tl) (putF "copies" (.int n) []))) a = some (.ins T.c_Family dx (putF "lots" (.ref tl) (putF "copies" (.int n) []))) := upd_same
    have e6 : Exc a H5 (upd H5 a (.ins T.c_Family dx (putF "lots" (.ref tl) (putF "copies" (.int n) [])))) := exc_at
    have hm6 := e6 q2 _ (fun z => by rw [z, ha5] at hm5; cases hm5) hm5
    have htl6 := e6 tl _ (fun z => by rw [z, ha5] at htl; cases htl) htl
    have pl6 := prImp (fun m y (h : Lot K H5 m y) => h.exc ha5 e6) pl5
    revert ha6 e6 hm6 htl6 pl6
    generalize upd H5 a _ = H6
    intro ha6 e6 hm6 htl6 pl6
    -- self.marks
    refine ⟨_, rfl, q2, _, rfl, SqL.of hm6, fun tm ob2 ntm hdn => ?_⟩
    have s7 := same_upd (o := .frz ob2 (.tup (marksV n (upB (xss.map maskV))))) ntm
    have htm : upd H6 tm (.frz ob2 (.tup (marksV n (upB (xss.map maskV))))) tm = some (.frz ob2 (.tup (marksV n (upB (xss.map maskV))))) := upd_same
    have htl7 := s7 _ _ htl6
    have pl7 := prImp (fun m y (h : Lot K H6 m y) => h.same s7) pl6
    have ha7 := s7 _ _ ha6
    revert s7 htm htl7 pl7 ha7
    generalize upd H6 tm _ = H7
    intro s7 htm htl7 pl7 ha7
    refine ⟨_, rfl, a, T.c_Family, dx, _, rfl, ha7, T.cl_Family, T.n_Family_marks, few2, ?_⟩
    have e8 : Exc a H7 (upd H7 a (.ins T.c_Family dx (famF n tl tm))) := exc_at
    refine k4 hb _ (fun b o hb nb => ?_) ⟨⟨a, dx, tl, tm, ms4, rfl, upd_same, ?_, ?_, ob2, ?_, hdn⟩, F⟩
    · exact e8 b o nb (s7 _ _ (e6 b o nb (s5 _ _ (e3 b o nb (s12 _ _ hb)))))
    · exact seqT_exc ha7 e8 (.inl (.inr ⟨ob1, htl7⟩))
    · exact prImp (fun m y (h : Lot K H7 m y) => h.exc ha7 e8) pl7
    · exact e8 tm _ (fun z => by rw [z, ha7] at htm; cases htm) htm
theorem ok_marked (T : Ctx K mg) : FnOk P w K mg base CX0 9 T.f_marked T.fd_marked ["copies", "marks"] (spMarked K T.c_Family) := by
  refine T.F_marked.ok sc_marked (fun vs H Q E h => ?_) (fun cdv A outer s H vs Q E hr h => ?_)
  · obtain ⟨n, p, f, rfl, _⟩ := h
    rfl
  · obtain ⟨n, p, f, rfl, hS, F, k⟩ := h
    refine ⟨_, (pss_cons (ps_set (i := 2) sc_marked.nd rfl (Or.inl rfl) (pe_call (ok_minimal_lots T) (hr.mono (by decide)) (by rfl) T.g_minimal_lots T.F_minimal_lots.kp T.b_minimal_lots .nil pass0 (pa_cons (pv 0) (pa_cons (pv 1) pa_nil))))
      (pss_one (ps_ret (pe_makeS2 T.M_Family (ok_Family_init T) (hr.mono (by decide)) (by rfl) T.gc_Family passL (pa_cons (pv 0) (StX.pa_star (pv 2) pa_nil)))))), ?_⟩
    have h256 := pow_le8 F.n8
    refine ⟨_, rfl, _, rfl, n, p, f, rfl, F.n8, hS, fun q ls H1 s1 nq hq pl => ?_⟩
    have lm : ∀ m ∈ minL n f, m < 2 ^ n ∧ m ≠ 0 ∧ m < 256 := fun m hm => by
      have h1 := minL_lt hm
      refine ⟨h1, fun z => ?_, by omega⟩
      have h2 := minL_f hm
      rw [z, F.bot] at h2
      cases h2
    have ll : (minL n f).length ≤ 256 := by
      unfold minL
      refine Nat.le_trans (List.length_filter_le _ _) ?_
      rw [List.length_range]
      exact h256
    have el := prLen pl
    refine ⟨_, rfl, _, rfl, q, ls, rfl, .inr (SqL.of hq), ?_⟩
    show ∀ x dx, _
    rw [List.append_nil]
    refine mk_fam (xss := (minL n f).map lotV) F.n1 F.n8 (prMapL (prImp (fun m y (h : Lot K H1 m y) => h.arg) pl)) (by omega) (fun z => minL_ne F (List.map_eq_nil_iff.mp z)) (badFrom_lots lm) fun a H2 s2 G => ?_
    rw [masks_lots fun m hm => (lm m hm).2.2] at G
    exact k _ H2 (s1.trans s2) (G.congr (fun m hm => fm_min F hm) F)
end
section
variable {P : Program} {w : World} {K : PySem.W.Frag} {mg : Str → Option Value} {base : Heap}
theorem ok_Family_le (T : Ctx K mg) : FnOk P w K mg base (L2.CX P w) 3 T.f_Family_le T.fd_Family_le ["self", "other"] (spTwo K T.c_Family T.c_Unlike (tellsB leB)) := by
  refine T.F_Family_le.okX sc_Family_le (fun vs H Q E h => ?_) (fun cdv A outer s H vs Q E hr h => ?_)
  · obtain ⟨x, y, n, m, f, g, rfl, _⟩ := h
    rfl
  · obtain ⟨x, y, n, m, f, g, rfl, ⟨⟨a, dx, tl, tm, ls, rfl, ha, h2, h3, ob, h4', hdn⟩, h5⟩, G, k1, k2⟩ := h
    refine ⟨_, (pss_cons (ps_expr (pe_call (ok_check_alike T) (hr.mono (by decide)) (by rfl) T.g_check_alike T.F_check_alike.kp T.b_check_alike .nil (passes_call (takes_of rfl rfl rfl rfl) (fun _ _ _ _ h => h)) (pa_cons (pe_fld (pv 0) rfl) (pa_cons (pv 1) pa_nil))))
      (pss_one (ps_ret (pe_call (ok_is_within T) (hr.mono (by decide)) (by rfl) T.g_is_within T.F_is_within.kp T.b_is_within .nil pass0 (pa_cons (pe_fld (pv 0) rfl) (pa_cons (pe_fld (pv 1) rfl) pa_nil)))))), ?_⟩
    have G' := G
    obtain ⟨⟨b, dy, ul, um, us, rfl, hb, g2, g3, ob2, g4', gdn⟩, g5⟩ := G
    have h4 : SqT K H tm (marksV n f) := .inl (.inr ⟨ob, h4'⟩)
    have g4 : SqT K H um (marksV m g) := .inl (.inr ⟨ob2, g4'⟩)
    refine ⟨_, rfl, a, T.c_Family, dx, _, _, rfl, ha, T.cl_Family, T.n_Family_copies, famF_copies _ _ _, _, rfl, n, m, _, g, rfl, G', fun e => ?_, fun e => k2 e H (Same.refl _)⟩
    subst e
    refine ⟨_, rfl, a, T.c_Family, dx, _, _, rfl, ha, T.cl_Family, T.n_Family_marks, famF_marks _ _ _, _, rfl, b, T.c_Family, dy, _, _, rfl, hb, T.cl_Family, T.n_Family_marks, famF_marks _ _ _, ?_⟩
    exact ⟨tm, um, n, f, g, rfl, .inl ⟨h4, g4⟩, h5.n8, k1 rfl⟩
theorem ok_Family_or (T : Ctx K mg) : FnOk P w K mg base (L2.CX P w) 10 T.f_Family_or T.fd_Family_or ["self", "other"] (spTwo K T.c_Family T.c_Unlike (tellsF K T.c_Family fun _ f g m => f m || g m)) := by
  refine T.F_Family_or.okX sc_Family_or (fun vs H Q E h => ?_) (fun cdv A outer s H vs Q E hr h => ?_)
  · obtain ⟨x, y, n, m, f, g, rfl, _⟩ := h
    rfl
  · obtain ⟨x, y, n, m, f, g, rfl, ⟨⟨a, dx, tl, tm, ls, rfl, ha, h2, h3, ob, h4', hdn⟩, h5⟩, G, k1, k2⟩ := h
    refine ⟨_, (pss_cons (ps_expr (pe_call (ok_check_alike T) (hr.mono (by decide)) (by rfl) T.g_check_alike T.F_check_alike.kp T.b_check_alike .nil (passes_call (takes_of rfl rfl rfl rfl) (fun _ _ _ _ h => h)) (pa_cons (pe_fld (pv 0) rfl) (pa_cons (pv 1) pa_nil))))
      (pss_one (ps_ret (pe_call (ok_marked T) (hr.mono (by decide)) (by rfl) T.g_marked T.F_marked.kp T.b_marked .nil pass0 (pa_cons (pe_fld (pv 0) rfl) (pa_cons (pe_lc (own := [("mine", 2), ("theirs", 3)]) (g := gTup K 2 (gCons (gName 2) (gCons (gName 3) gNil))) (tt := tYes) rfl sc_Family_or.nd (RZ.pi_zipA (by rfl) T.m_zip (pa_cons (pe_fld (pv 0) rfl) (pa_cons (pe_fld (pv 1) rfl) pa_nil))) (blkOk_by (own := [("mine", 2), ("theirs", 3)]) (N := ["self", "other", "mine", "theirs"]) (sc := defScope s_Family_or) (by decide +kernel)) (fun _ _ _ _ _ => (pg_tup rfl (pgs_cons (pg_name (i := 2) sc_Family_or.nd rfl (Or.inl rfl)) (pgs_cons (pg_name (i := 3) sc_Family_or.nd rfl (Or.inl rfl)) pgs_nil)))) (fun _ _ _ _ _ => pts_nil) (fun _ _ _ _ _ => (pe_or (pv 2) (pe_one (pv 3))))) pa_nil)))))), ?_⟩
    have G' := G
    obtain ⟨⟨b, dy, ul, um, us, rfl, hb, g2, g3, ob2, g4', gdn⟩, g5⟩ := G
    have h4 : SqT K H tm (marksV n f) := .inl (.inr ⟨ob, h4'⟩)
    have g4 : SqT K H um (marksV m g) := .inl (.inr ⟨ob2, g4'⟩)
    refine ⟨_, rfl, a, T.c_Family, dx, _, _, rfl, ha, T.cl_Family, T.n_Family_copies, famF_copies _ _ _, _, rfl, n, m, _, g, rfl, G', fun e => ?_, fun e => k2 e H (Same.refl _)⟩
    subst e
    have k := k1 rfl
    have h256 := pow_le8 h5.n8
    refine ⟨_, rfl, a, T.c_Family, dx, _, _, rfl, ha, T.cl_Family, T.n_Family_copies, famF_copies _ _ _, ?_⟩
    refine ⟨_, rfl, a, T.c_Family, dx, _, _, rfl, ha, T.cl_Family, T.n_Family_marks, famF_marks _ _ _, _, rfl, b, T.c_Family, dy, _, _, rfl, hb, T.cl_Family, T.n_Family_marks, famF_marks _ _ _, ?_⟩
    refine ⟨tm, um, _, _, rfl, .inr ⟨h4, g4, fun D nD => ?_⟩⟩
    refine lc_itA (walk_zipT (n := 2 ^ n) (by rw [marksV_len, marksV_len, Nat.min_self])) (fun m => V.bl (f m || g m)) (fun a y _ => y = a) (fun _ _ _ _ _ h => h) nD (fun H' e => ⟨Same.seqT e h4, Same.seqT e g4⟩) (by omega) ?_ fun H' ys sm hD pr => ?_
    · rintro m x H1 H' q1 hm sm ⟨t, y, z, rfl, nt, rfl, hy, hz⟩ q
      obtain ⟨_, rfl⟩ := marksV_get hy
      obtain ⟨_, rfl⟩ := marksV_get hz
      refine ⟨t, _, rfl, .inl (.inl upd_same), rfl, _, _, rfl, _, _, rfl, rfl, rfl, ?_⟩
      refine ⟨_, rfl, _, rfl, ite2 (fun c => ?_) fun c => ⟨_, rfl, ?_⟩⟩
      · exact q _ _ (same_upd nt) (by rw [c] <;> rfl)
      · exact q _ _ (same_upd nt) (by rw [Bool.eq_false_iff.mpr c, Bool.false_or])
    · rw [marksV_fn (paired_fn (prUnmapL pr))] at hD
      exact ⟨n, D, _, rfl, SqL.of hD, h5.or g5, fun r H2 s2 R => k r H2 (sm.trans s2) R⟩
theorem ok_Family_and (T : Ctx K mg) : FnOk P w K mg base (L2.CX P w) 10 T.f_Family_and T.fd_Family_and ["self", "other"] (spTwo K T.c_Family T.c_Unlike (tellsF K T.c_Family fun _ f g m => f m && g m)) := by
  refine T.F_Family_and.okX sc_Family_and (fun vs H Q E h => ?_) (fun cdv A outer s H vs Q E hr h => ?_)
  · obtain ⟨x, y, n, m, f, g, rfl, _⟩ := h
    rfl
  · obtain ⟨x, y, n, m, f, g, rfl, ⟨⟨a, dx, tl, tm, ls, rfl, ha, h2, h3, ob, h4', hdn⟩, h5⟩, G, k1, k2⟩ := h
    refine ⟨_, (pss_cons (ps_expr (pe_call (ok_check_alike T) (hr.mono (by decide)) (by rfl) T.g_check_alike T.F_check_alike.kp T.b_check_alike .nil (passes_call (takes_of rfl rfl rfl rfl) (fun _ _ _ _ h => h)) (pa_cons (pe_fld (pv 0) rfl) (pa_cons (pv 1) pa_nil))))
      (pss_one (ps_ret (pe_call (ok_marked T) (hr.mono (by decide)) (by rfl) T.g_marked T.F_marked.kp T.b_marked .nil pass0 (pa_cons (pe_fld (pv 0) rfl) (pa_cons (pe_lc (own := [("mine", 2), ("theirs", 3)]) (g := gTup K 2 (gCons (gName 2) (gCons (gName 3) gNil))) (tt := tYes) rfl sc_Family_and.nd (RZ.pi_zipA (by rfl) T.m_zip (pa_cons (pe_fld (pv 0) rfl) (pa_cons (pe_fld (pv 1) rfl) pa_nil))) (blkOk_by (own := [("mine", 2), ("theirs", 3)]) (N := ["self", "other", "mine", "theirs"]) (sc := defScope s_Family_and) (by decide +kernel)) (fun _ _ _ _ _ => (pg_tup rfl (pgs_cons (pg_name (i := 2) sc_Family_and.nd rfl (Or.inl rfl)) (pgs_cons (pg_name (i := 3) sc_Family_and.nd rfl (Or.inl rfl)) pgs_nil)))) (fun _ _ _ _ _ => pts_nil) (fun _ _ _ _ _ => (pe_and (pv 2) (pe_one (pv 3))))) pa_nil)))))), ?_⟩
    have G' := G
    obtain ⟨⟨b, dy, ul, um, us, rfl, hb, g2, g3, ob2, g4', gdn⟩, g5⟩ := G
    have h4 : SqT K H tm (marksV n f) := .inl (.inr ⟨ob, h4'⟩)
    have g4 : SqT K H um (marksV m g) := .inl (.inr ⟨ob2, g4'⟩)
    refine ⟨_, rfl, a, T.c_Family, dx, _, _, rfl, ha, T.cl_Family, T.n_Family_copies, famF_copies _ _ _, _, rfl, n, m, _, g, rfl, G', fun e => ?_, fun e => k2 e H (Same.refl _)⟩
    subst e
    have k := k1 rfl
    have h256 := pow_le8 h5.n8
    refine ⟨_, rfl, a, T.c_Family, dx, _, _, rfl, ha, T.cl_Family, T.n_Family_copies, famF_copies _ _ _, ?_⟩
    refine ⟨_, rfl, a, T.c_Family, dx, _, _, rfl, ha, T.cl_Family, T.n_Family_marks, famF_marks _ _ _, _, rfl, b, T.c_Family, dy, _, _, rfl, hb, T.cl_Family, T.n_Family_marks, famF_marks _ _ _, ?_⟩
    refine ⟨tm, um, _, _, rfl, .inr ⟨h4, g4, fun D nD => ?_⟩⟩
    refine lc_itA (walk_zipT (n := 2 ^ n) (by rw [marksV_len, marksV_len, Nat.min_self])) (fun m => V.bl (f m && g m)) (fun a y _ => y = a) (fun _ _ _ _ _ h => h) nD (fun H' e => ⟨Same.seqT e h4, Same.seqT e g4⟩) (by omega) ?_ fun H' ys sm hD pr => ?_
    · rintro m x H1 H' q1 hm sm ⟨t, y, z, rfl, nt, rfl, hy, hz⟩ q
      obtain ⟨_, rfl⟩ := marksV_get hy
      obtain ⟨_, rfl⟩ := marksV_get hz
      refine ⟨t, _, rfl, .inl (.inl upd_same), rfl, _, _, rfl, _, _, rfl, rfl, rfl, ?_⟩
      refine ⟨_, rfl, _, rfl, ite2 (fun c => ⟨_, rfl, ?_⟩) fun c => ?_⟩
      · exact q _ _ (same_upd nt) (by rw [c, Bool.true_and])
      · exact q _ _ (same_upd nt) (by rw [Bool.eq_false_iff.mpr c, Bool.false_and])
    · rw [marksV_fn (paired_fn (prUnmapL pr))] at hD
      exact ⟨n, D, _, rfl, SqL.of hD, h5.and g5, fun r H2 s2 R => k r H2 (sm.trans s2) R⟩
theorem ok_Family_meets (T : Ctx K mg) : FnOk P w K mg base (L2.CX P w) 2 T.f_Family_meets T.fd_Family_meets ["self", "other"] (spTwo K T.c_Family T.c_Unlike (tellsB meetB)) := by
  refine T.F_Family_meets.okX sc_Family_meets (fun vs H Q E h => ?_) (fun cdv A outer s H vs Q E hr h => ?_)
  · obtain ⟨x, y, n, m, f, g, rfl, _⟩ := h
    rfl
  · obtain ⟨x, y, n, m, f, g, rfl, ⟨⟨a, dx, tl, tm, ls, rfl, ha, h2, h3, ob, h4', hdn⟩, h5⟩, G, k1, k2⟩ := h
    refine ⟨_, (pss_cons (ps_expr (pe_call (ok_check_alike T) (hr.mono (by decide)) (by rfl) T.g_check_alike T.F_check_alike.kp T.b_check_alike .nil (passes_call (takes_of rfl rfl rfl rfl) (fun _ _ _ _ h => h)) (pa_cons (pe_fld (pv 0) rfl) (pa_cons (pv 1) pa_nil))))
      (pss_one (ps_ret (pe_not (pe_callB (cr_any rfl) (by rfl) T.m_any (by decide +kernel) (pa_cons (pe_lc (own := [("mine", 2), ("theirs", 3)]) (g := gTup K 2 (gCons (gName 2) (gCons (gName 3) gNil))) (tt := tYes) rfl sc_Family_meets.nd (RZ.pi_zipA (by rfl) T.m_zip (pa_cons (pe_fld (pv 0) rfl) (pa_cons (pe_revT (pe_fld (pv 1) rfl)) pa_nil))) (blkOk_by (own := [("mine", 2), ("theirs", 3)]) (N := ["self", "other", "mine", "theirs"]) (sc := defScope s_Family_meets) (by decide +kernel)) (fun _ _ _ _ _ => (pg_tup rfl (pgs_cons (pg_name (i := 2) sc_Family_meets.nd rfl (Or.inl rfl)) (pgs_cons (pg_name (i := 3) sc_Family_meets.nd rfl (Or.inl rfl)) pgs_nil)))) (fun _ _ _ _ _ => pts_nil) (fun _ _ _ _ _ => (pe_and (pv 2) (pe_one (pv 3))))) pa_nil)))))), ?_⟩
    have G' := G
    obtain ⟨⟨b, dy, ul, um, us, rfl, hb, g2, g3, ob2, g4', gdn⟩, g5⟩ := G
    have h4 : SqT K H tm (marksV n f) := .inl (.inr ⟨ob, h4'⟩)
    have g4 : SqT K H um (marksV m g) := .inl (.inr ⟨ob2, g4'⟩)
    refine ⟨_, rfl, a, T.c_Family, dx, _, _, rfl, ha, T.cl_Family, T.n_Family_copies, famF_copies _ _ _, _, rfl, n, m, _, g, rfl, G', fun e => ?_, fun e => k2 e H (Same.refl _)⟩
    subst e
    have k := k1 rfl
    have h256 := pow_le8 h5.n8
    refine ⟨_, rfl, a, T.c_Family, dx, _, _, rfl, ha, T.cl_Family, T.n_Family_marks, famF_marks _ _ _, _, rfl, b, T.c_Family, dy, _, _, rfl, hb, T.cl_Family, T.n_Family_marks, famF_marks _ _ _, ?_⟩
    refine ⟨um, _, rfl, g4, fun r nr => ?_⟩
    have s1 := same_upd (o := .tup (marksV n g).reverse) nr
    have hr1 : SqT K (upd H r (.tup (marksV n g).reverse)) r (marksV n fun m => g (oth n m)) := .inl (.inl (by rw [upd_same, marksV_rev]))
    refine ⟨tm, r, _, _, rfl, .inr ⟨Same.seqT s1 h4, hr1, fun D nD => ?_⟩⟩
    refine lc_itA (walk_zipT (n := 2 ^ n) (by rw [marksV_len, marksV_len, Nat.min_self])) (fun m => V.bl (f m && g (oth n m))) (fun a y _ => y = a) (fun _ _ _ _ _ h => h) nD (fun H' e => ⟨Same.seqT (s1.trans e) h4, Same.seqT e hr1⟩) (by omega) ?_ fun H' ys sm hD pr => ?_
    · rintro m x H1 H' q1 hm sm ⟨t, y, z, rfl, nt, rfl, hy, hz⟩ q
      obtain ⟨_, rfl⟩ := marksV_get hy
      obtain ⟨_, rfl⟩ := marksV_get hz
      refine ⟨t, _, rfl, .inl (.inl upd_same), rfl, _, _, rfl, _, _, rfl, rfl, rfl, ?_⟩
      refine ⟨_, rfl, _, rfl, ite2 (fun c => ⟨_, rfl, ?_⟩) fun c => ?_⟩
      · exact q _ _ (same_upd nt) (by rw [c, Bool.true_and])
      · exact q _ _ (same_upd nt) (by rw [Bool.eq_false_iff.mpr c, Bool.false_and])
    · rw [marksV_fn (paired_fn (prUnmapL pr))] at hD
      refine ⟨D, (List.range (2 ^ n)).map (fun m => f m && g (oth n m)), rfl, SqL.of hD, _, rfl, ?_⟩
      have e : meetB n f g = !(((List.range (2 ^ n)).map fun m => f m && g (oth n m)).any id) := by
        unfold meetB
        rw [List.any_map]
        rfl
      rw [← e]
      exact k H' (s1.trans sm)
theorem ok_Family_is_strict (T : Ctx K mg) : FnOk P w K mg base CX0 3 T.f_Family_is_strict T.fd_Family_is_strict ["self"] (spOne K T.c_Family fun n f H Q => ∀ H', Same H H' → Q (.bl (meetB n f f)) H') := by
  refine T.F_Family_is_strict.ok sc_Family_is_strict (fun vs H Q E h => ?_) (fun cdv A outer s H vs Q E hr h => ?_)
  · obtain ⟨x, n, f, rfl, _⟩ := h
    rfl
  · obtain ⟨x, n, f, rfl, F, k⟩ := h
    refine ⟨_, (pss_one (ps_ret (pe_meth (pv 0) T.cl_Family T.me_Family_meets (ok_Family_meets T) (hr.mono (by decide)) T.b_Family_meets .nil passL (pa_cons (pv 0) pa_nil)))), ?_⟩
    obtain ⟨a, dx, fs, rfl, ha⟩ := F.isC
    obtain ⟨⟨_, _, tl, tm, ls, ea, ha', _⟩, _⟩ := id F
    cases ea
    rw [ha] at ha'
    cases ha'
    exact ⟨_, rfl, a, dx, _, rfl, ha, famF_no _ _ _ (by decide +kernel) (by decide +kernel) (by decide +kernel), _, rfl, _, _, n, n, f, f, rfl, F, F, fun _ => k, fun z => absurd rfl z⟩
theorem ok_Family_dual (T : Ctx K mg) : FnOk P w K mg base CX0 10 T.f_Family_dual T.fd_Family_dual ["self"] (spOne K T.c_Family fun n f H Q => ∀ r H', Same H H' → Fam K T.c_Family H' r n (dualB n f) → Q r H') := by
  refine T.F_Family_dual.ok sc_Family_dual (fun vs H Q E h => ?_) (fun cdv A outer s H vs Q E hr h => ?_)
  · obtain ⟨x, n, f, rfl, _⟩ := h
    rfl
  · obtain ⟨x, n, f, rfl, ⟨⟨a, dx, tl, tm, ls, rfl, ha, h2, h3, ob, h4', hdn⟩, h5⟩, k⟩ := h
    refine ⟨_, (pss_one (ps_ret (pe_call (ok_marked T) (hr.mono (by decide)) (by rfl) T.g_marked T.F_marked.kp T.b_marked .nil pass0 (pa_cons (pe_fld (pv 0) rfl) (pa_cons (pe_lc (own := [("mark", 1)]) (g := gName 1) (tt := tYes) rfl sc_Family_dual.nd (pi_tup (pe_revT (pe_fld (pv 0) rfl))) (blkOk_by (own := [("mark", 1)]) (N := ["self", "mark"]) (sc := defScope s_Family_dual) (by decide +kernel)) (fun _ _ _ _ _ => (pg_name (i := 1) sc_Family_dual.nd rfl (Or.inl rfl))) (fun _ _ _ _ _ => pts_nil) (fun _ _ _ _ _ => (pe_not (pv 1)))) pa_nil))))), ?_⟩
    have h4 : SqT K H tm (marksV n f) := .inl (.inr ⟨ob, h4'⟩)
    have h256 := pow_le8 h5.n8
    refine ⟨_, rfl, a, T.c_Family, dx, _, _, rfl, ha, T.cl_Family, T.n_Family_copies, famF_copies _ _ _, ?_⟩
    refine ⟨_, rfl, a, T.c_Family, dx, _, _, rfl, ha, T.cl_Family, T.n_Family_marks, famF_marks _ _ _, tm, _, rfl, h4, fun r nr => ?_⟩
    have s1 := same_upd (o := .tup (marksV n f).reverse) nr
    have hr1 : SqT K (upd H r (.tup (marksV n f).reverse)) r (marksV n fun m => f (oth n m)) := .inl (.inl (by rw [upd_same, marksV_rev]))
    refine ⟨r, rfl, ⟨_, hr1⟩, fun D nD => ?_⟩
    refine lc_itA (walk_tup (K := K) (a := r) (xs := marksV n fun m => f (oth n m))) (fun m => V.bl (dualB n f m)) (fun a y _ => y = a) (fun _ _ _ _ _ h => h) nD (fun H' e => Same.seqT e hr1) (by rw [marksV_len]; omega) ?_ fun H' ys sm hD pr => ?_
    · rintro m x H1 H' q1 hm sm ⟨rfl, hx⟩ q
      obtain ⟨_, rfl⟩ := marksV_get hx
      exact ⟨rfl, _, rfl, _, rfl, q _ _ (Same.refl _) rfl⟩
    · have e := paired_fn (prUnmapL pr)
      rw [marksV_len] at e
      rw [marksV_fn e] at hD
      exact ⟨n, D, _, rfl, SqL.of hD, h5.dual, fun r H2 s2 R => k r H2 (s1.trans (sm.trans s2)) R⟩
theorem ok_Family_eq (T : Ctx K mg) : FnOk P w K mg base CX0 1 T.f_Family_eq T.fd_Family_eq ["self", "other"] (spEqF K T.c_Family) := by
  refine T.F_Family_eq.ok sc_Family_eq (fun vs H Q E h => ?_) (fun cdv A outer s H vs Q E hr h => ?_)
  · obtain ⟨x, y, n, f, rfl, _⟩ := h
    rfl
  · obtain ⟨x, y, n, f, rfl, F, h⟩ := h
    refine ⟨_, (pss_one (ps_ret (pe_and (pe_callB call_isi (by rfl) T.m_isinstance (by decide +kernel) (pa_cons (pv 1) (pa_cons (pe_glob (v := .ref T.c_Family) (by rfl) T.gc_Family rfl) pa_nil))) (pe_and (pe_cmpR op_eq (pe_fld (pv 0) rfl) (pe_fld (pv 1) rfl) (nomark _)) (pe_one (pe_cmpR (op_eqD hr.units) (pe_fld (pv 0) rfl) (pe_fld (pv 1) rfl) (nomark _))))))), ?_⟩
    rcases h with ⟨m, g, G, k⟩ | ⟨t, ty, hk, k⟩
    · obtain ⟨⟨a, dx, tl, tm, ls, rfl, ha, h2, h3, ob, h4', hdn⟩, h5⟩ := F
      obtain ⟨⟨b, dy, ul, um, us, rfl, hb, g2, g3, ob2, g4', gdn⟩, g5⟩ := G
      refine ⟨_, rfl, _, _, _, _, true, rfl, .own _, T.ic_Family.ty hb, T.ki_Family_Family, true, rfl, iteT ?_⟩
      refine ⟨_, rfl, a, T.c_Family, dx, _, _, rfl, ha, T.cl_Family, T.n_Family_copies, famF_copies _ _ _, _, rfl, b, T.c_Family, dy, _, _, rfl, hb, T.cl_Family, T.n_Family_copies, famF_copies _ _ _, rfl, decide (n = m), congrArg V.bl ?_, ?_⟩
      · by_cases e : n = m
        · subst e
          simp
        · rw [decide_eq_false e, decide_eq_false fun z => e (by injection z with z; omega)]
      · by_cases e : n = m
        · subst e
          rw [decide_eq_true rfl]
          refine iteT ⟨_, rfl, a, T.c_Family, dx, _, _, rfl, ha, T.cl_Family, T.n_Family_lots, famF_lots _ _ _, _, rfl, b, T.c_Family, dy, _, _, rfl, hb, T.cl_Family, T.n_Family_lots, famF_lots _ _ _, ?_⟩
          have d1 : Dp K H (.ref tl) (.tuple ((minL n f).map lotD)) := .tup h2 (paired_dp (prImp (fun _ _ z => z.dp) h3))
          have d2 : Dp K H (.ref ul) (.tuple ((minL n g).map lotD)) := .tup g2 (paired_dp (prImp (fun _ _ z => z.dp) g3))
          refine ⟨_, _, d1, d2, (fit_lotsT _).shaped (by decide), (fit_lotsT _).shaped (by decide), ?_⟩
          have h256 := pow_le8 h5.n8
          have e : PyData.eqv (.tuple ((minL n f).map lotD)) (.tuple ((minL n g).map lotD)) = (decide (n = n) && eqB n f g) := by
            rw [eqv_lots (fun m hm => Nat.lt_of_lt_of_le (minL_lt hm) h256) fun m hm => Nat.lt_of_lt_of_le (minL_lt hm) h256, minL_eq h5 g5]
            simp
          rw [e]
          exact k H (Same.refl _)
        · have k := k H (Same.refl _)
          rw [decide_eq_false e] at k ⊢
          exact iteF k
    · refine ⟨_, rfl, _, _, _, _, false, rfl, .own _, ty, hk, false, rfl, iteF k⟩
end
/-! ### the law's own lots -/
def spLots (K : PySem.W.Frag) : Sp := fun vs H Q _ => ∃ n : Nat, vs = [.int n] ∧ n ≤ 8 ∧ ∀ p ys H', Same H H' → H p = none → H' p = some (.lst ys) → Paired (fun m y => Lot K H' m y) (List.range (2 ^ n)) ys → Q (.ref p) H'
theorem lot_more : ∀ i : Nat, i < 8 → ∀ m : Nat, m < 2 ^ i → lotV (2 ^ i + m) = lotV m ++ [V.int i] := by decide +kernel
theorem lot_zero : lotV 0 = [] := by decide +kernel
theorem lot_len : ∀ m : Nat, (lotV m).length ≤ 8 := fun m => by
  unfold lotV lotL oneL
  rw [List.length_map, List.length_map]
  exact Nat.le_trans (List.length_filter_le _ _) (by simp)
section
variable {P : Program} {w : World} {K : PySem.W.Frag} {mg : Str → Option Value} {base : Heap}
theorem ok_l_lots (T : Ctx K mg) : FnOk P w K mg base CX0 1 T.f_l_lots T.fd_l_lots ["_law_copies"] (spLots K) := by
  refine T.F_l_lots.ok sc_l_lots (fun vs H Q E h => ?_) (fun cdv A outer s H vs Q E hr h => ?_)
  · obtain ⟨n, rfl, _⟩ := h
    rfl
  · obtain ⟨n, rfl, hn, q⟩ := h
    refine ⟨_, (pss_cons (ps_set (i := 1) sc_l_lots.nd rfl (Or.inl rfl) (pe_lst (pa_cons (pe_tup pa_nil) pa_nil)))
      (pss_cons (ps_for PassesOwn.never rfl (pi_range1 (by rfl) T.m_range (pa_cons (pv 0) pa_nil)) (pg_name (i := 2) sc_l_lots.nd rfl (Or.inr rfl))
        (pss_one (ps_set (i := 1) sc_l_lots.nd rfl (Or.inl rfl) (pe_op op_cat (pv 1) (pe_lc (own := [("_law_lot", 3)]) (g := gName 3) (tt := tYes) rfl sc_l_lots.nd (pi_list (pv 1)) (blkOk_by (own := [("_law_lot", 3)]) (N := ["_law_copies", "_law_lots_here", "_law_copy", "_law_lot"]) (sc := defScope s_l_lots) (by decide +kernel)) (fun _ _ _ _ _ => (pg_name (i := 3) sc_l_lots.nd rfl (Or.inl rfl))) (fun _ _ _ _ _ => pts_nil) (fun _ _ _ _ _ => (pe_op (opK (K := K) rfl rCatA op_catA) (pv 3) (pe_tup (pa_cons (pv 2) pa_nil)))))))))
      (pss_one (ps_ret (pv 1))))), ?_⟩
    refine ⟨(by show 0 ≤ sizeLine; decide), fun e ne => ⟨(by show 1 ≤ sizeLine; decide), fun p np => ?_⟩⟩
    refine ⟨_, rfl, n, rfl, by omega, by omega, ?_⟩
    rw [Int.toNat_natCast]
    have h0 : SqT K (upd (upd H e (.tup [])) p (.lst [.ref e])) e [] := .inl (.inl (by rw [upd_ne (ne_of_none upd_same np), upd_same]))
    refine for_range (n := n) (fun i σ H' => i ≤ n ∧ Same H H' ∧ ∃ p ys v3 v4, σ = [some (.int n), some (.ref p), v3, v4] ∧ H p = none ∧ H' p = some (.lst ys) ∧ Paired (fun m y => Lot K H' m y) (List.range (2 ^ i)) ys)
      ⟨Nat.zero_le _, (same_upd ne).trans (same_upd np), p, [.ref e], _, _, rfl, (same_upd ne).free np, upd_same, .cons ⟨e, rfl, by rw [lot_zero]; exact h0⟩ .nil⟩ ?_ ?_
    · rintro i σ H1 hi ⟨_, sm, p1, ys, v3, v4, rfl, np1, hp1, pr⟩
      have hi8 : i < 8 := by omega
      have h2i : 2 ^ i ≤ 256 := pow_le8 (by omega)
      have hys := prLen pr
      rw [List.length_range] at hys
      refine ⟨_, rfl, _, rfl, p1, rfl, ⟨_, SqL.of hp1⟩, fun D nD => ?_⟩
      refine lc_itA (walk_list (K := K) (a := p1) (xs := ys)) (fun j => 2 ^ i + j) (fun m y H' => Lot K H' m y) (fun _ _ _ _ e h => h.sameT e) nD (fun H' e => e.seq (SqL.of hp1)) (by omega) ?_ ?_
      · rintro j x H2 H2' k hj s2 ⟨rfl, hx⟩ h1
        obtain ⟨m, hm, hL⟩ := prAt pr hx
        have hjr : m = j := by
          rw [List.getElem?_range (by omega)] at hm
          exact (Option.some.inj hm).symm
        subst hjr
        obtain ⟨a, rfl, hL2⟩ := hL.same s2
        have el := lot_more i hi8 m (by omega)
        refine ⟨rfl, _, rfl, _, rfl, (by show 1 ≤ sizeLine; decide), fun t nt => ?_⟩
        have ht : SqT K (upd H2' t (.tup [V.int (0 + (i : Int))])) t [V.int i] := .inl (.inl (by rw [upd_same, Int.zero_add]))
        have e8 : (9 : Nat) ≤ sizeLine := by decide
        refine ⟨a, t, _, _, rfl, rfl, Same.seqT (same_upd nt) hL2, ht, Nat.le_trans (Nat.add_le_add_right (lot_len m) 1) e8, fun hz => ?_, fun _ hz => absurd hz (by simp), fun _ _ u nu => ?_⟩
        · refine h1 _ _ (same_upd nt) ⟨t, rfl, ?_⟩
          rw [el, hz]
          exact ht
        · refine h1 _ _ ((same_upd nt).trans (same_upd nu)) ⟨u, rfl, .inl (.inl ?_)⟩
          rw [el, upd_same]
      · intro H' zs s2 hD pz
        have hp1' := s2 _ _ hp1
        have hzs := prLen pz
        rw [List.length_map, List.length_range] at hzs
        have e512 : (512 : Nat) ≤ sizeLine := by decide
        refine ⟨p1, D, ys, zs, rfl, rfl, hp1', hD, by omega, fun u nu => ?_⟩
        have s3 := same_upd (o := .lst (ys ++ zs)) nu
        refine ⟨hi, sm.trans (s2.trans s3), u, ys ++ zs, _, _, rfl, (sm.trans s2).free nu, upd_same, ?_⟩
        rw [Nat.pow_succ, Nat.mul_two, List.range_add]
        rw [hys] at pz
        exact prApp (prImp (fun m y h => h.same (s2.trans s3)) pr) (prImp (fun m y h => h.same s3) pz)
    · rintro σ H1 ⟨_, sm, p1, ys, v3, v4, rfl, np1, hp1, pr⟩
      exact ⟨_, rfl, q p1 ys H1 sm np1 hp1 pr⟩
end
/-! ### drawn lots and their family -/
def spDrawn (K : PySem.W.Frag) : Sp := fun vs H Q _ => ∃ (l t : Addr) (n : Nat) (H0 : Hp), vs = [.ref l, .ref t, .int n] ∧ Drw K H0 l t H ∧ 1 ≤ n ∧ n ≤ 8 ∧
  ∀ p ms ys H', Exc t H H' → Drw K H0 l t H' → H p = none → H' p = some (.lst ys) → Paired (fun m y => Lot K H' m y) ms ys → ms ≠ [] → ms.length ≤ 4 → (∀ m ∈ ms, 0 < m ∧ m < 2 ^ n) → Q (.ref p) H'
def spFamily (K : PySem.W.Frag) (C : Addr) : Sp := fun vs H Q _ => ∃ (n : Nat) (p : Addr) (ms : List Nat) (ys : List V), vs = [.int n, .ref p] ∧ 1 ≤ n ∧ n ≤ 8 ∧ SqL K H p ys ∧ Paired (fun m y => Lot K H m y) ms ys ∧ ms ≠ [] ∧ ms.length ≤ 300 ∧ (∀ m ∈ ms, 0 < m ∧ m < 2 ^ n) ∧
  ∀ r H', Same H H' → Fam K C H' r n (upB ms) → Q r H'
theorem upB_snoc (ms : List Nat) (m : Nat) : upB (ms ++ [m]) = fun k => upB ms k || upB [m] k := by
  funext k
  unfold upB
  rw [List.any_append]
section
variable {K : PySem.W.Frag} {C CU : Addr} {H : Hp} {x y : V} {n : Nat} {f g : Nat → Bool} {Q : VK} {E : XK}
theorem Fam.ty (F : Fam K C H x n f) (T : InsC K C) : TyX K H x (.ref C) := by
  obtain ⟨a, dx, fs, rfl, ha⟩ := F.isC
  exact T.ty ha
theorem fam_or (F : Fam K C H x n f) (G : Fam K C H y n g) (k : ∀ r H', Same H H' → Fam K C H' r n (fun m => f m || g m) → Q r H') : rOwnB C (spTwo K C CU (tellsF K C fun _ f g m => f m || g m)) E x y H Q :=
  ⟨F.isC, G.isC, x, y, n, n, f, g, rfl, F, G, fun _ => k, fun z => absurd rfl z⟩
theorem fam_and (F : Fam K C H x n f) (G : Fam K C H y n g) (k : ∀ r H', Same H H' → Fam K C H' r n (fun m => f m && g m) → Q r H') : rOwnB C (spTwo K C CU (tellsF K C fun _ f g m => f m && g m)) E x y H Q :=
  ⟨F.isC, G.isC, x, y, n, n, f, g, rfl, F, G, fun _ => k, fun z => absurd rfl z⟩
theorem fam_le (T : InsC K C) (F : Fam K C H x n f) (G : Fam K C H y n g) (k : ∀ H', Same H H' → Q (.bl (leB n f g)) H') : rOwnC K C (spTwo K C CU (tellsB leB)) E x y H Q :=
  ⟨F.isC, ⟨_, G.ty T, by simp [PySem.W.notFirst]⟩, x, y, n, n, f, g, rfl, F, G, fun _ => k, fun z => absurd rfl z⟩
theorem fam_eq (T : InsC K C) (F : Fam K C H x n f) (G : Fam K C H y n g) (k : ∀ H', Same H H' → Q (.bl (eqB n f g)) H') : rOwnC K C (spEqF K C) E x y H Q :=
  ⟨F.isC, ⟨_, G.ty T, by simp [PySem.W.notFirst]⟩, x, y, n, f, rfl, F, .inl ⟨n, g, G, fun H' s => by rw [decide_eq_true rfl, Bool.true_and]; exact k H' s⟩⟩
theorem fam_ne (T : InsC K C) (F : Fam K C H x n f) (G : Fam K C H y n g) (k : ∀ H', Same H H' → Q (.bl (!eqB n f g)) H') : rOwnNe K C (spEqF K C) E x y H Q :=
  ⟨F.isC, ⟨_, G.ty T, by simp [PySem.W.notFirst]⟩, x, y, n, f, rfl, F, .inl ⟨n, g, G, fun H' s => by rw [decide_eq_true rfl, Bool.true_and]; exact ⟨_, rfl, k H' s⟩⟩⟩
/-- what a method's call asks of the object -/
theorem Fam.obj (F : Fam K C H x n f) : ∃ a dx tl tm, x = .ref a ∧ H a = some (.ins C dx (famF n tl tm)) := by
  obtain ⟨⟨a, dx, tl, tm, ls, rfl, ha, _⟩, _⟩ := F
  exact ⟨a, dx, tl, tm, rfl, ha⟩
end
section
variable {K : PySem.W.Frag} {C CU : Addr} {H : Hp} {x y : V} {n : Nat} {f g : Nat → Bool} {Q : VK} {E : XK}
theorem Fam.meth (F : Fam K C H x n f) {m : Str} (h : (m == "marks" || m == "lots" || m == "copies") = false) {Z : Prop} (z : Z) : ∃ a dx fs, x = .ref a ∧ H a = some (.ins C dx fs) ∧ fs.lookup m = none ∧ Z := by
  obtain ⟨a, dx, tl, tm, rfl, ha⟩ := F.obj
  simp at h
  exact ⟨a, dx, _, rfl, ha, famF_no _ _ _ h.1.1 h.1.2 h.2, z⟩
theorem m_dual : (("dual" : Str) == "marks" || ("dual" : Str) == "lots" || ("dual" : Str) == "copies") = false := by decide +kernel
theorem m_meets : (("meets" : Str) == "marks" || ("meets" : Str) == "lots" || ("meets" : Str) == "copies") = false := by decide +kernel
theorem m_strict : (("is_strict" : Str) == "marks" || ("is_strict" : Str) == "lots" || ("is_strict" : Str) == "copies") = false := by decide +kernel
theorem m_size : (("size" : Str) == "marks" || ("size" : Str) == "lots" || ("size" : Str) == "copies") = false := by decide +kernel
theorem m_wider : (("wider" : Str) == "marks" || ("wider" : Str) == "lots" || ("wider" : Str) == "copies") = false := by decide +kernel
theorem fam_leB (b : Bool) (T : InsC K C) (F : Fam K C H x n f) (G : Fam K C H y n g) (e : leB n f g = b) (k : ∀ H', Same H H' → Q (.bl b) H') : rOwnC K C (spTwo K C CU (tellsB leB)) E x y H Q := fam_le T F G (by rw [e]; exact k)
theorem fam_eqT (T : InsC K C) (F : Fam K C H x n f) (G : Fam K C H y n g) (e : ∀ m, m < 2 ^ n → f m = g m) (k : ∀ H', Same H H' → Q (.bl true) H') : rOwnC K C (spEqF K C) E x y H Q := fam_eq T F G (by rw [eqB_of e]; exact k)
theorem fam_neF (T : InsC K C) (F : Fam K C H x n f) (G : Fam K C H y n g) (e : ∀ m, m < 2 ^ n → f m = g m) (k : ∀ H', Same H H' → Q (.bl false) H') : rOwnNe K C (spEqF K C) E x y H Q := fam_ne T F G (by rw [eqB_of e]; exact k)
end
section
variable {P : Program} {w : World} {K : PySem.W.Frag} {mg : Str → Option Value} {base : Heap}
theorem ok_l_drawn (T : Ctx K mg) : FnOk P w K mg base CX0 2 T.f_l_drawn T.fd_l_drawn ["_law_script", "_law_state", "_law_copies"] (spDrawn K) := by
  refine T.F_l_drawn.ok sc_l_drawn (fun vs H Q E h => ?_) (fun cdv A outer s H vs Q E hr h => ?_)
  · obtain ⟨l, t, n, H0, rfl, _⟩ := h
    rfl
  · obtain ⟨l, t, n, H0, rfl, D, n1, n8, k⟩ := h
    refine ⟨_, (pss_cons (ps_set (i := 3) sc_l_drawn.nd rfl (Or.inr rfl) (pe_call (ok_l_lots T) (hr.mono (by decide)) (by rfl) T.g_l_lots T.F_l_lots.kp T.b_l_lots .nil pass0 (pa_cons (pv 2) pa_nil)))
      (pss_one (ps_ret (pe_lc (own := [("_law_k", 4)]) (g := gName 4) (tt := tYes) rfl sc_l_drawn.nd (pi_range1 (by rfl) T.m_range (pa_cons (pe_op op_add pe_int (pe_call (ok_l_draw T) (hr.mono (by decide)) (by rfl) T.g_l_draw T.F_l_draw.kp T.b_l_draw .nil pass0 (pa_cons (pv 0) (pa_cons (pv 1) (pa_cons pe_int pa_nil))))) pa_nil)) (blkOk_by (own := [("_law_k", 4)]) (N := ["_law_script", "_law_state", "_law_copies", "_law_lots_here", "_law_k"]) (sc := defScope s_l_drawn) (by decide +kernel)) (fun _ _ _ _ _ => (pg_name (i := 4) sc_l_drawn.nd rfl (Or.inl rfl))) (fun _ _ _ _ _ => pts_nil) (fun _ _ _ _ _ => (pe_ix (ixK_list (K := K) rfl) (pv 3) (pe_op op_add pe_int (pe_call (ok_l_draw T) (hr.mono (by decide)) (by rfl) T.g_l_draw T.F_l_draw.kp T.b_l_draw .nil pass0 (pa_cons (pv 0) (pa_cons (pv 1) (pa_cons (pe_op op_sub (pe_callB (crK (K := K) rfl Evl.rLenS call_len_seq) (by rfl) T.m_len (by decide +kernel) (pa_cons (pv 3) pa_nil)) pe_int) pa_nil))))) (fun _ _ => rfl))))))), ?_⟩
    have h256 := pow_le8 n8
    have h2 : 2 ^ 1 ≤ 2 ^ n := Nat.pow_le_pow_right (by decide) n1
    refine ⟨_, rfl, n, rfl, n8, fun p0 ys0 H1 s1 np0 hp0 pr0 => ?_⟩
    have D1 := D.mono s1
    have np0t := D.ne np0
    have ly := prLen pr0
    rw [List.length_range] at ly
    refine ⟨_, rfl, _, rfl, l, t, 4, H0, rfl, D1, by decide, by decide, fun x H2 a1 a2 b2 D2 => ?_⟩
    refine opN (z := .int ((1 + x.toNat : Nat) : Int)) (congrArg V.int (by omega)) ?_
    have hp2 := (b2 p0 np0t).trans hp0
    have pr2 := prImp (fun m y (h : Lot K H1 m y) => h.sameT (But.t D1 b2)) pr0
    refine ⟨_, rfl, by omega, by omega, fun Dl nDl => ?_⟩
    rw [Int.toNat_natCast]
    refine lc_drawsR (fun m y H' => Lot K H' m y) (fun _ _ _ _ e h => h.sameT e) (fun m => 0 < m ∧ m < 2 ^ n) (1 + x.toNat) D2 nDl (by omega) ?_ ?_
    · rintro i H3 k1 hi D3 e3 t3 q
      have hp3 := e3 p0 _ np0t hp2
      refine ⟨rfl, _, rfl, _, rfl, _, rfl, _, rfl, p0, _, rfl, .inl (SqL.of hp3), _, _, rfl, rfl, l, t, _, H0, rfl, D3, by omega, by omega, fun v H4 v1 v2 b4 D4 => ?_⟩
      have hp4 := (b4 p0 np0t).trans hp3
      obtain ⟨m, hm⟩ : ∃ m : Nat, 1 + v = (m : Int) := ⟨(1 + v).toNat, by omega⟩
      have hml : m < ys0.length := by omega
      refine opN (z := .int (m : Nat)) (congrArg V.int hm) ?_
      have hx : ys0[m]? = some ys0[m] := List.getElem?_eq_getElem hml
      obtain ⟨m', hm', hL⟩ := prAt pr2 hx
      rw [List.getElem?_range (by omega)] at hm'
      cases Option.some.inj hm'
      refine ⟨p0, _, _, ys0[m], rfl, rfl, SqL.of hp4, atI_nat hx, q _ m H4 b4.exc (But.t D3 b4) D4 ((hL.sameT t3).sameT (But.t D3 b4)) (by omega)⟩
    · intro H3 ms ys e3 D3 hD p hl hm
      refine k Dl ms ys H3 ((exc_same s1).trans (b2.exc.trans e3)) D3 (s1.free ?_) hD p (fun z => by rw [z] at hl; simp at hl; omega) (by omega) hm
      have := b2 Dl (D2.ne nDl)
      rw [nDl] at this
      exact this.symm
theorem ok_l_family (T : Ctx K mg) : FnOk P w K mg base CX0 11 T.f_l_family T.fd_l_family ["_law_copies", "_law_chosen"] (spFamily K T.c_Family) := by
  refine T.F_l_family.ok sc_l_family (fun vs H Q E h => ?_) (fun cdv A outer s H vs Q E hr h => ?_)
  · obtain ⟨n, p, ms, ys, rfl, _⟩ := h
    rfl
  · obtain ⟨n, p, ms, ys, rfl, n1, n8, hS, pr, hne, hl, hm, k⟩ := h
    refine ⟨_, (pss_cons (ps_set (i := 2) sc_l_family.nd rfl (Or.inl rfl) (StX.pe_makeR T.M_Family (ok_Family_init T) (hr.mono (by decide)) (by rfl) T.gc_Family passL (pa_cons (pv 0) (pa_cons (pe_ix ix_list (pv 1) pe_int (fun _ _ => rfl)) pa_nil))))
      (pss_cons (ps_for PassesOwn.never rfl (pi_list (pe_slice sl_list (pv 1) (po_some pe_int) po_none)) (pg_name (i := 3) sc_l_family.nd rfl (Or.inl rfl))
        (pss_one (ps_set (i := 2) sc_l_family.nd rfl (Or.inl rfl) (pe_op (op_ownB T.oc_Family T.oh_Family_or T.me_Family_or.fn (ok_Family_or T) (hr.mono (by decide)) T.b_Family_or passL) (pv 2) (StX.pe_makeR T.M_Family (ok_Family_init T) (hr.mono (by decide)) (by rfl) T.gc_Family passL (pa_cons (pv 0) (pa_cons (pv 3) pa_nil)))))))
      (pss_one (ps_ret (pv 2))))), ?_⟩
    have h256 := pow_le8 n8
    have ly := prLen pr
    obtain ⟨m0, mr, rfl⟩ := List.exists_cons_of_ne_nil hne
    obtain ⟨y0, yr, rfl⟩ : ∃ y0 yr, ys = y0 :: yr := by
      cases ys with
      | nil => simp at ly
      | cons a r => exact ⟨a, r, rfl⟩
    cases pr with
    | cons hL0 pr =>
    have mk1f : ∀ {H1 : Hp} {m : Nat} {y : V} {Q : Addr → Hp → Prop} {E : XK}, Lot K H1 m y → 0 < m ∧ m < 2 ^ n → (∀ a H', Same H1 H' → Fam K T.c_Family H' (.ref a) n (upB [m]) → Q a H') →
        ∀ x dx, H1 x = none → H1 dx = none → dx ≠ x → spStar 2 (spFam0 K T.c_Family T.c_BadNumber T.c_BadLot) (.ref x :: [.int n, y]) (upd (upd H1 dx (.own x)) x (.ins T.c_Family dx [])) (fun v H2 => v = .non ∧ Q x H2) E := fun {H1 m y Q E} hL hm q => by
      have h3 : m < 256 := by omega
      have z := mk_fam (K := K) (C := T.c_Family) (CB := T.c_BadNumber) (CL := T.c_BadLot) (H := H1) (n := n) (rest := [y]) (xss := [lotV m]) (Q := Q) (E := E) n1 n8 (.cons hL.arg .nil) (by show 1 ≤ 1000; decide) (by simp) (badFrom_lots (ms := [m]) fun x hx => by rw [List.mem_singleton.mp hx]; exact ⟨hm.2, by omega, h3⟩) fun a H' s F => by
        rw [show [lotV m].map maskV = [m] from by rw [List.map_cons, mask_lotV h3] <;> rfl] at F
        exact q a H' s F
      exact z
    refine ⟨_, rfl, _, rfl, p, _, _, y0, rfl, rfl, hS, at_of (j := 0) rfl rfl, ?_⟩
    show ∀ x dx, _
    refine mk1f hL0 (hm m0 List.mem_cons_self) fun a H1 s1 F1 => ?_
    refine ⟨_, rfl, _, rfl, p, _, rfl, s1.seq hS, fun q nq => ?_⟩
    have s2 := same_upd (o := .lst (cutV (y0 :: yr) (some 1) none)) nq
    have hq : upd H1 q (.lst (cutV (y0 :: yr) (some 1) none)) q = some (.lst yr) := by rw [upd_same, cut_one]
    have F2 := F1.same s2
    have s02 := s1.trans s2
    revert hq F2 s02
    generalize upd H1 q _ = H2
    intro hq F2 s02
    refine ⟨q, rfl, ⟨_, SqL.of hq⟩, for_list (K := K) (a := q) (xs := yr) (fun i σ H' => i ≤ yr.length ∧ Same H2 H' ∧ ∃ v v3, σ = [some (.int n), some (.ref p), some v, v3] ∧ Fam K T.c_Family H' v n (upB (m0 :: mr.take i)))
      ⟨Nat.zero_le _, Same.refl _, _, _, rfl, F2⟩ (fun i σ H' _ h => h.2.1.seq (SqL.of hq)) ?_ ?_⟩
    · rintro i x σ H3 hx ⟨_, s3, v, v3, rfl, F3⟩
      obtain ⟨m, hm', hL⟩ := prAt pr hx
      have hL3 := (hL.same s02).same s3
      refine ⟨_, rfl, _, rfl, _, rfl, ?_⟩
      show ∀ x dx, _
      refine mk1f hL3 (hm m (List.mem_cons_of_mem _ (List.mem_of_getElem? hm'))) fun a H4 s4 F4 => ?_
      refine fam_or (F3.same s4) F4 fun r H5 s5 F5 => ?_
      refine ⟨(List.getElem?_eq_some_iff.mp hx).1, s3.trans (s4.trans s5), r, _, rfl, ?_⟩
      rw [List.take_add_one, hm']
      show Fam K T.c_Family H5 r n (upB ((m0 :: mr.take i) ++ [m]))
      rw [upB_snoc]
      exact F5
    · rintro σ H3 ⟨_, s3, v, v3, rfl, F3⟩
      have e : mr.take yr.length = mr := List.take_of_length_le (by simp at ly; omega)
      rw [e] at F3
      exact ⟨_, rfl, k v H3 (s02.trans s3) F3⟩
end
/-- what mask_in tells -/
def maskIn (n : Nat) (xs : List V) : V := match badOf n xs with
  | some _ => .non
  | none => .int (maskV xs)
/-- isinstance(.., (list, tuple)) of what is one of these -/
theorem SqA.ty {K : PySem.W.Frag} {H : Hp} {a : Addr} {xs : List V} (h : SqA K H a xs) : ∃ t, TyX K H (.ref a) t ∧ PySem.W.kitAny K t [.type "list", .type "tuple"] = some true := by
  have l : PySem.W.kitAny K (.type "list") [.type "list", .type "tuple"] = some true := kitAny_cons (b := true) (kit_ty (by decide +kernel)) (fun z => (nomatch z)) fun _ => rfl
  have t : PySem.W.kitAny K (.type "tuple") [.type "list", .type "tuple"] = some true := kitAny_cons (b := false) (kit_ty (by decide +kernel)) (fun _ => kitAny_cons (b := true) (kit_ty (by decide +kernel)) (fun z => (nomatch z)) fun _ => rfl) fun z => (nomatch z)
  rcases h with (h | ⟨o, its, n, e, c, _⟩) | (h | ⟨o, its, n, e, c, _⟩)
  · rcases h with h | ⟨o, h⟩
    · exact ⟨_, .base (.lst h), l⟩
    · exact ⟨_, .base (.frz h), l⟩
  · exact ⟨_, .kList e c, l⟩
  · rcases h with h | ⟨o, h⟩
    · exact ⟨_, .base (.tup h), t⟩
    · exact ⟨_, .fTuple h, t⟩
  · exact ⟨_, .kTuple e c, t⟩
def spMaskIn (K : PySem.W.Frag) : Sp := fun vs H Q _ => ∃ (n : Nat) (a : Addr) (xs : List V), vs = [.int n, .ref a] ∧ n ≤ 8 ∧ SqA K H a xs ∧ (∀ x ∈ xs, scalV x = true) ∧ ∀ H', Same H H' → Q (maskIn n xs) H'
section
variable {P : Program} {w : World} {K : PySem.W.Frag} {mg : Str → Option Value} {base : Heap}
theorem ok_mask_in (T : Ctx K mg) : FnOk P w K mg base CX0 6 T.f_mask_in T.fd_mask_in ["copies", "value"] (spMaskIn K) := by
  refine T.F_mask_in.ok sc_mask_in (fun vs H Q E h => ?_) (fun cdv A outer s H vs Q E hr h => ?_)
  · obtain ⟨n, a, xs, rfl, _⟩ := h
    rfl
  · obtain ⟨n, a, xs, rfl, n8, hS, sc, k⟩ := h
    refine ⟨_, (pss_cons (ps_if (pt_not (pt_val (pe_callB call_isiT (by rfl) T.m_isinstance (by decide +kernel) (pa_cons (pv 1) (pa_cons (pe_tup (pa_cons (pe_bltn (v := .ty "list") (by rfl) T.m_list (by decide +kernel) rfl) (pa_cons (pe_bltn (v := .ty "tuple") (by rfl) T.m_tuple (by decide +kernel) rfl) pa_nil))) pa_nil)))))
        (pss_one (ps_ret pe_non))
        pss_nil)
      (pss_one (ps_try_only (Wout := fun _ _ _ _ => False) rfl rfl ⟨rfl, by decide, Or.inl T.gc_BadNumber⟩ takes0
        (fun W pn xe tk po => (pss_one (ps_ret (pe_callS (ok_mask_of T) (hr.mono (by decide)) rfl T.g_mask_of T.F_mask_of.kp T.b_mask_of (fun σ => passAt tk σ) (pa_cons (pv 0) (pa_cons (pv 1) pa_nil))))))
        (fun a oe cls d pn hz hf => (pss_one (ps_ret pe_non)))))), ?_⟩
    refine ⟨_, rfl, (by show 2 ≤ sizeLine; decide), fun p np => ?_⟩
    have sp := same_upd (o := .tup [.ty "list", .ty "tuple"]) np
    obtain ⟨t, ht, hk⟩ := (hS.same sp).ty
    refine ⟨_, p, _, t, _, true, rfl, upd_same, .cons (.ty _) (.cons (.ty _) .nil), ht, hk, true, rfl, iteF ?_⟩
    refine ⟨_, rfl, _, rfl, n, a, xs, rfl, n8, hS.same sp, sc, fun hb => ?_, fun z hb => ?_⟩
    · have k := k _ sp
      unfold maskIn at k
      rw [hb] at k
      exact k
    · intro d H' nd sm hx
      have k := k H' (sp.trans sm)
      unfold maskIn at k
      rw [hb] at k
      exact ⟨true, T.ex_BadNumber_BadNumber, fun _ _ _ => k, fun z => absurd z (by decide)⟩
theorem ok_Family_contains (T : Ctx K mg) : FnOk P w K mg base CX0 7 T.f_Family_contains T.fd_Family_contains ["self", "lot"] (spIn K T.c_Family) := by
  refine T.F_Family_contains.ok sc_Family_contains (fun vs H Q E h => ?_) (fun cdv A outer s H vs Q E hr h => ?_)
  · obtain ⟨x, y, n, f, xs, rfl, _⟩ := h
    rfl
  · obtain ⟨x, y, n, f, xs, rfl, F, ⟨b, rfl, hS, sc⟩, k⟩ := h
    refine ⟨_, (pss_cons (ps_set (i := 2) sc_Family_contains.nd rfl (Or.inl rfl) (pe_call (ok_mask_in T) (hr.mono (by decide)) (by rfl) T.g_mask_in T.F_mask_in.kp T.b_mask_in .nil pass0 (pa_cons (pe_fld (pv 0) rfl) (pa_cons (pv 1) pa_nil))))
      (pss_one (ps_ret (pe_and (pe_cmpR op_notN (pv 2) pe_non (nomark _)) (pe_one (pe_ix ix_tup (pe_fld (pv 0) rfl) (pv 2) (fun _ _ => rfl))))))), ?_⟩
    obtain ⟨⟨a, dx, tl, tm, ls, rfl, ha, h2, h3, ob, h4, hdn⟩, h5⟩ := F
    refine ⟨_, rfl, a, T.c_Family, dx, _, _, rfl, ha, T.cl_Family, T.n_Family_copies, famF_copies _ _ _, _, rfl, n, b, xs, rfl, h5.n8, hS, sc, fun H1 s1 => ?_⟩
    have k := k H1 s1
    have ha := s1 _ _ ha
    have h4 := s1 _ _ h4
    unfold maskIn
    cases hb : badOf n xs with
    | none =>
      rw [hb] at k
      refine ⟨_, rfl, rfl, true, rfl, iteT ?_⟩
      exact ⟨_, rfl, a, T.c_Family, dx, _, _, rfl, ha, T.cl_Family, T.n_Family_marks, famF_marks _ _ _, _, rfl, tm, _, _, _, rfl, rfl, .inl (.inr ⟨ob, h4⟩), atI_nat (marksV_at f (mask_lt fun x hx => badOf_none hb hx)), k⟩
    | some z =>
      rw [hb] at k
      exact ⟨_, rfl, rfl, false, rfl, iteF k⟩
end
section
variable {P : Program} {w : World} {K : PySem.W.Frag} {mg : Str → Option Value} {base : Heap}
theorem ok_l_holds (T : Ctx K mg) : FnOk P w K mg base CX0 1 T.f_l_holds T.fd_l_holds ["_law_lot", "_law_part"] (spPair K fun m k => subB k m) := by
  refine T.F_l_holds.ok sc_l_holds (fun vs H Q E h => ?_) (fun cdv A outer s H vs Q E hr h => ?_)
  · obtain ⟨x, y, m, k, rfl, _⟩ := h
    rfl
  · obtain ⟨x, y, m, k, rfl, ⟨a, rfl, ha⟩, ⟨b, rfl, hb⟩, hm, hk, q⟩ := h
    refine ⟨_, (pss_one (ps_ret (pe_callB (cr_all rfl) (by rfl) T.m_all (by decide +kernel) (pa_cons (pe_lc (own := [("_law_copy", 2)]) (g := gName 2) (tt := tYes) rfl sc_l_holds.nd (pi_tup (pv 1)) (blkOk_by (own := [("_law_copy", 2)]) (N := ["_law_lot", "_law_part", "_law_copy"]) (sc := defScope s_l_holds) (by decide +kernel)) (fun _ _ _ _ _ => (pg_name (i := 2) sc_l_holds.nd rfl (Or.inl rfl))) (fun _ _ _ _ _ => pts_nil) (fun _ _ _ _ _ => (pe_cmpR (opK (K := K) rfl (fun K => rIn K false) op_in_seq) (pv 2) (pv 0) rfl))) pa_nil)))), ?_⟩
    refine ⟨_, rfl, b, rfl, ⟨_, hb⟩, fun D nD => ?_⟩
    have h8 := lot_len k
    refine lc_itA (walk_tup (K := K) (a := b) (xs := lotV k)) (fun i => V.bl (m.testBit ((oneL k).getD i 0))) (fun a y _ => y = a) (fun _ _ _ _ _ h => h) nD (fun H' e => Same.seqT e hb) (by omega) ?_ ?_
    · rintro i x H1 H2 k1 hi sm ⟨rfl, hx⟩ h1
      obtain ⟨c, rfl, hc, he⟩ := lotV_at8 hx
      refine ⟨rfl, _, rfl, _, rfl, a, _, rfl, .inr (Same.seqT sm ha), rfl, flat_lotV m, ?_⟩
      rw [if_neg (by decide), in_lotV (K := K) m hm c hc]
      exact h1 _ _ (Same.refl _) (by rw [List.getD_eq_getElem?_getD, he] <;> rfl)
    · intro H' ys sm hD pr
      refine ⟨D, (oneL k).map fun c => m.testBit c, rfl, ?_, ?_⟩
      · rw [paired_eq pr] at hD
        have e := SqL.of (K := K) hD
        have el : (lotV k).length = (oneL k).length := by unfold lotV lotL; rw [List.length_map, List.length_map]
        rw [el, show (List.range (oneL k).length).map (fun i => V.bl (m.testBit ((oneL k).getD i 0))) = (oneL k).map (fun c => V.bl (m.testBit c)) from range_get (fun c => V.bl (m.testBit c)) 0 (oneL k)] at e
        rw [List.map_map]
        exact e
      · rw [all_sub m hk]
        exact q H' sm
theorem ok_l_grown (T : Ctx K mg) : FnOk P w K mg base CX0 2 T.f_l_grown T.fd_l_grown ["_law_copies", "_law_chosen"] (spGrown K) := by
  refine T.F_l_grown.ok sc_l_grown (fun vs H Q E h => ?_) (fun cdv A outer s H vs Q E hr h => ?_)
  · obtain ⟨n, p, ms, rfl, _⟩ := h
    rfl
  · obtain ⟨n, p, ms, rfl, hn, hL, hl, hm, q⟩ := h
    refine ⟨_, (pss_one (ps_ret (pe_lc (own := [("_law_lot", 3)]) (g := gName 3) (tt := tYes) rfl sc_l_grown.nd (pi_list (pe_call (ok_l_lots T) (hr.mono (by decide)) (by rfl) T.g_l_lots T.F_l_lots.kp T.b_l_lots .nil pass0 (pa_cons (pv 0) pa_nil))) (blkOk_by (own := [("_law_lot", 3)]) (N := ["_law_copies", "_law_chosen", "_law_part", "_law_lot"]) (sc := defScope s_l_grown) (by decide +kernel)) (fun _ _ _ _ _ => (pg_name (i := 3) sc_l_grown.nd rfl (Or.inr rfl))) (fun _ _ _ _ _ => pts_nil) (fun _ _ _ _ _ => (pe_callB (crK (K := K) rfl rAny (cr_any rfl)) (by rfl) T.m_any (by decide +kernel) (pa_cons (pe_lc (own := [("_law_part", 2)]) (g := gName 2) (tt := tYes) rfl sc_l_grown.nd (piK_list (K := K) rfl (pv 1)) (blkOk_by (own := [("_law_part", 2)]) (N := ["_law_copies", "_law_chosen", "_law_part", "_law_lot"]) (by first | decide +kernel | rfl)) (fun _ _ _ _ _ => (pg_name (i := 2) sc_l_grown.nd rfl (Or.inl rfl))) (fun _ _ _ _ _ => pts_nil) (fun _ _ _ _ _ => (pe_call (ok_l_holds T) (hr.mono (by decide)) (by rfl) T.g_l_holds T.F_l_holds.kp T.b_l_holds .nil pass0 (pa_cons (pv 3) (pa_cons (pv 2) pa_nil))))) pa_nil)))))), ?_⟩
    refine ⟨_, rfl, n, rfl, hn, fun p1 ys H1 s1 np1 hp1 pr1 => ?_⟩
    have h256 := pow_le8 hn
    have ey := prLen pr1
    rw [List.length_range] at ey
    refine ⟨p1, rfl, ⟨_, SqL.of hp1⟩, fun D nD => ?_⟩
    refine lc_itA (walk_list (K := K) (a := p1) (xs := ys)) (fun m => V.bl (upB ms m)) (fun a y _ => y = a) (fun _ _ _ _ _ h => h) nD (fun H' e => e.seq (SqL.of hp1)) (by omega) ?_ ?_
    · rintro m x H2 H3 k1 hm2 s2 ⟨rfl, hx⟩ h1
      have hLx : Lot K H3 m x := by
        obtain ⟨m', e, hx⟩ := prAt pr1 hx
        rw [List.getElem?_range (by omega)] at e
        cases e
        exact hx.same s2
      obtain ⟨zs, hz, pz⟩ := hL.same (s1.trans s2)
      refine ⟨rfl, _, rfl, p, rfl, ⟨_, hz⟩, fun D2 nD2 => ?_⟩
      have ez := prLen pz
      refine lc_itA (walk_list (K := K) (a := p) (xs := zs)) (fun j => V.bl (subB (ms.getD j 0) m)) (fun a y _ => y = a) (fun _ _ _ _ _ h => h) nD2 (fun H' e => e.seq hz) (by omega) ?_ ?_
      · rintro j z H4 H5 k2 hj s4 ⟨rfl, hzj⟩ h2
        obtain ⟨k, ek, hk⟩ := prAt pz hzj
        have hkm : k < 2 ^ n := hm k (List.mem_of_getElem? ek)
        refine ⟨rfl, _, rfl, _, rfl, x, z, m, k, rfl, hLx.same s4, hk.same s4, by omega, by omega, fun H6 s6 => h2 _ _ s6 ?_⟩
        rw [List.getD_eq_getElem?_getD, ek] <;> rfl
      · intro H4 bs s4 hB pb
        refine ⟨D2, ms.map fun k => subB k m, rfl, ?_, ?_⟩
        · have e := SqL.of (K := K) hB
          rw [paired_eq pb, ez, show (List.range ms.length).map (fun j => V.bl (subB (ms.getD j 0) m)) = ms.map (fun k => V.bl (subB k m)) from range_get (fun k => V.bl (subB k m)) 0 ms] at e
          rw [List.map_map]
          exact e
        · refine h1 _ _ s4 ?_
          unfold upB
          rw [List.any_map] <;> rfl
    · intro H4 bs s4 hB pb
      refine q D H4 (s1.trans s4) (s1.free nD) ?_
      have e := SqL.of (K := K) hB
      rw [paired_eq pb, ey] at e
      unfold marksV
      rw [List.map_map]
      exact e
theorem ok_l_meet (T : Ctx K mg) : FnOk P w K mg base CX0 1 T.f_l_meet T.fd_l_meet ["_law_first", "_law_second"] (spPair K fun m k => metB m k) := by
  refine T.F_l_meet.ok sc_l_meet (fun vs H Q E h => ?_) (fun cdv A outer s H vs Q E hr h => ?_)
  · obtain ⟨x, y, m, k, rfl, _⟩ := h
    rfl
  · obtain ⟨x, y, m, k, rfl, ⟨a, rfl, ha⟩, ⟨b, rfl, hb⟩, hm, hk, q⟩ := h
    refine ⟨_, (pss_one (ps_ret (pe_callB (cr_any rfl) (by rfl) T.m_any (by decide +kernel) (pa_cons (pe_lc (own := [("_law_copy", 2)]) (g := gName 2) (tt := tYes) rfl sc_l_meet.nd (pi_tup (pv 0)) (blkOk_by (own := [("_law_copy", 2)]) (N := ["_law_first", "_law_second", "_law_copy"]) (sc := defScope s_l_meet) (by decide +kernel)) (fun _ _ _ _ _ => (pg_name (i := 2) sc_l_meet.nd rfl (Or.inl rfl))) (fun _ _ _ _ _ => pts_nil) (fun _ _ _ _ _ => (pe_cmpR (opK (K := K) rfl (fun K => rIn K false) op_in_seq) (pv 2) (pv 1) rfl))) pa_nil)))), ?_⟩
    refine ⟨_, rfl, a, rfl, ⟨_, ha⟩, fun D nD => ?_⟩
    have h8 := lot_len m
    refine lc_itA (walk_tup (K := K) (a := a) (xs := lotV m)) (fun i => V.bl (k.testBit ((oneL m).getD i 0))) (fun a y _ => y = a) (fun _ _ _ _ _ h => h) nD (fun H' e => Same.seqT e ha) (by omega) ?_ ?_
    · rintro i x H1 H2 k1 hi sm ⟨rfl, hx⟩ h1
      obtain ⟨c, rfl, hc, he⟩ := lotV_at8 hx
      refine ⟨rfl, _, rfl, _, rfl, b, _, rfl, .inr (Same.seqT sm hb), rfl, flat_lotV k, ?_⟩
      rw [if_neg (by decide), in_lotV (K := K) k hk c hc]
      exact h1 _ _ (Same.refl _) (by rw [List.getD_eq_getElem?_getD, he] <;> rfl)
    · intro H' ys sm hD pr
      refine ⟨D, (oneL m).map fun c => k.testBit c, rfl, ?_, ?_⟩
      · rw [paired_eq pr] at hD
        have e := SqL.of (K := K) hD
        have el : (lotV m).length = (oneL m).length := by unfold lotV lotL; rw [List.length_map, List.length_map]
        rw [el, show (List.range (oneL m).length).map (fun i => V.bl (k.testBit ((oneL m).getD i 0))) = (oneL m).map (fun c => V.bl (k.testBit c)) from range_get (fun c => V.bl (k.testBit c)) 0 (oneL m)] at e
        rw [List.map_map]
        exact e
      · exact q H' sm
theorem ok_l_all_meet (T : Ctx K mg) : FnOk P w K mg base CX0 2 T.f_l_all_meet T.fd_l_all_meet ["_law_first", "_law_second"] (spAllMeet K) := by
  refine T.F_l_all_meet.ok sc_l_all_meet (fun vs H Q E h => ?_) (fun cdv A outer s H vs Q E hr h => ?_)
  · obtain ⟨p, q, n, f, g, rfl, _⟩ := h
    rfl
  · obtain ⟨p, q, n, f, g, rfl, ⟨xs, hx, px⟩, ⟨ys, hy, py⟩, hn, k⟩ := h
    refine ⟨_, (pss_cons (ps_for PassesOwn.never rfl (pi_list (pv 0)) (pg_name (i := 2) sc_l_all_meet.nd rfl (Or.inr rfl))
        (pss_one (ps_if (pt_not (pt_val (pe_callB (cr_all rfl) (by rfl) T.m_all (by decide +kernel) (pa_cons (pe_lc (own := [("_law_other", 3)]) (g := gName 3) (tt := tYes) rfl sc_l_all_meet.nd (pi_list (pv 1)) (blkOk_by (own := [("_law_other", 3)]) (N := ["_law_first", "_law_second", "_law_lot", "_law_other"]) (sc := defScope s_l_all_meet) (by decide +kernel)) (fun _ _ _ _ _ => (pg_name (i := 3) sc_l_all_meet.nd rfl (Or.inl rfl))) (fun _ _ _ _ _ => pts_nil) (fun _ _ _ _ _ => (pe_call (ok_l_meet T) (hr.mono (by decide)) (by rfl) T.g_l_meet T.F_l_meet.kp T.b_l_meet .nil pass0 (pa_cons (pv 2) (pa_cons (pv 3) pa_nil))))) pa_nil))))
          (pss_one (ps_ret pe_bl))
          pss_nil)))
      (pss_one (ps_ret pe_bl))), ?_⟩
    have h256 := pow_le8 hn
    have ex := prLen px
    have ey := prLen py
    have hlen : ∀ f, (inL n f).length ≤ 256 := fun f => by
      have := List.length_filter_le f (List.range (2 ^ n))
      rw [List.length_range] at this
      unfold inL
      omega
    refine ⟨_, rfl, p, rfl, ⟨_, hx⟩, for_list (K := K) (a := p) (xs := xs) (fun i σ H' => Same H H' ∧ (∀ m ∈ (inL n f).take i, ((inL n g).map fun k => metB m k).all id = true) ∧ ∃ v w, σ = [some (.ref p), some (.ref q), v, w]) ⟨Same.refl _, fun m hm => by simp at hm, _, _, rfl⟩
      (fun i σ H' _ h => h.1.seq hx) (fun i x σ H' hi hp => ?_) fun σ H' hp => ?_⟩
    · obtain ⟨s1, hall, v, w, rfl⟩ := hp
      obtain ⟨m, em, hm⟩ := prAt px hi
      have hm2 := (inL_iff.mp (List.mem_of_getElem? em)).1
      refine ⟨_, rfl, q, rfl, ⟨_, s1.seq hy⟩, fun D nD => ?_⟩
      refine lc_itA (walk_list (K := K) (a := q) (xs := ys)) (fun j => V.bl (metB m ((inL n g).getD j 0))) (fun a y _ => y = a) (fun _ _ _ _ _ h => h) nD (fun H' e => e.seq (s1.seq hy)) (by have := hlen g; omega) ?_ ?_
      · rintro j z H4 H5 k2 hj s4 ⟨rfl, hzj⟩ h2
        obtain ⟨k', ek, hk⟩ := prAt py hzj
        have hk2 := (inL_iff.mp (List.mem_of_getElem? ek)).1
        refine ⟨rfl, _, rfl, _, rfl, x, z, m, k', rfl, hm.same (s1.trans s4), hk.same (s1.trans s4), by omega, by omega, fun H6 s6 => h2 _ _ s6 ?_⟩
        rw [List.getD_eq_getElem?_getD, ek] <;> rfl
      · intro H4 bs s4 hB pb
        refine ⟨D, (inL n g).map fun k => metB m k, rfl, ?_, ?_⟩
        · have e := SqL.of (K := K) hB
          rw [paired_eq pb, ey, show (List.range (inL n g).length).map (fun j => V.bl (metB m ((inL n g).getD j 0))) = (inL n g).map (fun k => V.bl (metB m k)) from range_get (fun k => V.bl (metB m k)) 0 (inL n g)] at e
          rw [List.map_map]
          exact e
        · refine ⟨_, rfl, ?_⟩
          cases e : ((inL n g).map fun k => metB m k).all id with
          | false =>
            have k := k H4 (s1.trans s4)
            rw [allMet_no (List.mem_of_getElem? em) e] at k
            exact iteT k
          | true =>
            refine iteF ⟨s1.trans s4, fun m' hm' => ?_, _, _, rfl⟩
            rw [List.take_add_one, em] at hm'
            rcases List.mem_append.mp hm' with z | z
            · exact hall m' z
            · have z : m' ∈ [m] := z
              rw [List.mem_singleton.mp z]
              exact e
    · obtain ⟨s1, hall, v, w, rfl⟩ := hp
      have k := k H' s1
      rw [ex, List.take_length] at hall
      rw [allMet_yes hall] at k
      exact k
end

def spLaw (K : PySem.W.Frag) : Sp := fun vs H Q _ => ∃ (a : Addr) (ns : List Int), vs = [.ref a] ∧ SqL K H a (ns.map V.int) ∧ ns.length ≤ 63 ∧ ∀ H', Q (.bl true) H'
section
variable {P : Program} {w : World} {K : PySem.W.Frag} {mg : Str → Option Value} {base : Heap}
theorem ok_law (T : Ctx K mg) : FnOk P w K mg base CX0 12 T.f_law T.fd_law ["_law_script"] (spLaw K) := by
  refine T.F_law.ok sc_law (fun vs H Q E h => ?_) (fun cdv A outer s H vs Q E hr h => ?_)
  · obtain ⟨l, ns, rfl, _⟩ := h
    rfl
  · obtain ⟨l, ns, rfl, hS, hlen, q⟩ := h
    refine ⟨_, (pss_cons (ps_set (i := 1) sc_law.nd rfl (Or.inl rfl) (pe_call (ok_l_start T) (hr.mono (by decide)) (by rfl) T.g_l_start T.F_l_start.kp T.b_l_start .nil pass0 (pa_cons (pv 0) pa_nil)))
      (pss_cons (ps_set (i := 2) sc_law.nd rfl (Or.inl rfl) (pe_op op_add pe_int (pe_call (ok_l_draw T) (hr.mono (by decide)) (by rfl) T.g_l_draw T.F_l_draw.kp T.b_l_draw .nil pass0 (pa_cons (pv 0) (pa_cons (pv 1) (pa_cons pe_int pa_nil))))))
      (pss_cons (ps_set (i := 3) sc_law.nd rfl (Or.inr rfl) (pe_call (ok_l_lots T) (hr.mono (by decide)) (by rfl) T.g_l_lots T.F_l_lots.kp T.b_l_lots .nil pass0 (pa_cons (pv 2) pa_nil)))
      (pss_cons (ps_set (i := 4) sc_law.nd rfl (Or.inl rfl) (pe_call (ok_l_drawn T) (hr.mono (by decide)) (by rfl) T.g_l_drawn T.F_l_drawn.kp T.b_l_drawn .nil pass0 (pa_cons (pv 0) (pa_cons (pv 1) (pa_cons (pv 2) pa_nil)))))
      (pss_cons (ps_set (i := 5) sc_law.nd rfl (Or.inl rfl) (pe_call (ok_l_family T) (hr.mono (by decide)) (by rfl) T.g_l_family T.F_l_family.kp T.b_l_family .nil pass0 (pa_cons (pv 2) (pa_cons (pv 4) pa_nil))))
      (pss_cons (ps_set (i := 6) sc_law.nd rfl (Or.inr rfl) (pe_call (ok_l_grown T) (hr.mono (by decide)) (by rfl) T.g_l_grown T.F_l_grown.kp T.b_l_grown .nil pass0 (pa_cons (pv 2) (pa_cons (pv 4) pa_nil))))
      (pss_cons (ps_setLc (i := 7) (own := [("_law_code_here", 8)]) (g := gName 8) (tt := _) rfl sc_law.nd rfl rfl (sw_true rfl rfl rfl (by decide +kernel)) (pi_range1 (by rfl) T.m_range (pa_cons (pe_callB call_len_seq (by rfl) T.m_len (by decide +kernel) (pa_cons (pv 3) pa_nil)) pa_nil)) (blkOk_by (own := [("_law_code_here", 8)]) (N := ["_law_script", "_law_state", "_law_copies", "_law_lots_here", "_law_chosen", "_law_family_here", "_law_marks_here", "_law_inside", "_law_code_here", "_law_dual", "_law_due", "_law_lot", "_law_other", "_law_found", "_law_theirs", "_law_second"]) (sc := defScope s_law) (by decide +kernel)) (fun _ _ _ _ _ => (pg_name (i := 8) sc_law.nd rfl (Or.inl rfl))) (fun _ _ _ _ _ => (pts_one (pt_val (pe_ix (ixK_list (K := K) rfl) (pv 6) (pv 8) (fun _ _ => rfl))))) (fun _ _ _ _ _ => (pe_ix (ixK_list (K := K) rfl) (pv 3) (pv 8) (fun _ _ => rfl))))
      (pss_cons (ps_set (i := 9) sc_law.nd rfl (Or.inl rfl) (pe_meth0 (pv 5) T.cl_Family T.me_Family_dual (ok_Family_dual T) (hr.mono (by decide)) T.b_Family_dual .nil pass0))
      (pss_cons (ps_for PassesOwn.never rfl (pi_range1 (by rfl) T.m_range (pa_cons (pe_callB call_len_seq (by rfl) T.m_len (by decide +kernel) (pa_cons (pv 3) pa_nil)) pa_nil)) (pg_name (i := 8) sc_law.nd rfl (Or.inr rfl))
        (pss_cons (ps_set (i := 10) sc_law.nd rfl (Or.inl rfl) (pe_callB (cr_all rfl) (by rfl) T.m_all (by decide +kernel) (pa_cons (pe_lc (own := [("_law_lot", 11)]) (g := gName 11) (tt := tYes) rfl sc_law.nd (pi_list (pv 7)) (blkOk_by (own := [("_law_lot", 11)]) (N := ["_law_script", "_law_state", "_law_copies", "_law_lots_here", "_law_chosen", "_law_family_here", "_law_marks_here", "_law_inside", "_law_code_here", "_law_dual", "_law_due", "_law_lot", "_law_other", "_law_found", "_law_theirs", "_law_second"]) (sc := defScope s_law) (by decide +kernel)) (fun _ _ _ _ _ => (pg_name (i := 11) sc_law.nd rfl (Or.inl rfl))) (fun _ _ _ _ _ => pts_nil) (fun _ _ _ _ _ => (pe_call (ok_l_meet T) (hr.mono (by decide)) (by rfl) T.g_l_meet T.F_l_meet.kp T.b_l_meet .nil pass0 (pa_cons (pe_ix (ixK_list (K := K) rfl) (pv 3) (pv 8) (fun _ _ => rfl)) (pa_cons (pv 11) pa_nil))))) pa_nil)))
        (pss_one (ps_if (PW.pt (pw_or (pt_cmpR op_ne (pe_cmpR (op_inOwn T.me_Family_contains.at_ T.me_Family_contains.fn (ok_Family_contains T) (hr.mono (by decide)) T.b_Family_contains pass0) (pe_ix ix_list (pv 3) (pv 8) (fun _ _ => rfl)) (pv 9) rfl) (pv 10) (nomark _)) (pw_or1 (pt_cmpR op_eq (pv 10) (pe_ix ix_list (pv 6) (pe_op op_sub (pe_op op_sub (pe_callB call_len_seq (by rfl) T.m_len (by decide +kernel) (pa_cons (pv 3) pa_nil)) pe_int) (pv 8)) (fun _ _ => rfl)) (nomark _)))))
          (pss_one (ps_ret pe_bl))
          pss_nil))))
      (pss_cons (ps_set (i := 12) sc_law.nd rfl (Or.inl rfl) (pe_call (ok_l_drawn T) (hr.mono (by decide)) (by rfl) T.g_l_drawn T.F_l_drawn.kp T.b_l_drawn .nil pass0 (pa_cons (pv 0) (pa_cons (pv 1) (pa_cons (pv 2) pa_nil)))))
      (pss_cons (ps_set (i := 13) sc_law.nd rfl (Or.inr rfl) (pe_call (ok_l_grown T) (hr.mono (by decide)) (by rfl) T.g_l_grown T.F_l_grown.kp T.b_l_grown .nil pass0 (pa_cons (pv 2) (pa_cons (pv 12) pa_nil))))
      (pss_cons (ps_setLc (i := 14) (own := [("_law_code_here", 8)]) (g := gName 8) (tt := _) rfl sc_law.nd rfl rfl (sw_true rfl rfl rfl (by decide +kernel)) (pi_range1 (by rfl) T.m_range (pa_cons (pe_callB call_len_seq (by rfl) T.m_len (by decide +kernel) (pa_cons (pv 3) pa_nil)) pa_nil)) (blkOk_by (own := [("_law_code_here", 8)]) (N := ["_law_script", "_law_state", "_law_copies", "_law_lots_here", "_law_chosen", "_law_family_here", "_law_marks_here", "_law_inside", "_law_code_here", "_law_dual", "_law_due", "_law_lot", "_law_other", "_law_found", "_law_theirs", "_law_second"]) (sc := defScope s_law) (by decide +kernel)) (fun _ _ _ _ _ => (pg_name (i := 8) sc_law.nd rfl (Or.inl rfl))) (fun _ _ _ _ _ => (pts_one (pt_val (pe_ix (ixK_list (K := K) rfl) (pv 13) (pv 8) (fun _ _ => rfl))))) (fun _ _ _ _ _ => (pe_ix (ixK_list (K := K) rfl) (pv 3) (pv 8) (fun _ _ => rfl))))
      (pss_cons (ps_set (i := 15) sc_law.nd rfl (Or.inl rfl) (pe_call (ok_l_family T) (hr.mono (by decide)) (by rfl) T.g_l_family T.F_l_family.kp T.b_l_family .nil pass0 (pa_cons (pv 2) (pa_cons (pv 12) pa_nil))))
      (Evl.pss_cut (ps_if (PW.pt (pw_or (pt_cmpR op_ne (pe_meth (pv 5) T.cl_Family T.me_Family_meets (ok_Family_meets T) (hr.mono (by decide)) T.b_Family_meets .nil passL (pa_cons (pv 15) pa_nil)) (pe_call (ok_l_all_meet T) (hr.mono (by decide)) (by rfl) T.g_l_all_meet T.F_l_all_meet.kp T.b_l_all_meet .nil pass0 (pa_cons (pv 7) (pa_cons (pv 14) pa_nil))) (nomark _)) (pw_or1 (pt_cmpR op_ne (pe_meth (pv 15) T.cl_Family T.me_Family_meets (ok_Family_meets T) (hr.mono (by decide)) T.b_Family_meets .nil passL (pa_cons (pv 5) pa_nil)) (pe_meth (pv 5) T.cl_Family T.me_Family_meets (ok_Family_meets T) (hr.mono (by decide)) T.b_Family_meets .nil passL (pa_cons (pv 15) pa_nil)) (nomark _)))))
        (pss_one (ps_ret pe_bl))
        pss_nil)
      (Evl.pss_cut (ps_if (PW.pt (pw_or (pt_cmpR op_ne (pe_meth0 (pv 5) T.cl_Family T.me_Family_is_strict (ok_Family_is_strict T) (hr.mono (by decide)) T.b_Family_is_strict .nil pass0) (pe_call (ok_l_all_meet T) (hr.mono (by decide)) (by rfl) T.g_l_all_meet T.F_l_all_meet.kp T.b_l_all_meet .nil pass0 (pa_cons (pv 7) (pa_cons (pv 7) pa_nil))) (nomark _)) (pw_or1 (pt_not (pt_val (pe_meth (pv 5) T.cl_Family T.me_Family_meets (ok_Family_meets T) (hr.mono (by decide)) T.b_Family_meets .nil passL (pa_cons (pv 9) pa_nil)))))))
        (pss_one (ps_ret pe_bl))
        pss_nil)
      (pss_one (ps_ret (pe_and (pe_callB call_isi (by rfl) T.m_isinstance (by decide +kernel) (pa_cons (pe_meth0 (pv 5) T.cl_Family T.me_Family_is_strict (ok_Family_is_strict T) (hr.mono (by decide)) T.b_Family_is_strict .nil pass0) (pa_cons (pe_bltn (v := .ty "bool") (by rfl) T.m_bool (by decide +kernel) rfl) pa_nil))) (pe_one (pe_cmpR (op_ownC (fun _ _ => rfl) T.me_Family_eq.at_ T.me_Family_eq.fn (ok_Family_eq T) (hr.mono (by decide)) T.b_Family_eq pass0) (pv 5) (pe_call (ok_l_family T) (hr.mono (by decide)) (by rfl) T.g_l_family T.F_l_family.kp T.b_l_family .nil pass0 (pa_cons (pv 2) (pa_cons (pv 4) pa_nil))) (nomark _))))))))))))))))))))), ?_⟩
    refine ⟨_, rfl, l, ns, rfl, hS, fun t H1 nt D1 b1 => ?_⟩
    refine ⟨_, rfl, _, rfl, l, t, 5, H, rfl, D1, by decide, by decide, fun x H2 a1 a2 b2 D2 => ?_⟩
    obtain ⟨n, hn⟩ : ∃ n : Nat, 1 + x = (n : Int) := ⟨(1 + x).toNat, by omega⟩
    refine opN (z := .int n) (congrArg V.int hn) ?_
    have n1 : 1 ≤ n := by omega
    have n8 : n ≤ 8 := by omega
    clear a1 a2 hn
    have h256 := pow_le8 n8
    -- lots
    refine ⟨_, rfl, n, rfl, n8, fun p3 ys3 H3 s3 np3 hp3 pr3 => ?_⟩
    have D3 := D2.mono s3
    -- chosen
    refine ⟨_, rfl, _, rfl, _, rfl, l, t, n, H, rfl, D3, n1, n8, fun p4 ms4 ys4 H4 e4 D4 np4 hp4 pr4 h1 h2 h3 => ?_⟩
    have hp3 : H4 p3 = some (.lst ys3) := e4 _ _ (D2.ne np3) hp3
    have pr3 : Paired (fun m y => Lot K H4 m y) (List.range (2 ^ n)) ys3 := prImp (fun _ _ z => z.sameT (excT D3 e4)) pr3
    have ly := prLen pr3
    rw [List.length_range] at ly
    -- family
    refine ⟨_, rfl, _, rfl, n, p4, ms4, ys4, rfl, n1, n8, SqL.of hp4, pr4, h1, by omega, h3, fun v5 H5 s5 F5 => ?_⟩
    -- marks
    refine ⟨_, rfl, _, rfl, n, p4, ms4, rfl, n8, ⟨ys4, s5.seq (SqL.of hp4), prImp (fun _ _ z => z.same s5) pr4⟩, by omega, fun m hm => (h3 m hm).2, fun q6 H6 s6 nq6 hq6 => ?_⟩
    have F5 := F5.same s6
    have D6 := D4.mono (s5.trans s6)
    have hp3 := (s5.trans s6) _ _ hp3
    have pr3 := prImp (fun m y (z : Lot K H4 m y) => z.same (s5.trans s6)) pr3
    obtain ⟨f, ef⟩ : ∃ f, f = upB ms4 := ⟨_, rfl⟩
    rw [← ef] at F5 hq6
    have n4 := D3.ne np4
    have hp4 := (s5.trans s6) _ _ hp4
    have pr4 := prImp (fun m y (z : Lot K H4 m y) => z.same (s5.trans s6)) pr4
    -- inside
    refine ⟨_, rfl, p3, ys3, rfl, .inl (SqL.of hp3), _, rfl, by omega, by omega, fun D7 nD7 => ?_⟩
    rw [Int.toNat_natCast, ly]
    refine lc_itM (walk_range (lo := 0) (n := 2 ^ n)) (fun m => if f m = true then some m else none) (fun m y H => Lot K H m y) (fun _ _ _ _ e h => h.sameT e) nD7 (fun _ _ => trivial) (by omega) ?_ ?_
    · rintro m x H7 H7' k1 N hm s7 ⟨rfl, rfl⟩ h1 h2
      obtain ⟨y, hy, hL⟩ := lots_at0 (prImp (fun _ _ z => z.same s7) pr3) hm
      refine ⟨rfl, _, rfl, _, rfl, q6, _, _, _, rfl, rfl, s7.seq hq6, atI0 (marksV_at f hm), f m, rfl, ?_⟩
      cases e : f m with
      | false => exact iteF (h2 _ (Same.refl _) (by rw [e] <;> rfl))
      | true => exact iteT ⟨_, rfl, _, rfl, p3, _, _, _, rfl, rfl, s7.seq (SqL.of hp3), hy, h1 _ _ _ (Same.refl _) (by rw [e] <;> rfl) hL⟩
    intro H7 zs s7 hD7 pz
    rw [ins_eq] at pz
    have F5 := F5.same s7
    have D7' := D6.mono s7
    have hp3 := s7 _ _ hp3
    have pr3 := prImp (fun m y (z : Lot K H6 m y) => z.same s7) pr3
    have hq6 := s7.seq hq6
    have hp4 := s7 _ _ hp4
    have pr4 := prImp (fun m y (z : Lot K H6 m y) => z.same s7) pr4
    have n3 := D2.ne np3
    have n7 := D6.ne nD7
    clear s7 s6 s5 s3 e4 D2 D3 D4 b2 b1 D1
    -- dual
    refine ⟨_, rfl, F5.meth m_dual ⟨_, n, _, rfl, F5, fun r9 H8 s8 F9 => ?_⟩⟩
    have F5 := F5.same s8
    have D8 := D7'.mono s8
    have hp3 := s8 _ _ hp3
    have pr3 := prImp (fun m y (z : Lot K H7 m y) => z.same s8) pr3
    have hq6 := s8.seq hq6
    have hp4 := s8 _ _ hp4
    have pr4 := prImp (fun m y (z : Lot K H7 m y) => z.same s8) pr4
    have hD7 := s8 _ _ hD7
    have hz := SqL.of (K := K) hD7
    have pz := prImp (fun m y (z : Lot K H7 m y) => z.same s8) pz
    clear s8 D7' D6
    have lz := prLen pz
    have lz2 : (inL n f).length ≤ 2 ^ n := by
      have := List.length_filter_le f (List.range (2 ^ n))
      rw [List.length_range] at this
      exact this
    -- the loop
    refine ⟨_, rfl, p3, ys3, rfl, .inl (SqL.of hp3), _, rfl, by omega, by omega, ?_⟩
    rw [Int.toNat_natCast, ly]
    refine for_range (n := 2 ^ n) (fun i σ H' => Same H8 H' ∧ ∃ v8 v10, σ = [some (.ref l), some (.ref t), some (.int n), some (.ref p3), some (.ref p4), some v5, some (.ref q6), some (.ref D7), v8, some r9, v10, none, none, none, none, none])
      ⟨Same.refl _, _, _, rfl⟩ ?_ ?_
    · rintro i σ H9 hi ⟨s9, v8, v10, rfl⟩
      obtain ⟨y, hy, hL⟩ := lots_at0 (prImp (fun _ _ z => z.same s9) pr3) hi
      refine ⟨_, rfl, D7, rfl, ⟨_, s9.seq hz⟩, fun D nD => ?_⟩
      refine lc_itA (walk_list (K := K) (a := D7) (xs := zs)) (fun j => V.bl (metB i ((inL n f).getD j 0))) (fun a y _ => y = a) (fun _ _ _ _ _ h => h) nD (fun H' e => e.seq (s9.seq hz)) (by omega) ?_ ?_
      · rintro j z H10 H10' k1 hj s10 ⟨rfl, hzj⟩ h1
        obtain ⟨k, ek, hk⟩ := prAt pz hzj
        have hk2 := (inL_iff.mp (List.mem_of_getElem? ek)).1
        refine ⟨rfl, _, rfl, _, rfl, p3, _, _, _, rfl, rfl, (s9.trans s10).seq (SqL.of hp3), hy, _, rfl, y, z, i, k, rfl, hL.same s10, hk.same (s9.trans s10), by omega, by omega, fun H6 s6 => h1 _ _ s6 ?_⟩
        rw [List.getD_eq_getElem?_getD, ek] <;> rfl
      intro H10 bs s10 hB pb
      have t10 := s9.trans s10
      refine ⟨D, (inL n f).map fun k => metB i k, rfl, ?_, ?_⟩
      · have e := SqL.of (K := K) hB
        rw [paired_eq pb, lz, show (List.range (inL n f).length).map (fun j => V.bl (metB i ((inL n f).getD j 0))) = (inL n f).map (fun k => V.bl (metB i k)) from range_get (fun k => V.bl (metB i k)) 0 (inL n f)] at e
        rw [List.map_map]
        exact e
      rw [met_all F5.2 hi]
      refine ⟨_, rfl, _, rfl, p3, _, _, _, rfl, rfl, t10.seq (SqL.of hp3), hy, _, rfl, fam_in (F9.same t10) (hL.same s10) hi id fun H11 s11 => ⟨_, rfl, bl_ne false (by simp) ⟨_, rfl, iteF ?_⟩⟩⟩
      have t11 := t10.trans s11
      refine ⟨_, rfl, _, rfl, _, rfl, p3, ys3, rfl, .inl (t11.seq (SqL.of hp3)), ?_⟩
      have eo : (ys3.length : Int) - 1 - (0 + (i : Int)) = (oth n i : Nat) := by unfold oth; omega
      refine ⟨_, _, rfl, rfl, _, rfl, _, _, rfl, rfl, q6, _, _, _, rfl, rfl, t11.seq hq6, (by rw [eo]; exact atI_nat (marksV_at f oth_lt)), bl_eq false ?_ ⟨_, rfl, iteF ⟨t11, _, _, rfl⟩⟩⟩
      unfold dualB
      cases f (oth n i) <;> rfl
    rintro σ H9 ⟨s9, v8, v10, rfl⟩
    have hp3 := s9 _ _ hp3
    have pr3 := prImp (fun m y (z : Lot K H8 m y) => z.same s9) pr3
    have hD7 := s9 _ _ hD7
    have hp4 := s9 _ _ hp4
    have pr4 := prImp (fun m y (z : Lot K H8 m y) => z.same s9) pr4
    have pz := prImp (fun m y (z : Lot K H8 m y) => z.same s9) pz
    have F5 := F5.same s9
    have F9 := F9.same s9
    have D9 := D8.mono s9
    clear hq6 s9 D8 hz
    refine ⟨_, rfl, _, rfl, _, rfl, l, t, n, H, rfl, D9, n1, n8, fun p10 ms10 ys10 H10 e10 D10 np10 hp10 pr10 k1 k2 k3 => ?_⟩
    have F5 := F5.sameT (excT D9 e10)
    have F9 := F9.sameT (excT D9 e10)
    have hp3 : H10 p3 = some (.lst ys3) := e10 _ _ n3 hp3
    have hD7 : H10 D7 = some (.lst zs) := e10 _ _ n7 hD7
    have hp4 : H10 p4 = some (.lst ys4) := e10 _ _ n4 hp4
    have pr4 : Paired (fun m y => Lot K H10 m y) ms4 ys4 := prImp (fun _ _ z => z.sameT (excT D9 e10)) pr4
    have pr3 : Paired (fun m y => Lot K H10 m y) (List.range (2 ^ n)) ys3 := prImp (fun _ _ z => z.sameT (excT D9 e10)) pr3
    have pz : Paired (fun m y => Lot K H10 m y) (inL n f) zs := prImp (fun _ _ z => z.sameT (excT D9 e10)) pz
    clear D9 e10
    -- found
    refine ⟨_, rfl, _, rfl, n, p10, ms10, rfl, n8, ⟨ys10, SqL.of hp10, pr10⟩, by omega, fun m hm => (k3 m hm).2, fun q11 H11 s11 nq11 hq11 => ?_⟩
    -- theirs
    refine ⟨_, rfl, p3, ys3, rfl, .inl (s11.seq (SqL.of hp3)), _, rfl, by omega, by omega, fun D12 nD12 => ?_⟩
    rw [Int.toNat_natCast, ly]
    refine lc_itM (walk_range (lo := 0) (n := 2 ^ n)) (fun m => if upB ms10 m = true then some m else none) (fun m y H => Lot K H m y) (fun _ _ _ _ e h => h.sameT e) nD12 (fun _ _ => trivial) (by omega) ?_ ?_
    · rintro m x H7 H7' k1 N hm s7 ⟨rfl, rfl⟩ h1 h2
      obtain ⟨y, hy, hL⟩ := lots_at0 (prImp (fun _ _ z => z.same (s11.trans s7)) pr3) hm
      refine ⟨rfl, _, rfl, _, rfl, q11, _, _, _, rfl, rfl, s7.seq hq11, atI0 (marksV_at _ hm), upB ms10 m, rfl, ?_⟩
      cases e : upB ms10 m with
      | false => exact iteF (h2 _ (Same.refl _) (by rw [e] <;> rfl))
      | true => exact iteT ⟨_, rfl, _, rfl, p3, _, _, _, rfl, rfl, (s11.trans s7).seq (SqL.of hp3), hy, h1 _ _ _ (Same.refl _) (by rw [e] <;> rfl) hL⟩
    intro H12 us s12 hD12 pu
    rw [ins_eq] at pu
    have t12 := s11.trans s12
    have D12' := D10.mono t12
    -- second
    refine ⟨_, rfl, _, rfl, n, p10, ms10, ys10, rfl, n1, n8, t12.seq (SqL.of hp10), prImp (fun _ _ z => z.same t12) pr10, k1, by omega, k3, fun v13 H13 s13 F13 => ?_⟩
    have t13 := t12.trans s13
    have F5 := F5.same t13
    have F9 := F9.same t13
    have hD12 := s13 _ _ hD12
    have pu := prImp (fun m y (z : Lot K H12 m y) => z.same s13) pu
    have hD7 := t13 _ _ hD7
    have pz := prImp (fun m y (z : Lot K H10 m y) => z.same t13) pz
    generalize upB ms10 = g at F13 pu
    have L7 : Lots K H13 D7 (inL n f) := ⟨zs, SqL.of hD7, pz⟩
    have L12 : Lots K H13 D12 (inL n g) := ⟨us, SqL.of hD12, pu⟩
    have hp4 := t13 _ _ hp4
    have pr4 := prImp (fun m y (z : Lot K H10 m y) => z.same t13) pr4
    have ic := T.ic_Family
    clear hp3 pr3 hq11 hD7 hD12 pz pu t13 t12 s13 s12 s11 D10 D12'
    obtain ⟨σ1, hσ1⟩ : ∃ σ1 : L2.St, σ1 = [some (.ref l), some (.ref t), some (.int n), some (.ref p3), some (.ref p4), some v5, some (.ref q6), some (.ref D7), v8, some r9, v10, none, some (.ref p10), some (.ref q11), some (.ref D12), some v13] := ⟨_, rfl⟩
    refine ⟨fun σ' H' => σ' = σ1 ∧ Same H13 H', ?_, ?_⟩
    · refine ⟨_, rfl, F5.meth m_meets ⟨_, rfl, _, _, n, n, f, g, rfl, F5, F13, (fun _ H14 s14 => ?_), fun z => absurd rfl z⟩⟩
      refine ⟨_, rfl, _, rfl, D7, D12, n, f, g, rfl, L7.same s14, L12.same s14, n8, fun H15 s15 => bl_ne false (by rw [allMet_eq F13.2]; simp) ⟨_, rfl, iteF ?_⟩⟩
      have t15 := s14.trans s15
      refine ⟨_, rfl, (F13.same t15).meth m_meets ⟨_, rfl, _, _, n, n, g, f, rfl, F13.same t15, F5.same t15, (fun _ H16 s16 => ?_), fun z => absurd rfl z⟩⟩
      have t16 := t15.trans s16
      refine ⟨_, rfl, (F5.same t16).meth m_meets ⟨_, rfl, _, _, n, n, f, g, rfl, F5.same t16, F13.same t16, (fun _ H17 s17 => ?_), fun z => absurd rfl z⟩⟩
      exact bl_ne false (by rw [meet_comm]; simp) ⟨_, rfl, iteF ⟨hσ1.symm, t16.trans s17⟩⟩
    rintro σ' H14 ⟨eσ, s14⟩
    rw [eσ, hσ1]
    clear eσ
    refine ⟨fun σ' H' => σ' = σ1 ∧ Same H13 H', ?_, ?_⟩
    · refine ⟨_, rfl, (F5.same s14).meth m_strict ⟨_, n, f, rfl, F5.same s14, fun H15 s15 => ?_⟩⟩
      have t15 := s14.trans s15
      refine ⟨_, rfl, _, rfl, D7, D7, n, f, f, rfl, L7.same t15, L7.same t15, n8, fun H16 s16 => bl_ne false (by rw [allMet_eq F5.2]; simp) ⟨_, rfl, iteF ?_⟩⟩
      have t16 := t15.trans s16
      refine ⟨_, rfl, (F5.same t16).meth m_meets ⟨_, rfl, _, _, n, n, f, dualB n f, rfl, F5.same t16, F9.same t16, (fun _ H17 s17 => ?_), fun z => absurd rfl z⟩⟩
      rw [meet_dual]
      exact ⟨_, rfl, hσ1.symm, t16.trans s17⟩
    rintro σ' H15 ⟨eσ, s15⟩
    rw [eσ, hσ1]
    clear eσ
    refine ⟨_, rfl, (F5.same s15).meth m_strict ⟨_, n, f, rfl, F5.same s15, fun H16 s16 => ?_⟩⟩
    have t16 := s15.trans s16
    refine ⟨_, _, _, _, true, rfl, .ty _, .base (.bl _), kit_ty (by decide +kernel), true, rfl, iteT ?_⟩
    refine ⟨_, rfl, _, rfl, _, rfl, n, p4, ms4, ys4, rfl, n1, n8, SqL.of (t16 _ _ hp4), prImp (fun _ _ z => z.same t16) pr4, h1, by omega, h3, fun v17 H17 s17 F17 => ?_⟩
    exact fam_eqT ic ((F5.same t16).same s17) F17 (fun m _ => by rw [ef]) fun H18 s18 => q _
end
theorem all_mk {l : PySem.W.OpenLaw} {w : World} {K : PySem.W.Frag} {h : Heap} {mg : Str → Option Value} {fa ca_VoteError ca_BadNumber ca_BadLot ca_Unlike ca_Family fa_BadNumber_init fa_BadLot_init fa_is_integer fa_check_number fa_check_copies fa_check_copy fa_mask_of fa_lot_at fa_check_alike fa_is_within fa_masks_of fa_marks_above fa_minimal_lots fa_Family_init fa_marked fa_Family_eq fa_Family_le fa_Family_or fa_Family_and fa_mask_in fa_Family_contains fa_Family_meets fa_Family_is_strict fa_Family_dual fa_l_start fa_l_draw fa_l_lots fa_l_drawn fa_l_family fa_l_holds fa_l_grown fa_l_meet fa_l_all_meet fa_law : Addr} (X : K.In h) (G : h.Ns mainGlobals mg) (hfa : mg "law" = some (.ref fa))
    {od_BadNumber_init an_BadNumber_init : Option Addr} {sl_BadNumber_init : Array (Option Value)} {oc_BadNumber_init kV_BadNumber_init dc_BadNumber_init pm_BadNumber_init cd_BadNumber_init ct_BadNumber_init : Value}
    {od_BadLot_init an_BadLot_init : Option Addr} {sl_BadLot_init : Array (Option Value)} {oc_BadLot_init kV_BadLot_init dc_BadLot_init pm_BadLot_init cd_BadLot_init ct_BadLot_init : Value}
    {od_is_integer an_is_integer : Option Addr} {sl_is_integer : Array (Option Value)} {oc_is_integer kV_is_integer dc_is_integer pm_is_integer cd_is_integer ct_is_integer : Value}
    {od_check_number an_check_number : Option Addr} {sl_check_number : Array (Option Value)} {oc_check_number kV_check_number dc_check_number pm_check_number cd_check_number ct_check_number : Value}
    {od_check_copies an_check_copies : Option Addr} {sl_check_copies : Array (Option Value)} {oc_check_copies kV_check_copies dc_check_copies pm_check_copies cd_check_copies ct_check_copies : Value}
    {od_check_copy an_check_copy : Option Addr} {sl_check_copy : Array (Option Value)} {oc_check_copy kV_check_copy dc_check_copy pm_check_copy cd_check_copy ct_check_copy : Value}
    {od_mask_of an_mask_of : Option Addr} {sl_mask_of : Array (Option Value)} {oc_mask_of kV_mask_of dc_mask_of pm_mask_of cd_mask_of ct_mask_of : Value}
    {od_lot_at an_lot_at : Option Addr} {sl_lot_at : Array (Option Value)} {oc_lot_at kV_lot_at dc_lot_at pm_lot_at cd_lot_at ct_lot_at : Value}
    {od_check_alike an_check_alike : Option Addr} {sl_check_alike : Array (Option Value)} {oc_check_alike kV_check_alike dc_check_alike pm_check_alike cd_check_alike ct_check_alike : Value}
    {od_is_within an_is_within : Option Addr} {sl_is_within : Array (Option Value)} {oc_is_within kV_is_within dc_is_within pm_is_within cd_is_within ct_is_within : Value}
    {od_masks_of an_masks_of : Option Addr} {sl_masks_of : Array (Option Value)} {oc_masks_of kV_masks_of dc_masks_of pm_masks_of cd_masks_of ct_masks_of : Value}
    {od_marks_above an_marks_above : Option Addr} {sl_marks_above : Array (Option Value)} {oc_marks_above kV_marks_above dc_marks_above pm_marks_above cd_marks_above ct_marks_above : Value}
    {od_minimal_lots an_minimal_lots : Option Addr} {sl_minimal_lots : Array (Option Value)} {oc_minimal_lots kV_minimal_lots dc_minimal_lots pm_minimal_lots cd_minimal_lots ct_minimal_lots : Value}
    {od_Family_init an_Family_init : Option Addr} {sl_Family_init : Array (Option Value)} {oc_Family_init kV_Family_init dc_Family_init pm_Family_init cd_Family_init ct_Family_init : Value}
    {od_marked an_marked : Option Addr} {sl_marked : Array (Option Value)} {oc_marked kV_marked dc_marked pm_marked cd_marked ct_marked : Value}
    {od_Family_eq an_Family_eq : Option Addr} {sl_Family_eq : Array (Option Value)} {oc_Family_eq kV_Family_eq dc_Family_eq pm_Family_eq cd_Family_eq ct_Family_eq : Value}
    {od_Family_le an_Family_le : Option Addr} {sl_Family_le : Array (Option Value)} {oc_Family_le kV_Family_le dc_Family_le pm_Family_le cd_Family_le ct_Family_le : Value}
    {od_Family_or an_Family_or : Option Addr} {sl_Family_or : Array (Option Value)} {oc_Family_or kV_Family_or dc_Family_or pm_Family_or cd_Family_or ct_Family_or : Value}
    {od_Family_and an_Family_and : Option Addr} {sl_Family_and : Array (Option Value)} {oc_Family_and kV_Family_and dc_Family_and pm_Family_and cd_Family_and ct_Family_and : Value}
    {od_mask_in an_mask_in : Option Addr} {sl_mask_in : Array (Option Value)} {oc_mask_in kV_mask_in dc_mask_in pm_mask_in cd_mask_in ct_mask_in : Value}
    {od_Family_contains an_Family_contains : Option Addr} {sl_Family_contains : Array (Option Value)} {oc_Family_contains kV_Family_contains dc_Family_contains pm_Family_contains cd_Family_contains ct_Family_contains : Value}
    {od_Family_meets an_Family_meets : Option Addr} {sl_Family_meets : Array (Option Value)} {oc_Family_meets kV_Family_meets dc_Family_meets pm_Family_meets cd_Family_meets ct_Family_meets : Value}
    {od_Family_is_strict an_Family_is_strict : Option Addr} {sl_Family_is_strict : Array (Option Value)} {oc_Family_is_strict kV_Family_is_strict dc_Family_is_strict pm_Family_is_strict cd_Family_is_strict ct_Family_is_strict : Value}
    {od_Family_dual an_Family_dual : Option Addr} {sl_Family_dual : Array (Option Value)} {oc_Family_dual kV_Family_dual dc_Family_dual pm_Family_dual cd_Family_dual ct_Family_dual : Value}
    {od_l_start an_l_start : Option Addr} {sl_l_start : Array (Option Value)} {oc_l_start kV_l_start dc_l_start pm_l_start cd_l_start ct_l_start : Value}
    {od_l_draw an_l_draw : Option Addr} {sl_l_draw : Array (Option Value)} {oc_l_draw kV_l_draw dc_l_draw pm_l_draw cd_l_draw ct_l_draw : Value}
    {od_l_lots an_l_lots : Option Addr} {sl_l_lots : Array (Option Value)} {oc_l_lots kV_l_lots dc_l_lots pm_l_lots cd_l_lots ct_l_lots : Value}
    {od_l_drawn an_l_drawn : Option Addr} {sl_l_drawn : Array (Option Value)} {oc_l_drawn kV_l_drawn dc_l_drawn pm_l_drawn cd_l_drawn ct_l_drawn : Value}
    {od_l_family an_l_family : Option Addr} {sl_l_family : Array (Option Value)} {oc_l_family kV_l_family dc_l_family pm_l_family cd_l_family ct_l_family : Value}
    {od_l_holds an_l_holds : Option Addr} {sl_l_holds : Array (Option Value)} {oc_l_holds kV_l_holds dc_l_holds pm_l_holds cd_l_holds ct_l_holds : Value}
    {od_l_grown an_l_grown : Option Addr} {sl_l_grown : Array (Option Value)} {oc_l_grown kV_l_grown dc_l_grown pm_l_grown cd_l_grown ct_l_grown : Value}
    {od_l_meet an_l_meet : Option Addr} {sl_l_meet : Array (Option Value)} {oc_l_meet kV_l_meet dc_l_meet pm_l_meet cd_l_meet ct_l_meet : Value}
    {od_l_all_meet an_l_all_meet : Option Addr} {sl_l_all_meet : Array (Option Value)} {oc_l_all_meet kV_l_all_meet dc_l_all_meet pm_l_all_meet cd_l_all_meet ct_l_all_meet : Value}
    {od_law an_law : Option Addr} {sl_law : Array (Option Value)} {oc_law kV_law dc_law pm_law cd_law ct_law : Value}
    {nm_BadNumber q_BadNumber : Str} {N_BadNumber : Addr} {bs_BadNumber bm_BadNumber : List Value} {sn_BadNumber : List Str} {sub_BadNumber : List Value} {ab_BadNumber : Bool} {col_BadNumber : Option Bool} {dd_BadNumber : Option Addr} {m0_BadNumber m1_BadNumber m2_BadNumber m3_BadNumber m5_BadNumber : Option Value}
    {nm_BadLot q_BadLot : Str} {N_BadLot : Addr} {bs_BadLot bm_BadLot : List Value} {sn_BadLot : List Str} {sub_BadLot : List Value} {ab_BadLot : Bool} {col_BadLot : Option Bool} {dd_BadLot : Option Addr} {m0_BadLot m1_BadLot m2_BadLot m3_BadLot m5_BadLot : Option Value}
    {gt_MOST_COPIES : Tok}
    (aC_VoteError : PySem.W.nsIn K mainGlobals "VoteError" = some (some (.ref ca_VoteError)))
    (aC_BadNumber : PySem.W.nsIn K mainGlobals "BadNumber" = some (some (.ref ca_BadNumber)))
    (aC_BadLot : PySem.W.nsIn K mainGlobals "BadLot" = some (some (.ref ca_BadLot)))
    (aC_Unlike : PySem.W.nsIn K mainGlobals "Unlike" = some (some (.ref ca_Unlike)))
    (aC_Family : PySem.W.nsIn K mainGlobals "Family" = some (some (.ref ca_Family)))
    (a_BadNumber_init : PySem.W.findIn K (.ref ca_BadNumber) "__init__" = some (some (.ref fa_BadNumber_init)))
    (l_BadNumber_init : K.lookup fa_BadNumber_init = some ⟨oc_BadNumber_init, od_BadNumber_init, .func (PySem.W.fnOf "__init__" "BadNumber.__init__" (defArgs s_BadNumber_init) (defBody s_BadNumber_init) (defScope s_BadNumber_init) .none kV_BadNumber_init dc_BadNumber_init pm_BadNumber_init an_BadNumber_init cd_BadNumber_init ct_BadNumber_init), sl_BadNumber_init⟩)
    (cc_BadNumber_init : PySem.W.codeIn K cd_BadNumber_init "BadNumber.__init__" = true)
    (kk_BadNumber_init : PySem.W.keepIn K (.ref fa_BadNumber_init) = true)
    (a_BadLot_init : PySem.W.findIn K (.ref ca_BadLot) "__init__" = some (some (.ref fa_BadLot_init)))
    (l_BadLot_init : K.lookup fa_BadLot_init = some ⟨oc_BadLot_init, od_BadLot_init, .func (PySem.W.fnOf "__init__" "BadLot.__init__" (defArgs s_BadLot_init) (defBody s_BadLot_init) (defScope s_BadLot_init) .none kV_BadLot_init dc_BadLot_init pm_BadLot_init an_BadLot_init cd_BadLot_init ct_BadLot_init), sl_BadLot_init⟩)
    (cc_BadLot_init : PySem.W.codeIn K cd_BadLot_init "BadLot.__init__" = true)
    (kk_BadLot_init : PySem.W.keepIn K (.ref fa_BadLot_init) = true)
    (a_is_integer : PySem.W.nsIn K mainGlobals "is_integer" = some (some (.ref fa_is_integer)))
    (l_is_integer : K.lookup fa_is_integer = some ⟨oc_is_integer, od_is_integer, .func (PySem.W.fnOf "is_integer" "is_integer" (defArgs s_is_integer) (defBody s_is_integer) (defScope s_is_integer) .none kV_is_integer dc_is_integer pm_is_integer an_is_integer cd_is_integer ct_is_integer), sl_is_integer⟩)
    (cc_is_integer : PySem.W.codeIn K cd_is_integer "is_integer" = true)
    (kk_is_integer : PySem.W.keepIn K (.ref fa_is_integer) = true)
    (a_check_number : PySem.W.nsIn K mainGlobals "check_number" = some (some (.ref fa_check_number)))
    (l_check_number : K.lookup fa_check_number = some ⟨oc_check_number, od_check_number, .func (PySem.W.fnOf "check_number" "check_number" (defArgs s_check_number) (defBody s_check_number) (defScope s_check_number) .none kV_check_number dc_check_number pm_check_number an_check_number cd_check_number ct_check_number), sl_check_number⟩)
    (cc_check_number : PySem.W.codeIn K cd_check_number "check_number" = true)
    (kk_check_number : PySem.W.keepIn K (.ref fa_check_number) = true)
    (a_check_copies : PySem.W.nsIn K mainGlobals "check_copies" = some (some (.ref fa_check_copies)))
    (l_check_copies : K.lookup fa_check_copies = some ⟨oc_check_copies, od_check_copies, .func (PySem.W.fnOf "check_copies" "check_copies" (defArgs s_check_copies) (defBody s_check_copies) (defScope s_check_copies) .none kV_check_copies dc_check_copies pm_check_copies an_check_copies cd_check_copies ct_check_copies), sl_check_copies⟩)
    (cc_check_copies : PySem.W.codeIn K cd_check_copies "check_copies" = true)
    (kk_check_copies : PySem.W.keepIn K (.ref fa_check_copies) = true)
    (a_check_copy : PySem.W.nsIn K mainGlobals "check_copy" = some (some (.ref fa_check_copy)))
    (l_check_copy : K.lookup fa_check_copy = some ⟨oc_check_copy, od_check_copy, .func (PySem.W.fnOf "check_copy" "check_copy" (defArgs s_check_copy) (defBody s_check_copy) (defScope s_check_copy) .none kV_check_copy dc_check_copy pm_check_copy an_check_copy cd_check_copy ct_check_copy), sl_check_copy⟩)
    (cc_check_copy : PySem.W.codeIn K cd_check_copy "check_copy" = true)
    (kk_check_copy : PySem.W.keepIn K (.ref fa_check_copy) = true)
    (a_mask_of : PySem.W.nsIn K mainGlobals "mask_of" = some (some (.ref fa_mask_of)))
    (l_mask_of : K.lookup fa_mask_of = some ⟨oc_mask_of, od_mask_of, .func (PySem.W.fnOf "mask_of" "mask_of" (defArgs s_mask_of) (defBody s_mask_of) (defScope s_mask_of) .none kV_mask_of dc_mask_of pm_mask_of an_mask_of cd_mask_of ct_mask_of), sl_mask_of⟩)
    (cc_mask_of : PySem.W.codeIn K cd_mask_of "mask_of" = true)
    (kk_mask_of : PySem.W.keepIn K (.ref fa_mask_of) = true)
    (a_lot_at : PySem.W.nsIn K mainGlobals "lot_at" = some (some (.ref fa_lot_at)))
    (l_lot_at : K.lookup fa_lot_at = some ⟨oc_lot_at, od_lot_at, .func (PySem.W.fnOf "lot_at" "lot_at" (defArgs s_lot_at) (defBody s_lot_at) (defScope s_lot_at) .none kV_lot_at dc_lot_at pm_lot_at an_lot_at cd_lot_at ct_lot_at), sl_lot_at⟩)
    (cc_lot_at : PySem.W.codeIn K cd_lot_at "lot_at" = true)
    (kk_lot_at : PySem.W.keepIn K (.ref fa_lot_at) = true)
    (a_check_alike : PySem.W.nsIn K mainGlobals "check_alike" = some (some (.ref fa_check_alike)))
    (l_check_alike : K.lookup fa_check_alike = some ⟨oc_check_alike, od_check_alike, .func (PySem.W.fnOf "check_alike" "check_alike" (defArgs s_check_alike) (defBody s_check_alike) (defScope s_check_alike) .none kV_check_alike dc_check_alike pm_check_alike an_check_alike cd_check_alike ct_check_alike), sl_check_alike⟩)
    (cc_check_alike : PySem.W.codeIn K cd_check_alike "check_alike" = true)
    (kk_check_alike : PySem.W.keepIn K (.ref fa_check_alike) = true)
    (a_is_within : PySem.W.nsIn K mainGlobals "is_within" = some (some (.ref fa_is_within)))
    (l_is_within : K.lookup fa_is_within = some ⟨oc_is_within, od_is_within, .func (PySem.W.fnOf "is_within" "is_within" (defArgs s_is_within) (defBody s_is_within) (defScope s_is_within) .none kV_is_within dc_is_within pm_is_within an_is_within cd_is_within ct_is_within), sl_is_within⟩)
    (cc_is_within : PySem.W.codeIn K cd_is_within "is_within" = true)
    (kk_is_within : PySem.W.keepIn K (.ref fa_is_within) = true)
    (a_masks_of : PySem.W.nsIn K mainGlobals "masks_of" = some (some (.ref fa_masks_of)))
    (l_masks_of : K.lookup fa_masks_of = some ⟨oc_masks_of, od_masks_of, .func (PySem.W.fnOf "masks_of" "masks_of" (defArgs s_masks_of) (defBody s_masks_of) (defScope s_masks_of) .none kV_masks_of dc_masks_of pm_masks_of an_masks_of cd_masks_of ct_masks_of), sl_masks_of⟩)
    (cc_masks_of : PySem.W.codeIn K cd_masks_of "masks_of" = true)
    (kk_masks_of : PySem.W.keepIn K (.ref fa_masks_of) = true)
    (a_marks_above : PySem.W.nsIn K mainGlobals "marks_above" = some (some (.ref fa_marks_above)))
    (l_marks_above : K.lookup fa_marks_above = some ⟨oc_marks_above, od_marks_above, .func (PySem.W.fnOf "marks_above" "marks_above" (defArgs s_marks_above) (defBody s_marks_above) (defScope s_marks_above) .none kV_marks_above dc_marks_above pm_marks_above an_marks_above cd_marks_above ct_marks_above), sl_marks_above⟩)
    (cc_marks_above : PySem.W.codeIn K cd_marks_above "marks_above" = true)
    (kk_marks_above : PySem.W.keepIn K (.ref fa_marks_above) = true)
    (a_minimal_lots : PySem.W.nsIn K mainGlobals "minimal_lots" = some (some (.ref fa_minimal_lots)))
    (l_minimal_lots : K.lookup fa_minimal_lots = some ⟨oc_minimal_lots, od_minimal_lots, .func (PySem.W.fnOf "minimal_lots" "minimal_lots" (defArgs s_minimal_lots) (defBody s_minimal_lots) (defScope s_minimal_lots) .none kV_minimal_lots dc_minimal_lots pm_minimal_lots an_minimal_lots cd_minimal_lots ct_minimal_lots), sl_minimal_lots⟩)
    (cc_minimal_lots : PySem.W.codeIn K cd_minimal_lots "minimal_lots" = true)
    (kk_minimal_lots : PySem.W.keepIn K (.ref fa_minimal_lots) = true)
    (a_Family_init : PySem.W.findIn K (.ref ca_Family) "__init__" = some (some (.ref fa_Family_init)))
    (i_Family_init : PySem.W.isFn K (.ref fa_Family_init) = true)
    (l_Family_init : K.lookup fa_Family_init = some ⟨oc_Family_init, od_Family_init, .func (PySem.W.fnOf "__init__" "Family.__init__" (defArgs s_Family_init) (defBody s_Family_init) (defScope s_Family_init) .none kV_Family_init dc_Family_init pm_Family_init an_Family_init cd_Family_init ct_Family_init), sl_Family_init⟩)
    (cc_Family_init : PySem.W.codeIn K cd_Family_init "Family.__init__" = true)
    (kk_Family_init : PySem.W.keepIn K (.ref fa_Family_init) = true)
    (a_marked : PySem.W.nsIn K mainGlobals "marked" = some (some (.ref fa_marked)))
    (l_marked : K.lookup fa_marked = some ⟨oc_marked, od_marked, .func (PySem.W.fnOf "marked" "marked" (defArgs s_marked) (defBody s_marked) (defScope s_marked) .none kV_marked dc_marked pm_marked an_marked cd_marked ct_marked), sl_marked⟩)
    (cc_marked : PySem.W.codeIn K cd_marked "marked" = true)
    (kk_marked : PySem.W.keepIn K (.ref fa_marked) = true)
    (a_Family_eq : PySem.W.findIn K (.ref ca_Family) "__eq__" = some (some (.ref fa_Family_eq)))
    (i_Family_eq : PySem.W.isFn K (.ref fa_Family_eq) = true)
    (l_Family_eq : K.lookup fa_Family_eq = some ⟨oc_Family_eq, od_Family_eq, .func (PySem.W.fnOf "__eq__" "Family.__eq__" (defArgs s_Family_eq) (defBody s_Family_eq) (defScope s_Family_eq) .none kV_Family_eq dc_Family_eq pm_Family_eq an_Family_eq cd_Family_eq ct_Family_eq), sl_Family_eq⟩)
    (cc_Family_eq : PySem.W.codeIn K cd_Family_eq "Family.__eq__" = true)
    (kk_Family_eq : PySem.W.keepIn K (.ref fa_Family_eq) = true)
    (a_Family_le : PySem.W.findIn K (.ref ca_Family) "__le__" = some (some (.ref fa_Family_le)))
    (i_Family_le : PySem.W.isFn K (.ref fa_Family_le) = true)
    (l_Family_le : K.lookup fa_Family_le = some ⟨oc_Family_le, od_Family_le, .func (PySem.W.fnOf "__le__" "Family.__le__" (defArgs s_Family_le) (defBody s_Family_le) (defScope s_Family_le) .none kV_Family_le dc_Family_le pm_Family_le an_Family_le cd_Family_le ct_Family_le), sl_Family_le⟩)
    (cc_Family_le : PySem.W.codeIn K cd_Family_le "Family.__le__" = true)
    (kk_Family_le : PySem.W.keepIn K (.ref fa_Family_le) = true)
    (a_Family_or : PySem.W.findIn K (.ref ca_Family) "__or__" = some (some (.ref fa_Family_or)))
    (i_Family_or : PySem.W.isFn K (.ref fa_Family_or) = true)
    (l_Family_or : K.lookup fa_Family_or = some ⟨oc_Family_or, od_Family_or, .func (PySem.W.fnOf "__or__" "Family.__or__" (defArgs s_Family_or) (defBody s_Family_or) (defScope s_Family_or) .none kV_Family_or dc_Family_or pm_Family_or an_Family_or cd_Family_or ct_Family_or), sl_Family_or⟩)
    (cc_Family_or : PySem.W.codeIn K cd_Family_or "Family.__or__" = true)
    (kk_Family_or : PySem.W.keepIn K (.ref fa_Family_or) = true)
    (a_Family_and : PySem.W.findIn K (.ref ca_Family) "__and__" = some (some (.ref fa_Family_and)))
    (i_Family_and : PySem.W.isFn K (.ref fa_Family_and) = true)
    (l_Family_and : K.lookup fa_Family_and = some ⟨oc_Family_and, od_Family_and, .func (PySem.W.fnOf "__and__" "Family.__and__" (defArgs s_Family_and) (defBody s_Family_and) (defScope s_Family_and) .none kV_Family_and dc_Family_and pm_Family_and an_Family_and cd_Family_and ct_Family_and), sl_Family_and⟩)
    (cc_Family_and : PySem.W.codeIn K cd_Family_and "Family.__and__" = true)
    (kk_Family_and : PySem.W.keepIn K (.ref fa_Family_and) = true)
    (a_mask_in : PySem.W.nsIn K mainGlobals "mask_in" = some (some (.ref fa_mask_in)))
    (l_mask_in : K.lookup fa_mask_in = some ⟨oc_mask_in, od_mask_in, .func (PySem.W.fnOf "mask_in" "mask_in" (defArgs s_mask_in) (defBody s_mask_in) (defScope s_mask_in) .none kV_mask_in dc_mask_in pm_mask_in an_mask_in cd_mask_in ct_mask_in), sl_mask_in⟩)
    (cc_mask_in : PySem.W.codeIn K cd_mask_in "mask_in" = true)
    (kk_mask_in : PySem.W.keepIn K (.ref fa_mask_in) = true)
    (a_Family_contains : PySem.W.findIn K (.ref ca_Family) "__contains__" = some (some (.ref fa_Family_contains)))
    (i_Family_contains : PySem.W.isFn K (.ref fa_Family_contains) = true)
    (l_Family_contains : K.lookup fa_Family_contains = some ⟨oc_Family_contains, od_Family_contains, .func (PySem.W.fnOf "__contains__" "Family.__contains__" (defArgs s_Family_contains) (defBody s_Family_contains) (defScope s_Family_contains) .none kV_Family_contains dc_Family_contains pm_Family_contains an_Family_contains cd_Family_contains ct_Family_contains), sl_Family_contains⟩)
    (cc_Family_contains : PySem.W.codeIn K cd_Family_contains "Family.__contains__" = true)
    (kk_Family_contains : PySem.W.keepIn K (.ref fa_Family_contains) = true)
    (a_Family_meets : PySem.W.findIn K (.ref ca_Family) "meets" = some (some (.ref fa_Family_meets)))
    (i_Family_meets : PySem.W.isFn K (.ref fa_Family_meets) = true)
    (l_Family_meets : K.lookup fa_Family_meets = some ⟨oc_Family_meets, od_Family_meets, .func (PySem.W.fnOf "meets" "Family.meets" (defArgs s_Family_meets) (defBody s_Family_meets) (defScope s_Family_meets) .none kV_Family_meets dc_Family_meets pm_Family_meets an_Family_meets cd_Family_meets ct_Family_meets), sl_Family_meets⟩)
    (cc_Family_meets : PySem.W.codeIn K cd_Family_meets "Family.meets" = true)
    (kk_Family_meets : PySem.W.keepIn K (.ref fa_Family_meets) = true)
    (a_Family_is_strict : PySem.W.findIn K (.ref ca_Family) "is_strict" = some (some (.ref fa_Family_is_strict)))
    (i_Family_is_strict : PySem.W.isFn K (.ref fa_Family_is_strict) = true)
    (l_Family_is_strict : K.lookup fa_Family_is_strict = some ⟨oc_Family_is_strict, od_Family_is_strict, .func (PySem.W.fnOf "is_strict" "Family.is_strict" (defArgs s_Family_is_strict) (defBody s_Family_is_strict) (defScope s_Family_is_strict) .none kV_Family_is_strict dc_Family_is_strict pm_Family_is_strict an_Family_is_strict cd_Family_is_strict ct_Family_is_strict), sl_Family_is_strict⟩)
    (cc_Family_is_strict : PySem.W.codeIn K cd_Family_is_strict "Family.is_strict" = true)
    (kk_Family_is_strict : PySem.W.keepIn K (.ref fa_Family_is_strict) = true)
    (a_Family_dual : PySem.W.findIn K (.ref ca_Family) "dual" = some (some (.ref fa_Family_dual)))
    (i_Family_dual : PySem.W.isFn K (.ref fa_Family_dual) = true)
    (l_Family_dual : K.lookup fa_Family_dual = some ⟨oc_Family_dual, od_Family_dual, .func (PySem.W.fnOf "dual" "Family.dual" (defArgs s_Family_dual) (defBody s_Family_dual) (defScope s_Family_dual) .none kV_Family_dual dc_Family_dual pm_Family_dual an_Family_dual cd_Family_dual ct_Family_dual), sl_Family_dual⟩)
    (cc_Family_dual : PySem.W.codeIn K cd_Family_dual "Family.dual" = true)
    (kk_Family_dual : PySem.W.keepIn K (.ref fa_Family_dual) = true)
    (a_l_start : PySem.W.nsIn K mainGlobals "_law_start" = some (some (.ref fa_l_start)))
    (l_l_start : K.lookup fa_l_start = some ⟨oc_l_start, od_l_start, .func (PySem.W.fnOf "_law_start" "_law_start" (defArgs s_l_start) (defBody s_l_start) (defScope s_l_start) .none kV_l_start dc_l_start pm_l_start an_l_start cd_l_start ct_l_start), sl_l_start⟩)
    (cc_l_start : PySem.W.codeIn K cd_l_start "_law_start" = true)
    (kk_l_start : PySem.W.keepIn K (.ref fa_l_start) = true)
    (a_l_draw : PySem.W.nsIn K mainGlobals "_law_draw" = some (some (.ref fa_l_draw)))
    (l_l_draw : K.lookup fa_l_draw = some ⟨oc_l_draw, od_l_draw, .func (PySem.W.fnOf "_law_draw" "_law_draw" (defArgs s_l_draw) (defBody s_l_draw) (defScope s_l_draw) .none kV_l_draw dc_l_draw pm_l_draw an_l_draw cd_l_draw ct_l_draw), sl_l_draw⟩)
    (cc_l_draw : PySem.W.codeIn K cd_l_draw "_law_draw" = true)
    (kk_l_draw : PySem.W.keepIn K (.ref fa_l_draw) = true)
    (a_l_lots : PySem.W.nsIn K mainGlobals "_law_lots" = some (some (.ref fa_l_lots)))
    (l_l_lots : K.lookup fa_l_lots = some ⟨oc_l_lots, od_l_lots, .func (PySem.W.fnOf "_law_lots" "_law_lots" (defArgs s_l_lots) (defBody s_l_lots) (defScope s_l_lots) .none kV_l_lots dc_l_lots pm_l_lots an_l_lots cd_l_lots ct_l_lots), sl_l_lots⟩)
    (cc_l_lots : PySem.W.codeIn K cd_l_lots "_law_lots" = true)
    (kk_l_lots : PySem.W.keepIn K (.ref fa_l_lots) = true)
    (a_l_drawn : PySem.W.nsIn K mainGlobals "_law_drawn" = some (some (.ref fa_l_drawn)))
    (l_l_drawn : K.lookup fa_l_drawn = some ⟨oc_l_drawn, od_l_drawn, .func (PySem.W.fnOf "_law_drawn" "_law_drawn" (defArgs s_l_drawn) (defBody s_l_drawn) (defScope s_l_drawn) .none kV_l_drawn dc_l_drawn pm_l_drawn an_l_drawn cd_l_drawn ct_l_drawn), sl_l_drawn⟩)
    (cc_l_drawn : PySem.W.codeIn K cd_l_drawn "_law_drawn" = true)
    (kk_l_drawn : PySem.W.keepIn K (.ref fa_l_drawn) = true)
    (a_l_family : PySem.W.nsIn K mainGlobals "_law_family" = some (some (.ref fa_l_family)))
    (l_l_family : K.lookup fa_l_family = some ⟨oc_l_family, od_l_family, .func (PySem.W.fnOf "_law_family" "_law_family" (defArgs s_l_family) (defBody s_l_family) (defScope s_l_family) .none kV_l_family dc_l_family pm_l_family an_l_family cd_l_family ct_l_family), sl_l_family⟩)
    (cc_l_family : PySem.W.codeIn K cd_l_family "_law_family" = true)
    (kk_l_family : PySem.W.keepIn K (.ref fa_l_family) = true)
    (a_l_holds : PySem.W.nsIn K mainGlobals "_law_holds" = some (some (.ref fa_l_holds)))
    (l_l_holds : K.lookup fa_l_holds = some ⟨oc_l_holds, od_l_holds, .func (PySem.W.fnOf "_law_holds" "_law_holds" (defArgs s_l_holds) (defBody s_l_holds) (defScope s_l_holds) .none kV_l_holds dc_l_holds pm_l_holds an_l_holds cd_l_holds ct_l_holds), sl_l_holds⟩)
    (cc_l_holds : PySem.W.codeIn K cd_l_holds "_law_holds" = true)
    (kk_l_holds : PySem.W.keepIn K (.ref fa_l_holds) = true)
    (a_l_grown : PySem.W.nsIn K mainGlobals "_law_grown" = some (some (.ref fa_l_grown)))
    (l_l_grown : K.lookup fa_l_grown = some ⟨oc_l_grown, od_l_grown, .func (PySem.W.fnOf "_law_grown" "_law_grown" (defArgs s_l_grown) (defBody s_l_grown) (defScope s_l_grown) .none kV_l_grown dc_l_grown pm_l_grown an_l_grown cd_l_grown ct_l_grown), sl_l_grown⟩)
    (cc_l_grown : PySem.W.codeIn K cd_l_grown "_law_grown" = true)
    (kk_l_grown : PySem.W.keepIn K (.ref fa_l_grown) = true)
    (a_l_meet : PySem.W.nsIn K mainGlobals "_law_meet" = some (some (.ref fa_l_meet)))
    (l_l_meet : K.lookup fa_l_meet = some ⟨oc_l_meet, od_l_meet, .func (PySem.W.fnOf "_law_meet" "_law_meet" (defArgs s_l_meet) (defBody s_l_meet) (defScope s_l_meet) .none kV_l_meet dc_l_meet pm_l_meet an_l_meet cd_l_meet ct_l_meet), sl_l_meet⟩)
    (cc_l_meet : PySem.W.codeIn K cd_l_meet "_law_meet" = true)
    (kk_l_meet : PySem.W.keepIn K (.ref fa_l_meet) = true)
    (a_l_all_meet : PySem.W.nsIn K mainGlobals "_law_all_meet" = some (some (.ref fa_l_all_meet)))
    (l_l_all_meet : K.lookup fa_l_all_meet = some ⟨oc_l_all_meet, od_l_all_meet, .func (PySem.W.fnOf "_law_all_meet" "_law_all_meet" (defArgs s_l_all_meet) (defBody s_l_all_meet) (defScope s_l_all_meet) .none kV_l_all_meet dc_l_all_meet pm_l_all_meet an_l_all_meet cd_l_all_meet ct_l_all_meet), sl_l_all_meet⟩)
    (cc_l_all_meet : PySem.W.codeIn K cd_l_all_meet "_law_all_meet" = true)
    (kk_l_all_meet : PySem.W.keepIn K (.ref fa_l_all_meet) = true)
    (a_law : PySem.W.nsIn K mainGlobals "law" = some (some (.ref fa_law)))
    (l_law : K.lookup fa_law = some ⟨oc_law, od_law, .func (PySem.W.fnOf "law" "law" (defArgs s_law) (defBody s_law) (defScope s_law) .none kV_law dc_law pm_law an_law cd_law ct_law), sl_law⟩)
    (cc_law : PySem.W.codeIn K cd_law "law" = true)
    (kk_law : PySem.W.keepIn K (.ref fa_law) = true)
    (xL_BadNumber : K.lookup ca_BadNumber = some (excClassObj nm_BadNumber q_BadNumber ca_BadNumber N_BadNumber bs_BadNumber bm_BadNumber true sn_BadNumber sub_BadNumber ab_BadNumber col_BadNumber dd_BadNumber m0_BadNumber m1_BadNumber m2_BadNumber m3_BadNumber m5_BadNumber "ValueError.__new__"))
    (bm_ok_BadNumber : PySem.HandSPX.refsVE bm_BadNumber = true)
    (sa_BadNumber : PySem.W.findIn K (.ref ca_BadNumber) "__setattr__" = some (some (.builtin "object.__setattr__")))
    (eC_BadNumber : PySem.W.subIn K (.ref ca_BadNumber) (.type "BaseException") = some true)
    (tC_BadNumber : PySem.W.typeIn K (.ref ca_BadNumber) = some (.type "type"))
    (kC_BadNumber : PySem.W.keepIn K (.ref ca_BadNumber) = true)
    (tI_BadNumber : PySem.W.typeIn K (.ref fa_BadNumber_init) = some (.type "function"))
    (ga_BadNumber : PySem.W.findIn K (.ref ca_BadNumber) "__getattribute__" = some (some (.builtin "BaseException.__getattribute__")))
    (gg_BadNumber : PySem.W.findIn K (.ref ca_BadNumber) "__getattr__" = some none)
    (hd_BadNumber : PySem.W.hasDictIn K ca_BadNumber = true)
    (ic_BadNumber : PySem.W.isClsIn K ca_BadNumber = true)
    (cc_BadNumber : PySem.W.findIn K (.ref ca_BadNumber) "__class__" = some (some (.builtin "object.__class__")))
    (cm_BadNumber : PySem.W.mroIn K ca_BadNumber (.type "object") = some true)
    (n_BadNumber_what : PySem.W.findIn K (.ref ca_BadNumber) "what" = some none)
    (n_BadNumber_value : PySem.W.findIn K (.ref ca_BadNumber) "value" = some none)
    (xL_BadLot : K.lookup ca_BadLot = some (excClassObj nm_BadLot q_BadLot ca_BadLot N_BadLot bs_BadLot bm_BadLot true sn_BadLot sub_BadLot ab_BadLot col_BadLot dd_BadLot m0_BadLot m1_BadLot m2_BadLot m3_BadLot m5_BadLot "ValueError.__new__"))
    (bm_ok_BadLot : PySem.HandSPX.refsVE bm_BadLot = true)
    (sa_BadLot : PySem.W.findIn K (.ref ca_BadLot) "__setattr__" = some (some (.builtin "object.__setattr__")))
    (eC_BadLot : PySem.W.subIn K (.ref ca_BadLot) (.type "BaseException") = some true)
    (tC_BadLot : PySem.W.typeIn K (.ref ca_BadLot) = some (.type "type"))
    (kC_BadLot : PySem.W.keepIn K (.ref ca_BadLot) = true)
    (tI_BadLot : PySem.W.typeIn K (.ref fa_BadLot_init) = some (.type "function"))
    (ga_BadLot : PySem.W.findIn K (.ref ca_BadLot) "__getattribute__" = some (some (.builtin "BaseException.__getattribute__")))
    (gg_BadLot : PySem.W.findIn K (.ref ca_BadLot) "__getattr__" = some none)
    (hd_BadLot : PySem.W.hasDictIn K ca_BadLot = true)
    (ic_BadLot : PySem.W.isClsIn K ca_BadLot = true)
    (cc_BadLot : PySem.W.findIn K (.ref ca_BadLot) "__class__" = some (some (.builtin "object.__class__")))
    (cm_BadLot : PySem.W.mroIn K ca_BadLot (.type "object") = some true)
    (n_BadLot_place : PySem.W.findIn K (.ref ca_BadLot) "place" = some none)
    (q0_Unlike : PySem.W.excIn K ca_Unlike VEb "ValueError.__new__" = true)
    (kC_Unlike : PySem.W.keepIn K (.ref ca_Unlike) = true)
    (eC_Unlike : PySem.W.subIn K (.ref ca_Unlike) (.type "BaseException") = some true)
    (tC_Unlike : PySem.W.typeIn K (.ref ca_Unlike) = some (.type "type"))
    (ga_Unlike : PySem.W.findIn K (.ref ca_Unlike) "__getattribute__" = some (some (.builtin "BaseException.__getattribute__")))
    (gg_Unlike : PySem.W.findIn K (.ref ca_Unlike) "__getattr__" = some none)
    (ic_Unlike : PySem.W.isClsIn K ca_Unlike = true)
    (cc_Unlike : PySem.W.findIn K (.ref ca_Unlike) "__class__" = some (some (.builtin "object.__class__")))
    (cm_Unlike : PySem.W.mroIn K ca_Unlike (.type "object") = some true)
    (cn_ : PySem.W.specialIn K (.builtin "object.__class__") "__get__" = some (some (.builtin "getset_descriptor.__get__")))
    (ct_ : PySem.W.takesIn K (.builtin "object.__class__") = some true)
    (pg_Family : PySem.W.plainGet K ca_Family Str.empty = true)
    (hd_Family : PySem.W.hasDictIn K ca_Family = true)
    (po_Family : PySem.W.plainOver K ca_Family = true)
    (sa_Family : PySem.W.findIn K (.ref ca_Family) "__setattr__" = some (some (.builtin "object.__setattr__")))
    (mk_Family : PySem.W.makesIn K ca_Family = true)
    (kc_Family : PySem.W.keepIn K (.ref ca_Family) = true)
    (oh_Family_or : PySem.W.findIn K (.ref ca_Family) (PySem.dunder "or") = some (some (.ref fa_Family_or)))
    (oh_Family_and : PySem.W.findIn K (.ref ca_Family) (PySem.dunder "and") = some (some (.ref fa_Family_and)))
    (sf_Family : PySem.W.selfFirst K ca_Family = true)
    (ni_Family : PySem.W.subIn K (.ref ca_Family) (.type "int") = some false)
    (in_Family : PySem.W.subIn K (.type "int") (.ref ca_Family) = some false)
    (ne_Family : PySem.W.findIn K (.ref ca_Family) "__ne__" = some (some (.builtin "object.__ne__")))
    (cc_Family : PySem.W.findIn K (.ref ca_Family) "__class__" = some (some (.builtin "object.__class__")))
    (cm_Family : PySem.W.mroIn K ca_Family (.type "object") = some true)
    (n_Family_copies : PySem.W.findIn K (.ref ca_Family) "copies" = some none)
    (n_Family_lots : PySem.W.findIn K (.ref ca_Family) "lots" = some none)
    (n_Family_marks : PySem.W.findIn K (.ref ca_Family) "marks" = some none)
    (ki_Family_Family : PySem.W.kitOne K (.ref ca_Family) (.ref ca_Family) = some true)
    (sb_BadNumber_BadNumber : PySem.W.subIn K (.ref ca_BadNumber) (.ref ca_BadNumber) = some true)
    (gk_MOST_COPIES : PySem.W.nsIn K mainGlobals "MOST_COPIES" = some (some (.int 8 gt_MOST_COPIES)))
    (mb_abs : PySem.W.nsIn K mainGlobals "abs" = some none)
    (mb_all : PySem.W.nsIn K mainGlobals "all" = some none)
    (mb_any : PySem.W.nsIn K mainGlobals "any" = some none)
    (mb_bool : PySem.W.nsIn K mainGlobals "bool" = some none)
    (mb_enumerate : PySem.W.nsIn K mainGlobals "enumerate" = some none)
    (mb_int : PySem.W.nsIn K mainGlobals "int" = some none)
    (mb_isinstance : PySem.W.nsIn K mainGlobals "isinstance" = some none)
    (mb_len : PySem.W.nsIn K mainGlobals "len" = some none)
    (mb_list : PySem.W.nsIn K mainGlobals "list" = some none)
    (mb_range : PySem.W.nsIn K mainGlobals "range" = some none)
    (mb_tuple : PySem.W.nsIn K mainGlobals "tuple" = some none)
    (mb_zip : PySem.W.nsIn K mainGlobals "zip" = some none) :
    ∃ fd : FuncData, (∀ (s : Shared) (v : Value), BindsTo s fd ⟨[v], []⟩ [("_law_script", v)]) ∧ ∀ base : Heap, K.In base → base.Ns mainGlobals mg → FnOk l.prog w K mg base CX0 12 fa fd ["_law_script"] (spLaw K) := by
  have e := hfa.symm.trans (PySem.W.mg_of X G a_law)
  cases e
  have FF_BadNumber_init := fun_mk (st := s_BadNumber_init) l_BadNumber_init cc_BadNumber_init kk_BadNumber_init
  have bb_BadNumber_init := FF_BadNumber_init.binds (ps := ["self", "what", "value"]) fun _ _ _ _ _ _ us hl => match us, hl with | [_, _, _], _ => rfl
  have FF_BadLot_init := fun_mk (st := s_BadLot_init) l_BadLot_init cc_BadLot_init kk_BadLot_init
  have bb_BadLot_init := FF_BadLot_init.binds (ps := ["self", "place"]) fun _ _ _ _ _ _ us hl => match us, hl with | [_, _], _ => rfl
  have FF_is_integer := fun_mk (st := s_is_integer) l_is_integer cc_is_integer kk_is_integer
  have bb_is_integer := FF_is_integer.binds (ps := ["value"]) fun _ _ _ _ _ _ us hl => match us, hl with | [_], _ => rfl
  have FF_check_number := fun_mk (st := s_check_number) l_check_number cc_check_number kk_check_number
  have bb_check_number := FF_check_number.binds (ps := ["what", "value", "low", "high"]) fun _ _ _ _ _ _ us hl => match us, hl with | [_, _, _, _], _ => rfl
  have FF_check_copies := fun_mk (st := s_check_copies) l_check_copies cc_check_copies kk_check_copies
  have bb_check_copies := FF_check_copies.binds (ps := ["copies"]) fun _ _ _ _ _ _ us hl => match us, hl with | [_], _ => rfl
  have FF_check_copy := fun_mk (st := s_check_copy) l_check_copy cc_check_copy kk_check_copy
  have bb_check_copy := FF_check_copy.binds (ps := ["copies", "copy"]) fun _ _ _ _ _ _ us hl => match us, hl with | [_, _], _ => rfl
  have FF_mask_of := fun_mk (st := s_mask_of) l_mask_of cc_mask_of kk_mask_of
  have bb_mask_of := FF_mask_of.binds (ps := ["copies", "numbers"]) fun _ _ _ _ _ _ us hl => match us, hl with | [_, _], _ => rfl
  have FF_lot_at := fun_mk (st := s_lot_at) l_lot_at cc_lot_at kk_lot_at
  have bb_lot_at := FF_lot_at.binds (ps := ["mask"]) fun _ _ _ _ _ _ us hl => match us, hl with | [_], _ => rfl
  have FF_check_alike := fun_mk (st := s_check_alike) l_check_alike cc_check_alike kk_check_alike
  have bb_check_alike := FF_check_alike.binds (ps := ["copies", "other"]) fun _ _ _ _ _ _ us hl => match us, hl with | [_, _], _ => rfl
  have FF_is_within := fun_mk (st := s_is_within) l_is_within cc_is_within kk_is_within
  have bb_is_within := FF_is_within.binds (ps := ["marks", "more"]) fun _ _ _ _ _ _ us hl => match us, hl with | [_, _], _ => rfl
  have FF_masks_of := fun_mk (st := s_masks_of) l_masks_of cc_masks_of kk_masks_of
  have bb_masks_of := FF_masks_of.binds (ps := ["copies", "lots"]) fun _ _ _ _ _ _ us hl => match us, hl with | [_, _], _ => rfl
  have FF_marks_above := fun_mk (st := s_marks_above) l_marks_above cc_marks_above kk_marks_above
  have bb_marks_above := FF_marks_above.binds (ps := ["copies", "masks"]) fun _ _ _ _ _ _ us hl => match us, hl with | [_, _], _ => rfl
  have FF_minimal_lots := fun_mk (st := s_minimal_lots) l_minimal_lots cc_minimal_lots kk_minimal_lots
  have bb_minimal_lots := FF_minimal_lots.binds (ps := ["copies", "marks"]) fun _ _ _ _ _ _ us hl => match us, hl with | [_, _], _ => rfl
  have FF_Family_init := fun_mk (st := s_Family_init) l_Family_init cc_Family_init kk_Family_init
  have FF_marked := fun_mk (st := s_marked) l_marked cc_marked kk_marked
  have bb_marked := FF_marked.binds (ps := ["copies", "marks"]) fun _ _ _ _ _ _ us hl => match us, hl with | [_, _], _ => rfl
  have FF_Family_eq := fun_mk (st := s_Family_eq) l_Family_eq cc_Family_eq kk_Family_eq
  have bb_Family_eq := FF_Family_eq.binds (ps := ["self", "other"]) fun _ _ _ _ _ _ us hl => match us, hl with | [_, _], _ => rfl
  have FF_Family_le := fun_mk (st := s_Family_le) l_Family_le cc_Family_le kk_Family_le
  have bb_Family_le := FF_Family_le.binds (ps := ["self", "other"]) fun _ _ _ _ _ _ us hl => match us, hl with | [_, _], _ => rfl
  have FF_Family_or := fun_mk (st := s_Family_or) l_Family_or cc_Family_or kk_Family_or
  have bb_Family_or := FF_Family_or.binds (ps := ["self", "other"]) fun _ _ _ _ _ _ us hl => match us, hl with | [_, _], _ => rfl
  have FF_Family_and := fun_mk (st := s_Family_and) l_Family_and cc_Family_and kk_Family_and
  have bb_Family_and := FF_Family_and.binds (ps := ["self", "other"]) fun _ _ _ _ _ _ us hl => match us, hl with | [_, _], _ => rfl
  have FF_mask_in := fun_mk (st := s_mask_in) l_mask_in cc_mask_in kk_mask_in
  have bb_mask_in := FF_mask_in.binds (ps := ["copies", "value"]) fun _ _ _ _ _ _ us hl => match us, hl with | [_, _], _ => rfl
  have FF_Family_contains := fun_mk (st := s_Family_contains) l_Family_contains cc_Family_contains kk_Family_contains
  have bb_Family_contains := FF_Family_contains.binds (ps := ["self", "lot"]) fun _ _ _ _ _ _ us hl => match us, hl with | [_, _], _ => rfl
  have FF_Family_meets := fun_mk (st := s_Family_meets) l_Family_meets cc_Family_meets kk_Family_meets
  have bb_Family_meets := FF_Family_meets.binds (ps := ["self", "other"]) fun _ _ _ _ _ _ us hl => match us, hl with | [_, _], _ => rfl
  have FF_Family_is_strict := fun_mk (st := s_Family_is_strict) l_Family_is_strict cc_Family_is_strict kk_Family_is_strict
  have bb_Family_is_strict := FF_Family_is_strict.binds (ps := ["self"]) fun _ _ _ _ _ _ us hl => match us, hl with | [_], _ => rfl
  have FF_Family_dual := fun_mk (st := s_Family_dual) l_Family_dual cc_Family_dual kk_Family_dual
  have bb_Family_dual := FF_Family_dual.binds (ps := ["self"]) fun _ _ _ _ _ _ us hl => match us, hl with | [_], _ => rfl
  have FF_l_start := fun_mk (st := s_l_start) l_l_start cc_l_start kk_l_start
  have bb_l_start := FF_l_start.binds (ps := ["_law_script"]) fun _ _ _ _ _ _ us hl => match us, hl with | [_], _ => rfl
  have FF_l_draw := fun_mk (st := s_l_draw) l_l_draw cc_l_draw kk_l_draw
  have bb_l_draw := FF_l_draw.binds (ps := ["_law_script", "_law_state", "_law_limit"]) fun _ _ _ _ _ _ us hl => match us, hl with | [_, _, _], _ => rfl
  have FF_l_lots := fun_mk (st := s_l_lots) l_l_lots cc_l_lots kk_l_lots
  have bb_l_lots := FF_l_lots.binds (ps := ["_law_copies"]) fun _ _ _ _ _ _ us hl => match us, hl with | [_], _ => rfl
  have FF_l_drawn := fun_mk (st := s_l_drawn) l_l_drawn cc_l_drawn kk_l_drawn
  have bb_l_drawn := FF_l_drawn.binds (ps := ["_law_script", "_law_state", "_law_copies"]) fun _ _ _ _ _ _ us hl => match us, hl with | [_, _, _], _ => rfl
  have FF_l_family := fun_mk (st := s_l_family) l_l_family cc_l_family kk_l_family
  have bb_l_family := FF_l_family.binds (ps := ["_law_copies", "_law_chosen"]) fun _ _ _ _ _ _ us hl => match us, hl with | [_, _], _ => rfl
  have FF_l_holds := fun_mk (st := s_l_holds) l_l_holds cc_l_holds kk_l_holds
  have bb_l_holds := FF_l_holds.binds (ps := ["_law_lot", "_law_part"]) fun _ _ _ _ _ _ us hl => match us, hl with | [_, _], _ => rfl
  have FF_l_grown := fun_mk (st := s_l_grown) l_l_grown cc_l_grown kk_l_grown
  have bb_l_grown := FF_l_grown.binds (ps := ["_law_copies", "_law_chosen"]) fun _ _ _ _ _ _ us hl => match us, hl with | [_, _], _ => rfl
  have FF_l_meet := fun_mk (st := s_l_meet) l_l_meet cc_l_meet kk_l_meet
  have bb_l_meet := FF_l_meet.binds (ps := ["_law_first", "_law_second"]) fun _ _ _ _ _ _ us hl => match us, hl with | [_, _], _ => rfl
  have FF_l_all_meet := fun_mk (st := s_l_all_meet) l_l_all_meet cc_l_all_meet kk_l_all_meet
  have bb_l_all_meet := FF_l_all_meet.binds (ps := ["_law_first", "_law_second"]) fun _ _ _ _ _ _ us hl => match us, hl with | [_, _], _ => rfl
  have FF_law := fun_mk (st := s_law) l_law cc_law kk_law
  have bb_law := FF_law.binds (ps := ["_law_script"]) fun _ _ _ _ _ _ us hl => match us, hl with | [_], _ => rfl
  exact ⟨PySem.W.fnOf "law" "law" (defArgs s_law) (defBody s_law) (defScope s_law) .none kV_law dc_law pm_law an_law cd_law ct_law, fun s v => .of_eq rfl, fun base _ _ => ok_law (T := {
    c_VoteError := ca_VoteError,
    gc_VoteError := PySem.W.mg_of X G aC_VoteError,
    c_BadNumber := ca_BadNumber,
    gc_BadNumber := PySem.W.mg_of X G aC_BadNumber,
    c_BadLot := ca_BadLot,
    gc_BadLot := PySem.W.mg_of X G aC_BadLot,
    c_Unlike := ca_Unlike,
    gc_Unlike := PySem.W.mg_of X G aC_Unlike,
    c_Family := ca_Family,
    gc_Family := PySem.W.mg_of X G aC_Family,
    f_BadNumber_init := fa_BadNumber_init,
    fd_BadNumber_init := _,
    F_BadNumber_init := FF_BadNumber_init,
    b_BadNumber_init := bb_BadNumber_init,
    f_BadLot_init := fa_BadLot_init,
    fd_BadLot_init := _,
    F_BadLot_init := FF_BadLot_init,
    b_BadLot_init := bb_BadLot_init,
    f_is_integer := fa_is_integer,
    fd_is_integer := _,
    F_is_integer := FF_is_integer,
    b_is_integer := bb_is_integer,
    g_is_integer := PySem.W.mg_of X G a_is_integer,
    f_check_number := fa_check_number,
    fd_check_number := _,
    F_check_number := FF_check_number,
    b_check_number := bb_check_number,
    g_check_number := PySem.W.mg_of X G a_check_number,
    f_check_copies := fa_check_copies,
    fd_check_copies := _,
    F_check_copies := FF_check_copies,
    b_check_copies := bb_check_copies,
    g_check_copies := PySem.W.mg_of X G a_check_copies,
    f_check_copy := fa_check_copy,
    fd_check_copy := _,
    F_check_copy := FF_check_copy,
    b_check_copy := bb_check_copy,
    g_check_copy := PySem.W.mg_of X G a_check_copy,
    f_mask_of := fa_mask_of,
    fd_mask_of := _,
    F_mask_of := FF_mask_of,
    b_mask_of := bb_mask_of,
    g_mask_of := PySem.W.mg_of X G a_mask_of,
    f_lot_at := fa_lot_at,
    fd_lot_at := _,
    F_lot_at := FF_lot_at,
    b_lot_at := bb_lot_at,
    g_lot_at := PySem.W.mg_of X G a_lot_at,
    f_check_alike := fa_check_alike,
    fd_check_alike := _,
    F_check_alike := FF_check_alike,
    b_check_alike := bb_check_alike,
    g_check_alike := PySem.W.mg_of X G a_check_alike,
    f_is_within := fa_is_within,
    fd_is_within := _,
    F_is_within := FF_is_within,
    b_is_within := bb_is_within,
    g_is_within := PySem.W.mg_of X G a_is_within,
    f_masks_of := fa_masks_of,
    fd_masks_of := _,
    F_masks_of := FF_masks_of,
    b_masks_of := bb_masks_of,
    g_masks_of := PySem.W.mg_of X G a_masks_of,
    f_marks_above := fa_marks_above,
    fd_marks_above := _,
    F_marks_above := FF_marks_above,
    b_marks_above := bb_marks_above,
    g_marks_above := PySem.W.mg_of X G a_marks_above,
    f_minimal_lots := fa_minimal_lots,
    fd_minimal_lots := _,
    F_minimal_lots := FF_minimal_lots,
    b_minimal_lots := bb_minimal_lots,
    g_minimal_lots := PySem.W.mg_of X G a_minimal_lots,
    f_Family_init := fa_Family_init,
    fd_Family_init := _,
    F_Family_init := FF_Family_init,
    f_marked := fa_marked,
    fd_marked := _,
    F_marked := FF_marked,
    b_marked := bb_marked,
    g_marked := PySem.W.mg_of X G a_marked,
    f_Family_eq := fa_Family_eq,
    fd_Family_eq := _,
    F_Family_eq := FF_Family_eq,
    b_Family_eq := bb_Family_eq,
    me_Family_eq := ⟨a_Family_eq, i_Family_eq, kk_Family_eq⟩,
    f_Family_le := fa_Family_le,
    fd_Family_le := _,
    F_Family_le := FF_Family_le,
    b_Family_le := bb_Family_le,
    me_Family_le := ⟨a_Family_le, i_Family_le, kk_Family_le⟩,
    f_Family_or := fa_Family_or,
    fd_Family_or := _,
    F_Family_or := FF_Family_or,
    b_Family_or := bb_Family_or,
    me_Family_or := ⟨a_Family_or, i_Family_or, kk_Family_or⟩,
    f_Family_and := fa_Family_and,
    fd_Family_and := _,
    F_Family_and := FF_Family_and,
    b_Family_and := bb_Family_and,
    me_Family_and := ⟨a_Family_and, i_Family_and, kk_Family_and⟩,
    f_mask_in := fa_mask_in,
    fd_mask_in := _,
    F_mask_in := FF_mask_in,
    b_mask_in := bb_mask_in,
    g_mask_in := PySem.W.mg_of X G a_mask_in,
    f_Family_contains := fa_Family_contains,
    fd_Family_contains := _,
    F_Family_contains := FF_Family_contains,
    b_Family_contains := bb_Family_contains,
    me_Family_contains := ⟨a_Family_contains, i_Family_contains, kk_Family_contains⟩,
    f_Family_meets := fa_Family_meets,
    fd_Family_meets := _,
    F_Family_meets := FF_Family_meets,
    b_Family_meets := bb_Family_meets,
    me_Family_meets := ⟨a_Family_meets, i_Family_meets, kk_Family_meets⟩,
    f_Family_is_strict := fa_Family_is_strict,
    fd_Family_is_strict := _,
    F_Family_is_strict := FF_Family_is_strict,
    b_Family_is_strict := bb_Family_is_strict,
    me_Family_is_strict := ⟨a_Family_is_strict, i_Family_is_strict, kk_Family_is_strict⟩,
    f_Family_dual := fa_Family_dual,
    fd_Family_dual := _,
    F_Family_dual := FF_Family_dual,
    b_Family_dual := bb_Family_dual,
    me_Family_dual := ⟨a_Family_dual, i_Family_dual, kk_Family_dual⟩,
    f_l_start := fa_l_start,
    fd_l_start := _,
    F_l_start := FF_l_start,
    b_l_start := bb_l_start,
    g_l_start := PySem.W.mg_of X G a_l_start,
    f_l_draw := fa_l_draw,
    fd_l_draw := _,
    F_l_draw := FF_l_draw,
    b_l_draw := bb_l_draw,
    g_l_draw := PySem.W.mg_of X G a_l_draw,
    f_l_lots := fa_l_lots,
    fd_l_lots := _,
    F_l_lots := FF_l_lots,
    b_l_lots := bb_l_lots,
    g_l_lots := PySem.W.mg_of X G a_l_lots,
    f_l_drawn := fa_l_drawn,
    fd_l_drawn := _,
    F_l_drawn := FF_l_drawn,
    b_l_drawn := bb_l_drawn,
    g_l_drawn := PySem.W.mg_of X G a_l_drawn,
    f_l_family := fa_l_family,
    fd_l_family := _,
    F_l_family := FF_l_family,
    b_l_family := bb_l_family,
    g_l_family := PySem.W.mg_of X G a_l_family,
    f_l_holds := fa_l_holds,
    fd_l_holds := _,
    F_l_holds := FF_l_holds,
    b_l_holds := bb_l_holds,
    g_l_holds := PySem.W.mg_of X G a_l_holds,
    f_l_grown := fa_l_grown,
    fd_l_grown := _,
    F_l_grown := FF_l_grown,
    b_l_grown := bb_l_grown,
    g_l_grown := PySem.W.mg_of X G a_l_grown,
    f_l_meet := fa_l_meet,
    fd_l_meet := _,
    F_l_meet := FF_l_meet,
    b_l_meet := bb_l_meet,
    g_l_meet := PySem.W.mg_of X G a_l_meet,
    f_l_all_meet := fa_l_all_meet,
    fd_l_all_meet := _,
    F_l_all_meet := FF_l_all_meet,
    b_l_all_meet := bb_l_all_meet,
    g_l_all_meet := PySem.W.mg_of X G a_l_all_meet,
    f_law := fa,
    fd_law := _,
    F_law := FF_law,
    b_law := bb_law,
    g_law := PySem.W.mg_of X G a_law,
    ox_BadNumber := ⟨⟨_, _, _, _, _, _, _, _, _, _, _, _, _, _, _, xL_BadNumber, bm_ok_BadNumber⟩, sa_BadNumber, eC_BadNumber, tC_BadNumber, kC_BadNumber⟩,
    xn_BadNumber := a_BadNumber_init,
    xt_BadNumber := tI_BadNumber,
    xf_BadNumber := ⟨ga_BadNumber, gg_BadNumber, eC_BadNumber, hd_BadNumber⟩,
    xi_BadNumber := ⟨ic_BadNumber, ga_BadNumber, gg_BadNumber, eC_BadNumber, cc_BadNumber, cn_, ct_, cm_BadNumber⟩,
    n_BadNumber_what := n_BadNumber_what,
    n_BadNumber_value := n_BadNumber_value,
    ox_BadLot := ⟨⟨_, _, _, _, _, _, _, _, _, _, _, _, _, _, _, xL_BadLot, bm_ok_BadLot⟩, sa_BadLot, eC_BadLot, tC_BadLot, kC_BadLot⟩,
    xn_BadLot := a_BadLot_init,
    xt_BadLot := tI_BadLot,
    xf_BadLot := ⟨ga_BadLot, gg_BadLot, eC_BadLot, hd_BadLot⟩,
    xi_BadLot := ⟨ic_BadLot, ga_BadLot, gg_BadLot, eC_BadLot, cc_BadLot, cn_, ct_, cm_BadLot⟩,
    n_BadLot_place := n_BadLot_place,
    e0_Unlike := ⟨q0_Unlike, kC_Unlike, eC_Unlike, tC_Unlike⟩,
    xi_Unlike := ⟨ic_Unlike, ga_Unlike, gg_Unlike, eC_Unlike, cc_Unlike, cn_, ct_, cm_Unlike⟩,
    oh_Family_or := oh_Family_or,
    oh_Family_and := oh_Family_and,
    oc_Family := ⟨sf_Family, PySem.W.ksp_first sf_Family, ni_Family, in_Family, ne_Family, cm_Family⟩,
    ic_Family := ⟨⟨pg_Family, hd_Family, po_Family, sa_Family⟩, cc_Family, cn_, ct_, cm_Family⟩,
    cl_Family := ⟨pg_Family, hd_Family, po_Family, sa_Family⟩,
    M_Family := ⟨mk_Family, a_Family_init, i_Family_init, kc_Family⟩,
    n_Family_copies := n_Family_copies,
    n_Family_lots := n_Family_lots,
    n_Family_marks := n_Family_marks,
    ki_Family_Family := ki_Family_Family,
    ex_BadNumber_BadNumber := exm_own eC_BadNumber ic_BadNumber tC_BadNumber sb_BadNumber_BadNumber,
    gt_MOST_COPIES := gt_MOST_COPIES,
    gk_MOST_COPIES := PySem.W.mg_of X G gk_MOST_COPIES,
    m_abs := PySem.W.mg_none_of X G mb_abs,
    m_all := PySem.W.mg_none_of X G mb_all,
    m_any := PySem.W.mg_none_of X G mb_any,
    m_bool := PySem.W.mg_none_of X G mb_bool,
    m_enumerate := PySem.W.mg_none_of X G mb_enumerate,
    m_int := PySem.W.mg_none_of X G mb_int,
    m_isinstance := PySem.W.mg_none_of X G mb_isinstance,
    m_len := PySem.W.mg_none_of X G mb_len,
    m_list := PySem.W.mg_none_of X G mb_list,
    m_range := PySem.W.mg_none_of X G mb_range,
    m_tuple := PySem.W.mg_none_of X G mb_tuple,
    m_zip := PySem.W.mg_none_of X G mb_zip })⟩
theorem walk {l : PySem.W.OpenLaw} {q : Program} {loose : List Str} {XP : (Str → Option Value) → Heap → Prop} {YP : World → Heap → Prop} {d : DefRec} {K : Params → PySem.W.Frag} (hn : l.most = some 63) (hdf : d.params.defaults = [])
    (hY : ∀ (w : World) (h : Heap), YP w h → (K w.params).In h)
    (F : ∀ (w : World) (mg : Str → Option Value) (fa : Addr) (h : Heap), (K w.params).In h → h.Ns mainGlobals mg → mg d.name = some (.ref fa) →
      ∃ fd : FuncData, (∀ (s : Shared) (u : Value), BindsTo s fd ⟨[u], []⟩ [("_law_script", u)]) ∧ ∀ base : Heap, (K w.params).In base → base.Ns mainGlobals mg → FnOk l.prog w (K w.params) mg base CX0 12 fa fd ["_law_script"] (spLaw (K w.params))) :
    PySem.W.WalkO q loose XP YP l.row.toRowW d [] (fun f vs => PySem.call f vs) :=
  L2.walk_of (n := 63) (k := 12) (x := "_law_script") (CX := fun _ => CX0) (sp := fun w => spLaw (K w.params)) hn (by decide) hdf ⟨rfl, by decide, by decide⟩ hY F (fun _ _ a ns hl _ hS => ⟨a, ns, rfl, hS, hl, fun _ => rfl⟩) fun _ _ _ _ _ z => z
end Cv
open PySem PySem.W PyProof.Rows
set_option maxRecDepth 100000 in
set_option maxHeartbeats 0 in
theorem PySem.Challenge.cw_copyvotes_k12_whole_duals_holds : PySem.Challenge.rw_copyvotes_k12_whole_duals.Holds := by
  w_on; o_law; k_head; (case hw => w_witness2)
  k_fill
  refine Cv.walk (l := PySem.Challenge.rw_copyvotes_k12_whole_duals) rfl rfl (fun w h Y => PySem.W.kIn_of Y) ?F
  case F =>
    intro w mg fa h KX G hmg
    refine' Cv.all_mk KX G hmg ?aC_VoteError ?aC_BadNumber ?aC_BadLot ?aC_Unlike ?aC_Family ?a_BadNumber_init ?l_BadNumber_init ?cc_BadNumber_init ?kk_BadNumber_init ?a_BadLot_init ?l_BadLot_init ?cc_BadLot_init ?kk_BadLot_init ?a_is_integer ?l_is_integer ?cc_is_integer ?kk_is_integer ?a_check_number ?l_check_number ?cc_check_number ?kk_check_number ?a_check_copies ?l_check_copies ?cc_check_copies ?kk_check_copies ?a_check_copy ?l_check_copy ?cc_check_copy ?kk_check_copy ?a_mask_of ?l_mask_of ?cc_mask_of ?kk_mask_of ?a_lot_at ?l_lot_at ?cc_lot_at ?kk_lot_at ?a_check_alike ?l_check_alike ?cc_check_alike ?kk_check_alike ?a_is_within ?l_is_within ?cc_is_within ?kk_is_within ?a_masks_of ?l_masks_of ?cc_masks_of ?kk_masks_of ?a_marks_above ?l_marks_above ?cc_marks_above ?kk_marks_above ?a_minimal_lots ?l_minimal_lots ?cc_minimal_lots ?kk_minimal_lots ?a_Family_init ?i_Family_init ?l_Family_init ?cc_Family_init ?kk_Family_init ?a_marked ?l_marked ?cc_marked ?kk_marked ?a_Family_eq ?i_Family_eq ?l_Family_eq ?cc_Family_eq ?kk_Family_eq ?a_Family_le ?i_Family_le ?l_Family_le ?cc_Family_le ?kk_Family_le ?a_Family_or ?i_Family_or ?l_Family_or ?cc_Family_or ?kk_Family_or ?a_Family_and ?i_Family_and ?l_Family_and ?cc_Family_and ?kk_Family_and ?a_mask_in ?l_mask_in ?cc_mask_in ?kk_mask_in ?a_Family_contains ?i_Family_contains ?l_Family_contains ?cc_Family_contains ?kk_Family_contains ?a_Family_meets ?i_Family_meets ?l_Family_meets ?cc_Family_meets ?kk_Family_meets ?a_Family_is_strict ?i_Family_is_strict ?l_Family_is_strict ?cc_Family_is_strict ?kk_Family_is_strict ?a_Family_dual ?i_Family_dual ?l_Family_dual ?cc_Family_dual ?kk_Family_dual ?a_l_start ?l_l_start ?cc_l_start ?kk_l_start ?a_l_draw ?l_l_draw ?cc_l_draw ?kk_l_draw ?a_l_lots ?l_l_lots ?cc_l_lots ?kk_l_lots ?a_l_drawn ?l_l_drawn ?cc_l_drawn ?kk_l_drawn ?a_l_family ?l_l_family ?cc_l_family ?kk_l_family ?a_l_holds ?l_l_holds ?cc_l_holds ?kk_l_holds ?a_l_grown ?l_l_grown ?cc_l_grown ?kk_l_grown ?a_l_meet ?l_l_meet ?cc_l_meet ?kk_l_meet ?a_l_all_meet ?l_l_all_meet ?cc_l_all_meet ?kk_l_all_meet ?a_law ?l_law ?cc_law ?kk_law ?xL_BadNumber ?bm_ok_BadNumber ?sa_BadNumber ?eC_BadNumber ?tC_BadNumber ?kC_BadNumber ?tI_BadNumber ?ga_BadNumber ?gg_BadNumber ?hd_BadNumber ?ic_BadNumber ?cc_BadNumber ?cm_BadNumber ?n_BadNumber_what ?n_BadNumber_value ?xL_BadLot ?bm_ok_BadLot ?sa_BadLot ?eC_BadLot ?tC_BadLot ?kC_BadLot ?tI_BadLot ?ga_BadLot ?gg_BadLot ?hd_BadLot ?ic_BadLot ?cc_BadLot ?cm_BadLot ?n_BadLot_place ?q0_Unlike ?kC_Unlike ?eC_Unlike ?tC_Unlike ?ga_Unlike ?gg_Unlike ?ic_Unlike ?cc_Unlike ?cm_Unlike ?cn_ ?ct_ ?pg_Family ?hd_Family ?po_Family ?sa_Family ?mk_Family ?kc_Family ?oh_Family_or ?oh_Family_and ?sf_Family ?ni_Family ?in_Family ?ne_Family ?cc_Family ?cm_Family ?n_Family_copies ?n_Family_lots ?n_Family_marks ?ki_Family_Family ?sb_BadNumber_BadNumber ?gk_MOST_COPIES ?mb_abs ?mb_all ?mb_any ?mb_bool ?mb_enumerate ?mb_int ?mb_isinstance ?mb_len ?mb_list ?mb_range ?mb_tuple ?mb_zip
    (case aC_VoteError => k_is)
    (case aC_BadNumber => k_is)
    (case aC_BadLot => k_is)
    (case aC_Unlike => k_is)
    (case aC_Family => k_is)
    (case a_BadNumber_init => k_is)
    (case l_BadNumber_init => k_is)
    (case cc_BadNumber_init => k_is)
    (case kk_BadNumber_init => k_is)
    (case a_BadLot_init => k_is)
    (case l_BadLot_init => k_is)
    (case cc_BadLot_init => k_is)
    (case kk_BadLot_init => k_is)
    (case a_is_integer => k_is)
    (case l_is_integer => k_is)
    (case cc_is_integer => k_is)
    (case kk_is_integer => k_is)
    (case a_check_number => k_is)
    (case l_check_number => k_is)
    (case cc_check_number => k_is)
    (case kk_check_number => k_is)
    (case a_check_copies => k_is)
    (case l_check_copies => k_is)
    (case cc_check_copies => k_is)
    (case kk_check_copies => k_is)
    (case a_check_copy => k_is)
    (case l_check_copy => k_is)
    (case cc_check_copy => k_is)
    (case kk_check_copy => k_is)
    (case a_mask_of => k_is)
    (case l_mask_of => k_is)
    (case cc_mask_of => k_is)
    (case kk_mask_of => k_is)
    (case a_lot_at => k_is)
    (case l_lot_at => k_is)
    (case cc_lot_at => k_is)
    (case kk_lot_at => k_is)
    (case a_check_alike => k_is)
    (case l_check_alike => k_is)
    (case cc_check_alike => k_is)
    (case kk_check_alike => k_is)
    (case a_is_within => k_is)
    (case l_is_within => k_is)
    (case cc_is_within => k_is)
    (case kk_is_within => k_is)
    (case a_masks_of => k_is)
    (case l_masks_of => k_is)
    (case cc_masks_of => k_is)
    (case kk_masks_of => k_is)
    (case a_marks_above => k_is)
    (case l_marks_above => k_is)
    (case cc_marks_above => k_is)
    (case kk_marks_above => k_is)
    (case a_minimal_lots => k_is)
    (case l_minimal_lots => k_is)
    (case cc_minimal_lots => k_is)
    (case kk_minimal_lots => k_is)
    (case a_Family_init => k_is)
    (case i_Family_init => k_is)
    (case l_Family_init => k_is)
    (case cc_Family_init => k_is)
    (case kk_Family_init => k_is)
    (case a_marked => k_is)
    (case l_marked => k_is)
    (case cc_marked => k_is)
    (case kk_marked => k_is)
    (case a_Family_eq => k_is)
    (case i_Family_eq => k_is)
    (case l_Family_eq => k_is)
    (case cc_Family_eq => k_is)
    (case kk_Family_eq => k_is)
    (case a_Family_le => k_is)
    (case i_Family_le => k_is)
    (case l_Family_le => k_is)
    (case cc_Family_le => k_is)
    (case kk_Family_le => k_is)
    (case a_Family_or => k_is)
    (case i_Family_or => k_is)
    (case l_Family_or => k_is)
    (case cc_Family_or => k_is)
    (case kk_Family_or => k_is)
    (case a_Family_and => k_is)
    (case i_Family_and => k_is)
    (case l_Family_and => k_is)
    (case cc_Family_and => k_is)
    (case kk_Family_and => k_is)
    (case a_mask_in => k_is)
    (case l_mask_in => k_is)
    (case cc_mask_in => k_is)
    (case kk_mask_in => k_is)
    (case a_Family_contains => k_is)
    (case i_Family_contains => k_is)
    (case l_Family_contains => k_is)
    (case cc_Family_contains => k_is)
    (case kk_Family_contains => k_is)
    (case a_Family_meets => k_is)
    (case i_Family_meets => k_is)
    (case l_Family_meets => k_is)
    (case cc_Family_meets => k_is)
    (case kk_Family_meets => k_is)
    (case a_Family_is_strict => k_is)
    (case i_Family_is_strict => k_is)
    (case l_Family_is_strict => k_is)
    (case cc_Family_is_strict => k_is)
    (case kk_Family_is_strict => k_is)
    (case a_Family_dual => k_is)
    (case i_Family_dual => k_is)
    (case l_Family_dual => k_is)
    (case cc_Family_dual => k_is)
    (case kk_Family_dual => k_is)
    (case a_l_start => k_is)
    (case l_l_start => k_is)
    (case cc_l_start => k_is)
    (case kk_l_start => k_is)
    (case a_l_draw => k_is)
    (case l_l_draw => k_is)
    (case cc_l_draw => k_is)
    (case kk_l_draw => k_is)
    (case a_l_lots => k_is)
    (case l_l_lots => k_is)
    (case cc_l_lots => k_is)
    (case kk_l_lots => k_is)
    (case a_l_drawn => k_is)
    (case l_l_drawn => k_is)
    (case cc_l_drawn => k_is)
    (case kk_l_drawn => k_is)
    (case a_l_family => k_is)
    (case l_l_family => k_is)
    (case cc_l_family => k_is)
    (case kk_l_family => k_is)
    (case a_l_holds => k_is)
    (case l_l_holds => k_is)
    (case cc_l_holds => k_is)
    (case kk_l_holds => k_is)
    (case a_l_grown => k_is)
    (case l_l_grown => k_is)
    (case cc_l_grown => k_is)
    (case kk_l_grown => k_is)
    (case a_l_meet => k_is)
    (case l_l_meet => k_is)
    (case cc_l_meet => k_is)
    (case kk_l_meet => k_is)
    (case a_l_all_meet => k_is)
    (case l_l_all_meet => k_is)
    (case cc_l_all_meet => k_is)
    (case kk_l_all_meet => k_is)
    (case a_law => k_is)
    (case l_law => k_is)
    (case cc_law => k_is)
    (case kk_law => k_is)
    (case xL_BadNumber => k_is)
    (case bm_ok_BadNumber => decide +kernel)
    (case sa_BadNumber => k_is)
    (case eC_BadNumber => k_is)
    (case tC_BadNumber => k_is)
    (case kC_BadNumber => k_is)
    (case tI_BadNumber => k_is)
    (case ga_BadNumber => k_is)
    (case gg_BadNumber => k_is)
    (case hd_BadNumber => k_is)
    (case ic_BadNumber => k_is)
    (case cc_BadNumber => k_is)
    (case cm_BadNumber => k_is)
    (case n_BadNumber_what => k_is)
    (case n_BadNumber_value => k_is)
    (case xL_BadLot => k_is)
    (case bm_ok_BadLot => decide +kernel)
    (case sa_BadLot => k_is)
    (case eC_BadLot => k_is)
    (case tC_BadLot => k_is)
    (case kC_BadLot => k_is)
    (case tI_BadLot => k_is)
    (case ga_BadLot => k_is)
    (case gg_BadLot => k_is)
    (case hd_BadLot => k_is)
    (case ic_BadLot => k_is)
    (case cc_BadLot => k_is)
    (case cm_BadLot => k_is)
    (case n_BadLot_place => k_is)
    (case q0_Unlike => k_exc)
    (case kC_Unlike => k_is)
    (case eC_Unlike => k_is)
    (case tC_Unlike => k_is)
    (case ga_Unlike => k_is)
    (case gg_Unlike => k_is)
    (case ic_Unlike => k_is)
    (case cc_Unlike => k_is)
    (case cm_Unlike => k_is)
    (case cn_ => k_is)
    (case ct_ => k_is)
    (case pg_Family => k_is)
    (case hd_Family => k_is)
    (case po_Family => k_is)
    (case sa_Family => k_is)
    (case mk_Family => k_is)
    (case kc_Family => k_is)
    (case oh_Family_or => k_is)
    (case oh_Family_and => k_is)
    (case sf_Family => k_is)
    (case ni_Family => k_is)
    (case in_Family => k_is)
    (case ne_Family => k_is)
    (case cc_Family => k_is)
    (case cm_Family => k_is)
    (case n_Family_copies => k_is)
    (case n_Family_lots => k_is)
    (case n_Family_marks => k_is)
    (case ki_Family_Family => kit_is)
    (case sb_BadNumber_BadNumber => k_is)
    (case gk_MOST_COPIES => k_is)
    (case mb_abs => k_is)
    (case mb_all => k_is)
    (case mb_any => k_is)
    (case mb_bool => k_is)
    (case mb_enumerate => k_is)
    (case mb_int => k_is)
    (case mb_isinstance => k_is)
    (case mb_len => k_is)
    (case mb_list => k_is)
    (case mb_range => k_is)
    (case mb_tuple => k_is)
    (case mb_zip => k_is)

import PyProof.Rows.All
import Wide.All
import OpenK.AllK
import Wide.FinOn
import KE.RegKIsAll
import KE.KExcIs
import KE.KOpsOwn
import KE.KCallOwn
import KE.GoesEnum
import KE.GoesMore
import HandS.ForSpec
import HandS.ExcInit
import HandS.ExcField
import HandS.IsInst
import HandS.Style
import HandS.Evl
import HandS.OwnEq
import HandS.Wide
import HandS.Defaults
import HandS.Comp
import HandS.Conv
import HandS.Walk
import HandS.WideBits
import HandS.TupAny
import HandS.Zip
import HandS.Star
import HandS.SetFor
import HandS.ClsMeth
import HandS.TryOnly
import HandS.TryMany
import HandS.Gcd
import HandS.OwnEq
import HandS.IterNext
import HandS.IterVal
import HandS.TupMul
import KE.KOwnIter
import HandS.TryOnly
import HandS.TryMany
import PySem.Challenge.RW_copyvotes_k66_whole_mirror
set_option Elab.async false
set_option linter.all false
set_option maxRecDepth 100000
set_option maxHeartbeats 4000000

namespace Cv
open PySem PySem.Spec PyProof.Rows L2
def topS (i : Nat) : Stmt := PySem.Challenge.pw_copyvotes_k66_whole_mirror.main.body.getD i (.Pass ⟨0, 0, 0, 0⟩)
abbrev s_BadNumber_init : Stmt := inClass (topS 4) 0
theorem sc_BadNumber_init : FnScope ["self", "what", "value"] ["self", "what", "value"] (defScope s_BadNumber_init) := ⟨rfl, rfl, rfl, by decide +kernel, rfl, by decide +kernel, by decide +kernel⟩
abbrev s_BadLot_init : Stmt := inClass (topS 5) 0
theorem sc_BadLot_init : FnScope ["self", "place"] ["self", "place"] (defScope s_BadLot_init) := ⟨rfl, rfl, rfl, by decide +kernel, rfl, by decide +kernel, by decide +kernel⟩
abbrev s_is_integer : Stmt := topS 8
theorem sc_is_integer : FnScope ["value"] ["value"] (defScope s_is_integer) := ⟨rfl, rfl, rfl, by decide +kernel, rfl, by decide +kernel, by decide +kernel⟩
abbrev s_check_number : Stmt := topS 9
theorem sc_check_number : FnScope ["what", "value", "low", "high"] ["what", "value", "low", "high"] (defScope s_check_number) := ⟨rfl, rfl, rfl, by decide +kernel, rfl, by decide +kernel, by decide +kernel⟩
abbrev s_check_copies : Stmt := topS 12
theorem sc_check_copies : FnScope ["copies"] ["copies"] (defScope s_check_copies) := ⟨rfl, rfl, rfl, by decide +kernel, rfl, by decide +kernel, by decide +kernel⟩
abbrev s_check_copy : Stmt := topS 13
theorem sc_check_copy : FnScope ["copies", "copy"] ["copies", "copy"] (defScope s_check_copy) := ⟨rfl, rfl, rfl, by decide +kernel, rfl, by decide +kernel, by decide +kernel⟩
abbrev s_mask_of : Stmt := topS 14
theorem sc_mask_of : FnScope ["copies", "numbers", "mask", "number"] ["copies", "numbers"] (defScope s_mask_of) := ⟨rfl, rfl, rfl, by decide +kernel, rfl, by decide +kernel, by decide +kernel⟩
abbrev s_lot_at : Stmt := topS 16
theorem sc_lot_at : FnScope ["mask", "copy"] ["mask"] (defScope s_lot_at) := ⟨rfl, rfl, rfl, by decide +kernel, rfl, by decide +kernel, by decide +kernel⟩
abbrev s_check_alike : Stmt := topS 23
theorem sc_check_alike : FnScope ["copies", "other"] ["copies", "other"] (defScope s_check_alike) := ⟨rfl, rfl, rfl, by decide +kernel, rfl, by decide +kernel, by decide +kernel⟩
abbrev s_is_within : Stmt := topS 24
theorem sc_is_within : FnScope ["marks", "more", "mine", "theirs"] ["marks", "more"] (defScope s_is_within) := ⟨rfl, rfl, rfl, by decide +kernel, rfl, by decide +kernel, by decide +kernel⟩
abbrev s_masks_of : Stmt := topS 25
theorem sc_masks_of : FnScope ["copies", "lots", "masks", "place", "lot", "mask"] ["copies", "lots"] (defScope s_masks_of) := ⟨rfl, rfl, rfl, by decide +kernel, rfl, by decide +kernel, by decide +kernel⟩
abbrev s_marks_above : Stmt := topS 26
theorem sc_marks_above : FnScope ["copies", "masks", "marks", "_", "mask", "copy", "bit", "mark"] ["copies", "masks"] (defScope s_marks_above) := ⟨rfl, rfl, rfl, by decide +kernel, rfl, by decide +kernel, by decide +kernel⟩
abbrev s_minimal_lots : Stmt := topS 27
theorem sc_minimal_lots : FnScope ["copies", "marks", "bits", "copy", "found", "mask", "mark", "bit"] ["copies", "marks"] (defScope s_minimal_lots) := ⟨rfl, rfl, rfl, by decide +kernel, rfl, by decide +kernel, by decide +kernel⟩
abbrev s_Family_init : Stmt := inClass (topS 22) 0
theorem bs_Family_init (kV doc pm : Value) (an : Option Addr) (cdv ct : Value) : ∀ us rest : List Value, us.length = (["self", "copies"] : List Str).length → bindArgs (PySem.W.fnOf "__init__" "Family.__init__" (defArgs s_Family_init) (defBody s_Family_init) (defScope s_Family_init) .none kV doc pm an cdv ct) ⟨us ++ rest, []⟩ = (newTuple rest >>= fun t => pure ((["self", "copies"] : List Str).zip us ++ [(("lots" : Str), t)])) := StX.bind_star2 (B := fun z => bindArgs (PySem.W.fnOf "__init__" "Family.__init__" (defArgs s_Family_init) (defBody s_Family_init) (defScope s_Family_init) .none kV doc pm an cdv ct) ⟨z, []⟩) (fun a b => rfl) (fun a b r rs => rfl)
theorem sc_Family_init : FnScope ["self", "copies", "lots", "marks"] ["self", "copies", "lots"] (defScope s_Family_init) := ⟨rfl, rfl, rfl, by decide +kernel, rfl, by decide +kernel, by decide +kernel⟩
abbrev s_marked : Stmt := topS 28
theorem sc_marked : FnScope ["copies", "marks", "lots"] ["copies", "marks"] (defScope s_marked) := ⟨rfl, rfl, rfl, by decide +kernel, rfl, by decide +kernel, by decide +kernel⟩
abbrev s_others : Stmt := topS 17
theorem sc_others : FnScope ["copies", "lot", "whole"] ["copies", "lot"] (defScope s_others) := ⟨rfl, rfl, rfl, by decide +kernel, rfl, by decide +kernel, by decide +kernel⟩
abbrev s_all_lots : Stmt := topS 18
theorem sc_all_lots : FnScope ["copies", "mask"] ["copies"] (defScope s_all_lots) := ⟨rfl, rfl, rfl, by decide +kernel, rfl, by decide +kernel, by decide +kernel⟩
abbrev s_middle_lots : Stmt := topS 19
theorem sc_middle_lots : FnScope ["copies"] ["copies"] (defScope s_middle_lots) := ⟨rfl, rfl, rfl, by decide +kernel, rfl, by decide +kernel, by decide +kernel⟩
abbrev s_whole_lot : Stmt := topS 20
theorem sc_whole_lot : FnScope ["copies"] ["copies"] (defScope s_whole_lot) := ⟨rfl, rfl, rfl, by decide +kernel, rfl, by decide +kernel, by decide +kernel⟩
abbrev s_Family_or : Stmt := inClass (topS 22) 5
theorem sc_Family_or : FnScope ["self", "other", "mine", "theirs"] ["self", "other"] (defScope s_Family_or) := ⟨rfl, rfl, rfl, by decide +kernel, rfl, by decide +kernel, by decide +kernel⟩
abbrev s_Family_le : Stmt := inClass (topS 22) 4
theorem sc_Family_le : FnScope ["self", "other"] ["self", "other"] (defScope s_Family_le) := ⟨rfl, rfl, rfl, by decide +kernel, rfl, by decide +kernel, by decide +kernel⟩
abbrev s_Family_eq : Stmt := inClass (topS 22) 3
theorem sc_Family_eq : FnScope ["self", "other"] ["self", "other"] (defScope s_Family_eq) := ⟨rfl, rfl, rfl, by decide +kernel, rfl, by decide +kernel, by decide +kernel⟩
abbrev s_Family_dual : Stmt := inClass (topS 22) 15
theorem sc_Family_dual : FnScope ["self", "mark"] ["self"] (defScope s_Family_dual) := ⟨rfl, rfl, rfl, by decide +kernel, rfl, by decide +kernel, by decide +kernel⟩
abbrev s_Family_each : Stmt := inClass (topS 22) 2
theorem sc_Family_each : FnScope ["copies", "lots", "copy"] ["copies"] (defScope s_Family_each) := ⟨rfl, rfl, rfl, by decide +kernel, rfl, by decide +kernel, by decide +kernel⟩
abbrev s_Ratio_init : Stmt := inClass (topS 30) 0
theorem sc_Ratio_init : FnScope ["self", "over", "under", "divisor"] ["self", "over", "under"] (defScope s_Ratio_init) := ⟨rfl, rfl, rfl, by decide +kernel, rfl, by decide +kernel, by decide +kernel⟩
abbrev s_ratio_of : Stmt := topS 31
theorem sc_ratio_of : FnScope ["value"] ["value"] (defScope s_ratio_of) := ⟨rfl, rfl, rfl, by decide +kernel, rfl, by decide +kernel, by decide +kernel⟩
abbrev s_Ratio_eq : Stmt := inClass (topS 30) 1
theorem sc_Ratio_eq : FnScope ["self", "other"] ["self", "other"] (defScope s_Ratio_eq) := ⟨rfl, rfl, rfl, by decide +kernel, rfl, by decide +kernel, by decide +kernel⟩
abbrev s_Ratio_lt : Stmt := inClass (topS 30) 2
theorem sc_Ratio_lt : FnScope ["self", "other", "right"] ["self", "other"] (defScope s_Ratio_lt) := ⟨rfl, rfl, rfl, by decide +kernel, rfl, by decide +kernel, by decide +kernel⟩
abbrev s_Ratio_le : Stmt := inClass (topS 30) 3
theorem sc_Ratio_le : FnScope ["self", "other", "right"] ["self", "other"] (defScope s_Ratio_le) := ⟨rfl, rfl, rfl, by decide +kernel, rfl, by decide +kernel, by decide +kernel⟩
abbrev s_Ratio_gt : Stmt := inClass (topS 30) 4
theorem sc_Ratio_gt : FnScope ["self", "other", "right"] ["self", "other"] (defScope s_Ratio_gt) := ⟨rfl, rfl, rfl, by decide +kernel, rfl, by decide +kernel, by decide +kernel⟩
abbrev s_Ratio_ge : Stmt := inClass (topS 30) 5
theorem sc_Ratio_ge : FnScope ["self", "other", "right"] ["self", "other"] (defScope s_Ratio_ge) := ⟨rfl, rfl, rfl, by decide +kernel, rfl, by decide +kernel, by decide +kernel⟩
abbrev s_Ratio_add : Stmt := inClass (topS 30) 6
theorem sc_Ratio_add : FnScope ["self", "other", "right", "over"] ["self", "other"] (defScope s_Ratio_add) := ⟨rfl, rfl, rfl, by decide +kernel, rfl, by decide +kernel, by decide +kernel⟩
abbrev s_Ratio_radd : Stmt := inClass (topS 30) 7
theorem sc_Ratio_radd : FnScope ["self", "other"] ["self", "other"] (defScope s_Ratio_radd) := ⟨rfl, rfl, rfl, by decide +kernel, rfl, by decide +kernel, by decide +kernel⟩
abbrev s_Ratio_sub : Stmt := inClass (topS 30) 8
theorem sc_Ratio_sub : FnScope ["self", "other", "right", "over"] ["self", "other"] (defScope s_Ratio_sub) := ⟨rfl, rfl, rfl, by decide +kernel, rfl, by decide +kernel, by decide +kernel⟩
abbrev s_Ratio_rsub : Stmt := inClass (topS 30) 9
theorem sc_Ratio_rsub : FnScope ["self", "other", "left"] ["self", "other"] (defScope s_Ratio_rsub) := ⟨rfl, rfl, rfl, by decide +kernel, rfl, by decide +kernel, by decide +kernel⟩
abbrev s_Ratio_mul : Stmt := inClass (topS 30) 10
theorem sc_Ratio_mul : FnScope ["self", "other", "right"] ["self", "other"] (defScope s_Ratio_mul) := ⟨rfl, rfl, rfl, by decide +kernel, rfl, by decide +kernel, by decide +kernel⟩
abbrev s_Ratio_rmul : Stmt := inClass (topS 30) 11
abbrev s_Ratio_half : Stmt := inClass (topS 30) 14
theorem sc_Ratio_half : FnScope [] [] (defScope s_Ratio_half) := ⟨rfl, rfl, rfl, by decide +kernel, rfl, by decide +kernel, by decide +kernel⟩
abbrev s_Ratio_divided : Stmt := inClass (topS 30) 13
theorem sc_Ratio_divided : FnScope ["self", "other", "right"] ["self", "other"] (defScope s_Ratio_divided) := ⟨rfl, rfl, rfl, by decide +kernel, rfl, by decide +kernel, by decide +kernel⟩
abbrev s_is_short : Stmt := topS 35
theorem sc_is_short : FnScope ["value"] ["value"] (defScope s_is_short) := ⟨rfl, rfl, rfl, by decide +kernel, rfl, by decide +kernel, by decide +kernel⟩
abbrev s_check_chance : Stmt := topS 36
theorem sc_check_chance : FnScope ["chance"] ["chance"] (defScope s_check_chance) := ⟨rfl, rfl, rfl, by decide +kernel, rfl, by decide +kernel, by decide +kernel⟩
abbrev s_scale_of : Stmt := topS 37
theorem sc_scale_of : FnScope ["ratios", "scale", "ratio"] ["ratios"] (defScope s_scale_of) := ⟨rfl, rfl, rfl, by decide +kernel, rfl, by decide +kernel, by decide +kernel⟩
abbrev s_counts_of : Stmt := topS 38
theorem sc_counts_of : FnScope ["ratios", "counts", "ratio", "down", "count"] ["ratios"] (defScope s_counts_of) := ⟨rfl, rfl, rfl, by decide +kernel, rfl, by decide +kernel, by decide +kernel⟩
abbrev s_Chances_init : Stmt := inClass (topS 34) 0
theorem bs_Chances_init (kV doc pm : Value) (an : Option Addr) (cdv ct : Value) : ∀ us rest : List Value, us.length = (["self"] : List Str).length → bindArgs (PySem.W.fnOf "__init__" "Chances.__init__" (defArgs s_Chances_init) (defBody s_Chances_init) (defScope s_Chances_init) .none kV doc pm an cdv ct) ⟨us ++ rest, []⟩ = (newTuple rest >>= fun t => pure ((["self"] : List Str).zip us ++ [(("chances" : Str), t)])) := StX.bind_star1 (B := fun z => bindArgs (PySem.W.fnOf "__init__" "Chances.__init__" (defArgs s_Chances_init) (defBody s_Chances_init) (defScope s_Chances_init) .none kV doc pm an cdv ct) ⟨z, []⟩) (fun a => rfl) (fun a r rs => rfl)
theorem sc_Chances_init : FnScope ["self", "chances", "chance"] ["self", "chances"] (defScope s_Chances_init) := ⟨rfl, rfl, rfl, by decide +kernel, rfl, by decide +kernel, by decide +kernel⟩
abbrev s_Chances_add : Stmt := inClass (topS 34) 2
theorem sc_Chances_add : FnScope ["self", "other", "ratios"] ["self", "other"] (defScope s_Chances_add) := ⟨rfl, rfl, rfl, by decide +kernel, rfl, by decide +kernel, by decide +kernel⟩
abbrev s_Chances_len : Stmt := inClass (topS 34) 4
theorem sc_Chances_len : FnScope ["self"] ["self"] (defScope s_Chances_len) := ⟨rfl, rfl, rfl, by decide +kernel, rfl, by decide +kernel, by decide +kernel⟩
abbrev s_Chances_alone : Stmt := inClass (topS 34) 7
theorem sc_Chances_alone : FnScope ["self", "lot"] ["self", "lot"] (defScope s_Chances_alone) := ⟨rfl, rfl, rfl, by decide +kernel, rfl, by decide +kernel, by decide +kernel⟩
abbrev s_Chances_up : Stmt := inClass (topS 34) 8
theorem sc_Chances_up : FnScope ["self", "family", "count", "mark"] ["self", "family"] (defScope s_Chances_up) := ⟨rfl, rfl, rfl, by decide +kernel, rfl, by decide +kernel, by decide +kernel⟩
abbrev s_check_share : Stmt := topS 40
theorem sc_check_share : FnScope ["share"] ["share"] (defScope s_check_share) := ⟨rfl, rfl, rfl, by decide +kernel, rfl, by decide +kernel, by decide +kernel⟩
abbrev s_gain : Stmt := topS 41
theorem sc_gain : FnScope ["chances", "share", "lot", "mine", "theirs"] ["chances", "share", "lot"] (defScope s_gain) := ⟨rfl, rfl, rfl, by decide +kernel, rfl, by decide +kernel, by decide +kernel⟩
abbrev s_with_whole : Stmt := topS 46
theorem sc_with_whole : FnScope ["copies", "lots"] ["copies", "lots"] (defScope s_with_whole) := ⟨rfl, rfl, rfl, by decide +kernel, rfl, by decide +kernel, by decide +kernel⟩
abbrev s_most_worth : Stmt := topS 43
theorem sc_most_worth : FnScope ["chances", "share", "copies", "gains", "lot", "one"] ["chances", "share"] (defScope s_most_worth) := ⟨rfl, rfl, rfl, by decide +kernel, rfl, by decide +kernel, by decide +kernel⟩
abbrev s_least_writes : Stmt := topS 44
theorem sc_least_writes : FnScope ["chances", "share", "copies", "lot"] ["chances", "share"] (defScope s_least_writes) := ⟨rfl, rfl, rfl, by decide +kernel, rfl, by decide +kernel, by decide +kernel⟩
abbrev s_greatest_writes : Stmt := topS 45
theorem sc_greatest_writes : FnScope ["chances", "share", "copies", "lot"] ["chances", "share"] (defScope s_greatest_writes) := ⟨rfl, rfl, rfl, by decide +kernel, rfl, by decide +kernel, by decide +kernel⟩
abbrev s_is_best : Stmt := topS 47
theorem sc_is_best : FnScope ["chances", "share", "writes", "least"] ["chances", "share", "writes"] (defScope s_is_best) := ⟨rfl, rfl, rfl, by decide +kernel, rfl, by decide +kernel, by decide +kernel⟩
abbrev s_lot_break : Stmt := topS 51
theorem sc_lot_break : FnScope ["chances", "lot", "mine"] ["chances", "lot"] (defScope s_lot_break) := ⟨rfl, rfl, rfl, by decide +kernel, rfl, by decide +kernel, by decide +kernel⟩
abbrev s_lot_breaks : Stmt := topS 50
theorem sc_lot_breaks : FnScope ["chances", "lots", "lot"] ["chances"] (defScope s_lot_breaks) := ⟨rfl, rfl, rfl, by decide +kernel, rfl, by decide +kernel, by decide +kernel⟩
abbrev s_breaks : Stmt := topS 52
theorem sc_breaks : FnScope ["chances", "found", "_", "turn", "place", "known"] ["chances"] (defScope s_breaks) := ⟨rfl, rfl, rfl, by decide +kernel, rfl, by decide +kernel, by decide +kernel⟩
abbrev s_piece : Stmt := topS 53
theorem sc_piece : FnScope ["chances", "turns", "start", "end", "writes", "lot", "turn", "height", "slope"] ["chances", "turns", "start", "end"] (defScope s_piece) := ⟨rfl, rfl, rfl, by decide +kernel, rfl, by decide +kernel, by decide +kernel⟩
abbrev s_Curve_init : Stmt := inClass (topS 49) 0
theorem sc_Curve_init : FnScope ["self", "chances", "turns", "bounds", "start", "end"] ["self", "chances"] (defScope s_Curve_init) := ⟨rfl, rfl, rfl, by decide +kernel, rfl, by decide +kernel, by decide +kernel⟩
abbrev s_Curve_call : Stmt := inClass (topS 49) 1
theorem sc_Curve_call : FnScope ["self", "share", "fitting", "row", "slope", "height"] ["self", "share"] (defScope s_Curve_call) := ⟨rfl, rfl, rfl, by decide +kernel, rfl, by decide +kernel, by decide +kernel⟩
abbrev s_l_start : Stmt := topS 55
theorem sc_l_start : FnScope ["_law_script", "_law_first"] ["_law_script"] (defScope s_l_start) := ⟨rfl, rfl, rfl, by decide +kernel, rfl, by decide +kernel, by decide +kernel⟩
abbrev s_l_draw : Stmt := topS 56
theorem sc_l_draw : FnScope ["_law_script", "_law_state", "_law_limit", "_law_number", "_law_cell", "_law_mixed"] ["_law_script", "_law_state", "_law_limit"] (defScope s_l_draw) := ⟨rfl, rfl, rfl, by decide +kernel, rfl, by decide +kernel, by decide +kernel⟩
abbrev s_l_chances : Stmt := topS 57
theorem sc_l_chances : FnScope ["_law_script", "_law_state", "_law_most", "_law_kind", "_law_chances_here", "_law_k", "_law_under", "_law_least", "_law_chance"] ["_law_script", "_law_state", "_law_most"] (defScope s_l_chances) := ⟨rfl, rfl, rfl, by decide +kernel, rfl, by decide +kernel, by decide +kernel⟩
abbrev s_l_share : Stmt := topS 58
theorem sc_l_share : FnScope ["_law_script", "_law_state", "_law_under"] ["_law_script", "_law_state"] (defScope s_l_share) := ⟨rfl, rfl, rfl, by decide +kernel, rfl, by decide +kernel, by decide +kernel⟩
abbrev s_l_ratios : Stmt := topS 59
theorem sc_l_ratios : FnScope ["_law_chances_here", "_law_chance"] ["_law_chances_here"] (defScope s_l_ratios) := ⟨rfl, rfl, rfl, by decide +kernel, rfl, by decide +kernel, by decide +kernel⟩
abbrev s_l_made : Stmt := topS 60
theorem sc_l_made : FnScope ["_law_chances_here", "_law_ratios_here", "_law_made_here", "_law_ratio"] ["_law_chances_here"] (defScope s_l_made) := ⟨rfl, rfl, rfl, by decide +kernel, rfl, by decide +kernel, by decide +kernel⟩
abbrev s_l_power : Stmt := topS 61
theorem sc_l_power : FnScope ["_law_many", "_law_found", "_law_k"] ["_law_many"] (defScope s_l_power) := ⟨rfl, rfl, rfl, by decide +kernel, rfl, by decide +kernel, by decide +kernel⟩
abbrev s_l_has : Stmt := topS 62
theorem sc_l_has : FnScope ["_law_code", "_law_copy"] ["_law_code", "_law_copy"] (defScope s_l_has) := ⟨rfl, rfl, rfl, by decide +kernel, rfl, by decide +kernel, by decide +kernel⟩
abbrev s_l_lot : Stmt := topS 63
theorem sc_l_lot : FnScope ["_law_many", "_law_code", "_law_copy"] ["_law_many", "_law_code"] (defScope s_l_lot) := ⟨rfl, rfl, rfl, by decide +kernel, rfl, by decide +kernel, by decide +kernel⟩
abbrev s_l_breaks_hold : Stmt := topS 64
theorem sc_l_breaks_hold : FnScope ["_law_chances_here", "_law_found", "_law_share_here", "_law_k"] ["_law_chances_here"] (defScope s_l_breaks_hold) := ⟨rfl, rfl, rfl, by decide +kernel, rfl, by decide +kernel, by decide +kernel⟩
abbrev s_l_some_family : Stmt := topS 65
theorem sc_l_some_family : FnScope ["_law_script", "_law_state", "_law_many", "_law_code", "_law_family", "_law_k"] ["_law_script", "_law_state", "_law_many"] (defScope s_l_some_family) := ⟨rfl, rfl, rfl, by decide +kernel, rfl, by decide +kernel, by decide +kernel⟩
abbrev s_law : Stmt := topS 66
theorem sc_law : FnScope ["_law_script", "_law_state", "_law_raw", "_law_many", "_law_chances_here", "_law_pair", "_law_share_here", "_law_other", "_law_least", "_law_greatest", "_law_lot_here", "_law_family", "_law_curve"] ["_law_script"] (defScope s_law) := ⟨rfl, rfl, rfl, by decide +kernel, rfl, by decide +kernel, by decide +kernel⟩
/-! ## What every law's text wants: heaps, exceptions, the draws -/
theorem same_upd {H : Hp} {p : Addr} {o : HO} (h : H p = none) : Same H (upd H p o) := fun b x e => by
  rw [upd_ne (ne_of_none e h)]
  exact e
theorem same_upd2 {H H' : Hp} {p : Addr} {o : HO} (e : Same H H') (h : H p = none) : Same H (upd H' p o) := fun b x k => by
  rw [upd_ne (ne_of_none k h)]
  exact e b x k
/-- what isinstance asks of an own exception class -/
structure XiC (K : PySem.W.Frag) (C : Addr) : Prop where
  cl : PySem.W.isClsIn K C = true
  ga : PySem.W.findIn K (.ref C) "__getattribute__" = some (some (.builtin "BaseException.__getattribute__"))
  gg : PySem.W.findIn K (.ref C) "__getattr__" = some none
  sb : PySem.W.subIn K (.ref C) (.type "BaseException") = some true
  ha : PySem.W.findIn K (.ref C) "__class__" = some (some (.builtin "object.__class__"))
  hn : PySem.W.specialIn K (.builtin "object.__class__") "__get__" = some (some (.builtin "getset_descriptor.__get__"))
  ht : PySem.W.takesIn K (.builtin "object.__class__") = some true
  hm : PySem.W.mroIn K C (.type "object") = some true
/-- isinstance(e, c) within the suite that holds e, an error with its own dict -/
def rIsX (K : PySem.W.Frag) (a C : Addr) (cls : Value) (d : Option Addr) : List V → Hp → VK → Prop := fun xs H Q => ∃ (c : V) (cv : Value) (b : Bool) (dd : Addr) (fs : List (Str × V)), xs = [.ref a, c] ∧ cls = .ref C ∧ d = some dd ∧ H dd = some (.xd fs) ∧ ClsV c cv ∧ PySem.W.kitOne K (.ref C) cv = some b ∧ Q (.bl b) H
/-! ### the state of the draws -/
def St4 (H : Hp) (t : Addr) : Prop := ∃ a b c d : Int, H t = some (.lst [.int a, .int b, .int c, .int d])
/-- H0: the heap of old, t: the state's list, l: the script -/
structure Drw (K : PySem.W.Frag) (H0 : Hp) (l t : Addr) (H : Hp) : Prop where
  scr : ∃ ns : List Int, SqL K H0 l (ns.map V.int)
  new : H0 t = none
  same : Same H0 H
  st : St4 H t
theorem Drw.sc {K : PySem.W.Frag} {H0 H : Hp} {l t : Addr} (D : Drw K H0 l t H) : ∃ ns : List Int, SqL K H l (ns.map V.int) := by
  obtain ⟨ns, h⟩ := D.scr
  exact ⟨ns, D.same.seq h⟩
theorem Drw.upd {K : PySem.W.Frag} {H0 H : Hp} {l t : Addr} {a b c d : Int} (D : Drw K H0 l t H) : Drw K H0 l t (upd H t (.lst [.int a, .int b, .int c, .int d])) :=
  ⟨D.scr, D.new, same_upd2 D.same D.new, ⟨a, b, c, d, upd_same⟩⟩
theorem Drw.mono {K : PySem.W.Frag} {H0 H H' : Hp} {l t : Addr} (D : Drw K H0 l t H) (e : Same H H') : Drw K H0 l t H' := by
  obtain ⟨a, b, c, d, h⟩ := D.st
  exact ⟨D.scr, D.new, D.same.trans e, ⟨a, b, c, d, e _ _ h⟩⟩
/-- all but what stands at t -/
def But (t : Addr) (H H' : Hp) : Prop := ∀ b, b ≠ t → H' b = H b
theorem But.refl {t : Addr} {H : Hp} : But t H H := fun _ _ => rfl
theorem But.trans {t : Addr} {H H1 H2 : Hp} (a : But t H H1) (b : But t H1 H2) : But t H H2 := fun c h => (b c h).trans (a c h)
theorem But.upd {t : Addr} {H H1 : Hp} {o : HO} (a : But t H H1) : But t H (upd H1 t o) := fun c h => (upd_ne h).trans (a c h)
def spStart (K : PySem.W.Frag) : Sp := fun vs H Q _ => ∃ (l : Addr) (ns : List Int), vs = [.ref l] ∧ SqL K H l (ns.map V.int) ∧ ∀ t H', H t = none → Drw K H l t H' → But t H H' → Q (.ref t) H'
def spDraw (K : PySem.W.Frag) : Sp := fun vs H Q _ => ∃ (l t : Addr) (m : Int) (H0 : Hp), vs = [.ref l, .ref t, .int m] ∧ Drw K H0 l t H ∧ 0 < m ∧ m < 1073741824 ∧ ∀ (v : Int) H', 0 ≤ v → v < m → But t H H' → Drw K H0 l t H' → Q (.int v) H'
theorem at0 {a b c d : V} : atI [a, b, c, d] 0 = some a := rfl
theorem at1 {a b c d : V} : atI [a, b, c, d] 1 = some b := rfl
theorem at2 {a b c d : V} : atI [a, b, c, d] 2 = some c := rfl
theorem at3 {a b c d : V} : atI [a, b, c, d] 3 = some d := rfl
/-- the plain steps of a reading -/
local macro_rules | `(tactic| walk_at "rd") => `(tactic| repeat (first | refine ⟨_, rfl, ?_⟩ | refine ⟨_, _, rfl, rfl, ?_⟩ | refine ⟨⟨by decide, by decide⟩, ?_⟩ | refine ⟨⟨by decide, by decide, by decide⟩, ?_⟩ | refine ⟨show (0 : Int) < _ by decide, ?_⟩))
/-! ### data, errors, numbers -/
theorem Same.seqT {K : PySem.W.Frag} {H H' : Hp} {a : Addr} {xs : List V} (e : Same H H') (h : SqT K H a xs) : SqT K H' a xs := by
  rcases h with (h | ⟨o, h⟩) | h
  · exact .inl (.inl (e _ _ h))
  · exact .inl (.inr ⟨o, e _ _ h⟩)
  · exact .inr h
mutual
theorem dp_same {K : PySem.W.Frag} {H H' : Hp} (e : Same H H') : ∀ {v : V} {d : PyData}, Dp K H v d → Dp K H' v d
  | _, _, .non => .non
  | _, _, .bl b => .bl b
  | _, _, .int i => .int i
  | _, _, .str x => .str x
  | _, _, .lst h a => .lst (e.seq h) (dps_same e a)
  | _, _, .tup h a => .tup (Same.seqT e h) (dps_same e a)
theorem dps_same {K : PySem.W.Frag} {H H' : Hp} (e : Same H H') : ∀ {vs : List V} {ds : List PyData}, DpAll K H vs ds → DpAll K H' vs ds
  | _, _, .nil => .nil
  | _, _, .cons h a => .cons (dp_same e h) (dps_same e a)
end
/-- an error of two fields, being made -/
def spX2 (C : Addr) (f1 f2 : Str) : Sp := fun vs H Q _ => ∃ (a : Addr) (x y : V), vs = [.ref a, x, y] ∧ H a = some (exo a C none) ∧
  ∀ d, H d = none → d ≠ a → Q .non (upd (upd (upd H d (exd d [(f1, x)])) a (exo a C (some d))) d (exd d [(f2, y), (f1, x)]))
theorem mk2 {C : Addr} {f1 f2 : Str} {H1 : Hp} {x y : V} {Q : XK} (h : ∀ d H', H1 d = none → Same H1 H' → H' d = some (.xd [(f2, y), (f1, x)]) → Q (.ref C) (some d) H') :
    ([x, y] : List V).length ≤ 1000 ∧ ∀ a, H1 a = none → spX2 C f1 f2 (.ref a :: ([x, y] ++ [])) (upd H1 a (exo a C none)) (fun v H2 => v = .non ∧ ∃ (d : Addr) (fs : List (Str × V)), H2 a = some (exo a C (some d)) ∧ H2 d = some (exd d fs) ∧ H1 d = none ∧ Q (.ref C) (some d) (upd (del H2 a) d (.xd fs))) (fun _ _ _ => False) := by
  refine ⟨by show 2 ≤ 1000; decide, fun a ha => ⟨a, x, y, rfl, upd_same, fun d hd hda => ⟨rfl, d, _, ?_, upd_same, ?_, ?_⟩⟩⟩
  · rw [upd_ne (Ne.symm hda), upd_same]
  · rw [upd_ne hda] at hd
    exact hd
  · have hd1 : H1 d = none := by
      rw [upd_ne hda] at hd
      exact hd
    refine h d _ hd1 (fun b o e => ?_) upd_same
    have hba : b ≠ a := ne_of_none e ha
    have hbd : b ≠ d := ne_of_none e hd1
    rw [upd_ne hbd, del_ne hba, upd_ne hbd, upd_ne hba, upd_ne hbd, upd_ne hba]
    exact e
/-- what is an integer -/
def isInt : V → Bool
  | .int _ => true
  | _ => false
/-- a value that isinstance can ask -/
def Kn (K : PySem.W.Frag) (H : Hp) (x : V) : Prop := ∃ t b1 b2, TyX K H x t ∧ PySem.W.kitOne K t (.type "int") = some b1 ∧ (b1 = true → PySem.W.kitOne K t (.type "bool") = some b2) ∧ (b1 && !b2) = isInt x
theorem kn_int {K : PySem.W.Frag} {H : Hp} (i : Int) : Kn K H (.int i) := ⟨_, true, false, .base (.int i), kit_ty (by decide +kernel), fun _ => kit_ty (by decide +kernel), rfl⟩
theorem kn_bl {K : PySem.W.Frag} {H : Hp} (b : Bool) : Kn K H (.bl b) := ⟨_, true, true, .base (.bl b), kit_ty (by decide +kernel), fun _ => kit_ty (by decide +kernel), rfl⟩
theorem kn_non {K : PySem.W.Frag} {H : Hp} : Kn K H .non := ⟨_, false, false, .base .non, kit_ty (by decide +kernel), fun z => (nomatch z), rfl⟩
theorem kn_str {K : PySem.W.Frag} {H : Hp} (x : Str) : Kn K H (.str x) := ⟨_, false, false, .base (.str x), kit_ty (by decide +kernel), fun z => (nomatch z), rfl⟩
def spIsInt (K : PySem.W.Frag) : Sp := fun vs H Q _ => ∃ x, vs = [x] ∧ Kn K H x ∧ Q (.bl (isInt x)) H
def oV : Option Int → V
  | none => .non
  | some i => .int i
/-- within the bounds -/
def good (x : V) (lo hi : Option Int) : Bool := match x with
  | .int i => lo.all (fun l => decide (l ≤ i)) && hi.all (fun h => decide (i ≤ h))
  | _ => false
def spCheck (K : PySem.W.Frag) (C : Addr) : Sp := fun vs H Q E => ∃ (w : Str) (x : V) (lo hi : Option Int), vs = [.str w, x, oV lo, oV hi] ∧ Kn K H x ∧ (good x lo hi = true → Q x H) ∧
  (good x lo hi = false → ∀ d H', H d = none → Same H H' → H' d = some (.xd [("value", x), ("what", .str w)]) → E (.ref C) (some d) H')
/-- subscripts whose written part is named (within a comprehension) -/
theorem ixK_list {X : Cx} {K : PySem.W.Frag} (h : X.K = K) : IxR X (rIxL K) := h ▸ ix_list
theorem ixK_tup {X : Cx} {K : PySem.W.Frag} (h : X.K = K) : IxR X (rIxT K) := h ▸ ix_tup
/-- a field, the written part named (within a try) -/
theorem pe_fldK {X : Cx} {K : PySem.W.Frag} {e : Expr} {f : Str} {pos : Pos} {ta : TE} (h : X.K = K) (he : PE X e ta) (hb : attributeBase e f X.env (eval e X.env) = eval e X.env) : PE X (.Attribute e f pos) (tFld K ta f) := h ▸ pe_fld he hb
/-! ### own exceptions of one field, and of none -/
def spX1 (C : Addr) (f1 : Str) : Sp := fun vs H Q _ => ∃ (a : Addr) (x : V), vs = [.ref a, x] ∧ H a = some (exo a C none) ∧ ∀ d, H d = none → d ≠ a → Q .non (upd (upd H d (exd d [(f1, x)])) a (exo a C (some d)))
theorem mk1 {C : Addr} {f1 : Str} {H1 : Hp} {x : V} {Q : XK} (h : ∀ d H', H1 d = none → Same H1 H' → H' d = some (.xd [(f1, x)]) → Q (.ref C) (some d) H') :
    ([x] : List V).length ≤ 1000 ∧ ∀ a, H1 a = none → spX1 C f1 (.ref a :: ([x] ++ [])) (upd H1 a (exo a C none)) (fun v H2 => v = .non ∧ ∃ (d : Addr) (fs : List (Str × V)), H2 a = some (exo a C (some d)) ∧ H2 d = some (exd d fs) ∧ H1 d = none ∧ Q (.ref C) (some d) (upd (del H2 a) d (.xd fs))) (fun _ _ _ => False) := by
  refine ⟨by show 1 ≤ 1000; decide, fun a ha => ⟨a, x, rfl, upd_same, fun d hd hda => ⟨rfl, d, _, upd_same, (upd_ne hda).trans upd_same, ?_, ?_⟩⟩⟩
  · rw [upd_ne hda] at hd
    exact hd
  · have hd1 : H1 d = none := by
      rw [upd_ne hda] at hd
      exact hd
    refine h d _ hd1 (fun b o e => ?_) upd_same
    have hba : b ≠ a := ne_of_none e ha
    have hbd : b ≠ d := ne_of_none e hd1
    rw [upd_ne hbd, del_ne hba, upd_ne hba, upd_ne hbd, upd_ne hba]
    exact e
abbrev VEb : List Value := [.type "ValueError", .type "Exception", .type "BaseException", .type "object"]
/-- what the written part says of a class without an own __init__ -/
structure Ex0C (K : PySem.W.Frag) (C : Addr) : Prop where
  q : PySem.W.excIn K C VEb "ValueError.__new__" = true
  kC : PySem.W.keepIn K (.ref C) = true
  exC : PySem.W.subIn K (.ref C) (.type "BaseException") = some true
  tyC : PySem.W.typeIn K (.ref C) = some (.type "type")
/-- C() -/
theorem pmk_own0 {X : Cx} {C : Addr} {x : Str} {p pos : Pos} (T : Ex0C X.K C) (gC : X.mg x = some (.ref C)) (hg : Gl X x) (hdb : (x == ("__debug__" : Str)) = false := by decide) : PMk X (.Call (.Name x p) [] [] pos) (fun _ H Q => Q (.ref C) none H) := by
  intro pins s σ H Q I h
  refine wpAny_Call_Name_kw (ld_glob I hg gC ?_ hdb)
  refine PySem.W.callWith_K0 I.kIn T.kC ?_
  show wpAny _ _ (call (.ref C) []) _ _ _
  obtain ⟨bm, N, nm, qn, bs, hdct, sn, sub, ab, col, dd, k0, k1, k2, k3, k5, mN, hC, hN, hni, tail⟩ := exc_obj I.kIn T.q
  refine wpAny_call_exc_subT PySem.F.excBase_ValueError tail hC hN hni ?_ (Nat.zero_le _)
  intro h' e made
  exact mk_of I made (raises_own T.exC T.tyC) h (I.hok.gone made.new)
/-! ### operators of an own class: x op y, x op int, int op x, !=, str -/
section
variable {prog : Program} {w : World} {A : Around} {E : Value → Shared → Prop} {s : Shared} {K : PySem.W.Frag} {x C f : Addr} {ox : Obj} {od : Option Obj}
theorem bin_declines {nm : String} {g : Int → Int → Sem Fin} {n : Int} {t : Tok} {Q : Fin → Shared → Prop} {R : Value → Shared → Prop} (hs : slotArgs nm 1 ⟨[.int n t, .ref x], []⟩ = pure (.int n t, [.ref x]))
    (hx : s.heap.get? x = some ox) (hp : ∀ v, ox.data ≠ .prim v) (h : Q (.done (.ret .notImplemented)) s) :
    wpAny (model prog w) A (Builtin.Int.intBinary nm g false ⟨[.int n t, .ref x], []⟩) Q R s := by
  unfold Builtin.Int.intBinary
  refine wpAny_bind (wpAny_of_eq (a := ((Value.int n t, [Value.ref x]) : Value × List Value)) hs ?_)
  dsimp only
  unfold Builtin.Int.intOfSelf asInt?
  refine wpAny_bind (wpAny_bind (wpAny_pure ?_))
  dsimp only
  refine wpAny_pure (wpAny_bind ?_)
  show wpAny _ _ (load x >>= _) _ _ _
  refine wpAny_bind (wpAny_load hx ?_)
  have fin : wpAny (model prog w) A (do rule "int.binary.not-an-int"; ret Value.notImplemented) Q R s := wpAny_bind (wpAny_rule (wpAny_pure h))
  cases e : ox.data with
  | prim v => exact absurd e (hp v)
  | _ => exact wpAny_pure fin
/-- int's slot with an instance on the right declines -/
theorem int_try {name : Str} {id nm : String} {g : Int → Int → Sem Fin} {n : Int} {t : Tok} {Q : Value → Shared → Prop} (slot : Slot "int" name id) (entry : entryFor table id = some (Builtin.Int.intBinary nm g false)) (args : argsOk id ⟨[.int n t, .ref x], []⟩)
    (hs : slotArgs nm 1 ⟨[.int n t, .ref x], []⟩ = pure (.int n t, [.ref x])) (hx : s.heap.get? x = some ox) (hp : ∀ v, ox.data ≠ .prim v) (h : Q .notImplemented s) : wpAny (model prog w) A (call (.builtin id) [.int n t, .ref x]) Q E s :=
  GQ.call_here slot (typeIs_int s n t) entry args (bin_declines hs hx hp h)
theorem refl_bin {op : Operator} {id nm : String} {g : Int → Int → Sem Fin} {n : Int} {t : Tok} {fr : Addr} {cd : ClassData} {rest : List Value} {Q : Value → Shared → Prop} (X : K.In s.heap) (I : PySem.W.InstAt s.heap x ox C od)
    (slot : Slot "int" (PySem.dunder op.info.2) id) (entry : entryFor table id = some (Builtin.Int.intBinary nm g false)) (args : argsOk id ⟨[.int n t, .ref x], []⟩) (hs : slotArgs nm 1 ⟨[.int n t, .ref x], []⟩ = pure (.int n t, [.ref x])) (hp : ∀ v, ox.data ≠ .prim v)
    (hfI : fillsNumberSlot (.type "int") op.info.2 = pure true) (hcd : PySem.W.clsIn K C = some cd) (hm : cd.mro = .ref C :: rest) (hf : PySem.W.findIn K (.ref C) (PySem.dunder op.info.2) = some (some (.ref f))) (hsub : PySem.W.subIn K (.ref C) (.type "int") = some false)
    (hr : PySem.W.findIn K (.ref C) (dunderR op.info.2) = some (some (.ref fr))) (hfn : PySem.W.isFn K (.ref fr) = true) (h : wpAny (model prog w) A (call (.ref fr) [.ref x, .int n t]) (PySem.W.CmpBack Q) E s) :
    wpAny (model prog w) A (binaryOp op (.int n t) (.ref x)) Q E s := by
  rcases hi : op.info with ⟨sym, nm'⟩
  rw [hi] at slot hfI hf hr
  dsimp only at slot hfI hf hr
  simp only [binaryOp, hi]
  refine wpAny_holding (wpAny_bind ?_)
  unfold binaryOp1
  have hne : (Value.type "int" == Value.ref C) = false := Bool.eq_false_iff.mpr fun q => by cases beq_iff_eq.mp q
  refine wpAny_bind (wpAny_typeOf (typeIs_int s n t) (wpAny_bind (I.type.here (wpAny_bind (wpAny_of_eq hfI ?_)))))
  simp only [hne, Bool.false_eq_true, if_false]
  refine wpAny_bind ((PySem.W.fills_K X hcd hm hf).here ?_)
  simp only [Bool.and_self, if_true]
  refine wpAny_bind ((PySem.W.looks_subIn X hsub).here ?_)
  have hpy : numberSlotInPython (.type "int") nm' = pure false := rfl
  simp only [Bool.false_eq_true, if_false, pure_bind, Bool.not_false, Bool.and_self, if_true, hpy]
  refine wpAny_bind (wpAny_tryMethod_declines (typeIs_int s n t) slot (int_try slot entry args hs I.1 hp ⟨rfl, ?_⟩))
  refine wpAny_bind (wpAny_mono (PySem.W.ksp_try X I hr hfn h) (fun r s' z => ?_) fun _ _ e => e)
  obtain ⟨v, rfl, hq⟩ := z
  exact wpAny_bind (wpAny_rule (wpAny_pure (wpAny_pure hq)))
end
section
variable {prog : Program} {w : World} {A : Around} {E : Value → Shared → Prop} {s : Shared} {K : PySem.W.Frag} {x C f : Addr} {ox : Obj} {od : Option Obj}
/-- a special method that the class has from object -/
theorem ifBound_slot {M : Model} {name : Str} {id : String} {args : List Value} {Q : Option Value → Shared → Prop} (X : K.In s.heap) (I : PySem.W.InstAt s.heap x ox C od) (S : Slot "object" name id) (hs : PySem.W.findIn K (.ref C) name = some (some (.builtin id)))
    (h : wpAny M A (call (.builtin id) (.ref x :: args)) (fun v => Q (some v)) E s) : wpAny M A (callSpecialIfBound? (.ref x) name args) Q E s := by
  simp only [callSpecialIfBound?, bindSpecialIfBound?]
  refine wpAny_holding (wpAny_bind (wpAny_bind (wpAny_bind (I.type.here ((PySem.W.looks_findIn X hs).here ?_)))))
  simp only [S.bind]
  refine wpAny_bind (wpAny_askSetting (wpAny_ite ?_))
  have fin : wpAny M A (call (.builtin id) ([.ref x] ++ args) >>= fun v => pure (some v)) Q E s := wpAny_bind (wpAny_mono h (fun v s' z => wpAny_pure z) fun _ _ z => z)
  split
  · exact wpAny_bind (wpAny_pure (wpAny_pure fin))
  · exact wpAny_tryCatch (wpAny_bind (wpAny_pure (wpAny_pure fin)))
/-- x != b by the own == -/
theorem own_ne {b tb : Value} {Q : Value → Shared → Prop} (hu : A.units + 1 < cLine) (X : K.In s.heap) (I : PySem.W.InstAt s.heap x ox C od) (hb : PySem.W.Looks (model prog w) s.heap (typeOf b) tb) (hn : PySem.W.notFirst K C tb = true)
    (hne : PySem.W.findIn K (.ref C) "__ne__" = some (some (.builtin "object.__ne__"))) (hm : PySem.W.mroIn K C (.type "object") = some true) (heq : PySem.W.findIn K (.ref C) "__eq__" = some (some (.ref f))) (hf : PySem.W.isFn K (.ref f) = true)
    (h : wpAny (model prog w) A.in1 (call (.ref f) [.ref x, b]) (fun v s' => ∃ r, v = .bool r ∧ Q (.bool (!r)) s') E s) : wpAny (model prog w) A (richCompare .NotEq (.ref x) b) Q E s := by
  have S := PySem.F.cmp_object.ne
  have sub : PySem.W.Looks (model prog w) s.heap (isInstance (.ref x) (.type "object")) true := I.type.andThen (PySem.W.looks_mroIn X hm)
  have inner : wpAny (model prog w) A.in1 (Builtin.«object.__ne__» ⟨[.ref x, b], []⟩) (GQ.FinOf prog w A (wants (fun v s' => ∃ r, v = .bool r ∧ Q (.bool r) s') E)) (fun e s' => wants (fun v s' => ∃ r, v = .bool r ∧ Q (.bool r) s') E (.error e) s') s := by
    unfold Builtin.«object.__ne__»
    refine wpAny_bind (wpAny_of_eq (a := ((Value.ref x, [b]) : Value × List Value)) (by first | rfl | (simp only [slotArgs]; rfl)) ?_)
    dsimp only
    refine wpAny_bind (wpAny_cRoomFor (by show A.units + 1 < cLine; exact hu) ?_)
    refine wpAny_bind (PySem.W.ifBound_K X I heq hf (wpAny_mono h (fun v s' z => ?_) fun _ _ e => e))
    obtain ⟨r, rfl, q⟩ := z
    refine wpAny_bind (wpAny_truthy_bool ?_)
    exact wpAny_pure ⟨!r, rfl, q⟩
  have one : wpAny (model prog w) A (tryCompare (.ref x) "__ne__" b) (fun r s' => ∃ v, r = some (.bool v) ∧ Q (.bool v) s') E s := by
    unfold tryCompare
    have callne : wpAny (model prog w) A (call (.builtin "object.__ne__") [.ref x, b]) (fun v s' => ∃ r, v = .bool r ∧ Q (.bool r) s') E s :=
      wpAny_call (codeAny_call_builtin S.plain PySem.F.cmpEntry_ne (@PySem.W.check_slot (model prog w) _ _ s "object.__ne__" "object" "__ne__" (.ref x) [b] [] _ PySem.F.cmpKind_ne PySem.F.cmpSplit_ne sub (PySem.F.cmpArgs_ne _ _) inner))
    refine wpAny_bind (ifBound_slot X I S hne (wpAny_mono callne (fun v s' z => ?_) fun _ _ e => e))
    obtain ⟨r, rfl, q⟩ := z
    exact wpAny_pure ⟨r, rfl, q⟩
  unfold richCompare
  simp only [oneThing_ref]
  refine wpAny_holding (wpAny_bind (wpAny_cRoomFor (Nat.lt_of_succ_lt hu) ?_))
  refine wpAny_bind (I.type.here (wpAny_bind (hb.here ?_)))
  split
  · rename_i q
    have e : PySem.W.subIn K tb (.ref C) = some false := by
      rcases Bool.or_eq_true_iff.mp hn with e | e
      · rw [beq_iff_eq.mp e] at q; simp at q
      · exact beq_iff_eq.mp e
    refine wpAny_bind ((PySem.W.looks_subIn X e).here ?_)
    simp only [Bool.false_eq_true, if_false]
    refine wpAny_bind (wpAny_mono one (fun r s' z => ?_) fun _ _ e => e)
    obtain ⟨v, rfl, hq⟩ := z
    exact wpAny_pure hq
  · refine wpAny_bind (wpAny_pure ?_)
    simp only [Bool.false_eq_true, if_false]
    refine wpAny_bind (wpAny_mono one (fun r s' z => ?_) fun _ _ e => e)
    obtain ⟨v, rfl, hq⟩ := z
    exact wpAny_pure hq
end
/-! ### the same over the layer -/
section
variable {X : Cx} {CX : CXT} {k : Nat} {f C : Addr} {fd : FuncData} {ps : List Str} {sp : Sp} {E : XK} {pins : List (Addr × Obj)} {σ : L2.St} {H : Hp} {s : Shared}
/-- a def runs, at whatever depth -/
theorem run_deep {A : Around} {Q : VK} {us : List Value} {vs : List V} (F : FnOk X.prog X.w X.K X.mg X.base CX k f fd ps sp) (hr : Room k A) (e0 : Env0 X.prog X.w X.K X.mg X.base A X.stack s H) (hb : Binds X.K fd ps []) (hx : Passes CX X E)
    (I : Inv X pins σ H s) (r : Vals vs us) (h : sp vs H Q E) : wpAny (model X.prog X.w) A (call (.ref f) us) (EP X pins σ Q) X.xe s := by
  have hl : (us ++ []).length = ps.length := by rw [List.append_nil, ← r.length]; exact F.len _ _ _ _ h
  have hbind := hb s us I.kIn hl
  rw [List.append_nil] at hbind
  refine wpAny_call (codeAny_mono (F.run A X.stack s H ⟨us, []⟩ us vs Q E hr e0 hbind r h) fun r s' hq => ?_)
  cases r with
  | error e => exact hx pins σ H s e s' I hq
  | ok fl =>
    cases fl with
    | ret u => exact I.after hq
    | next => exact False.elim hq
    | brk => exact False.elim hq
    | cont => exact False.elim hq
theorem back_of {P : Value → Shared → Prop} {z : V} {v : Value} {s' : Shared} (r : RelV z v) (h : P v s') : PySem.W.CmpBack P v s' := by
  cases z with
  | non => cases (show v = Value.none from r); exact h
  | bl b => cases (show v = Value.bool b from r); exact h
  | ref a => cases (show v = Value.ref a from r); exact h
  | ty n => cases (show v = Value.type n from r); exact h
  | int i => obtain ⟨t, e⟩ := (show ∃ t, v = Value.int i t from r); cases e; exact h
  | str x => obtain ⟨t, e⟩ := (show ∃ t, v = Value.str x t from r); cases e; exact h
  | byt b => obtain ⟨t, e⟩ := (show ∃ t, v = Value.bytes b t from r); cases e; exact h
  | flt b => obtain ⟨t, e⟩ := (show ∃ t, v = Value.float b t from r); cases e; exact h
theorem inst_of (I : Inv X pins σ H s) {a dx : Addr} {fs : List (Str × V)} (h : H a = some (.ins C dx fs)) : ∃ od, PySem.W.InstAt s.heap a (PySem.W.instObj C dx) C (some od) := by
  obtain ⟨mA, J, _⟩ := ins_get I.hok h
  obtain ⟨od, J, _⟩ := J.look
  exact ⟨od, J⟩
/-- an instance of the class at C -/
def IsC (C : Addr) (H : Hp) (y : V) : Prop := ∃ a dx fs, y = .ref a ∧ H a = some (.ins C dx fs)
/-- what the operators ask of the class -/
structure OpC (K : PySem.W.Frag) (C : Addr) : Prop where
  first : PySem.W.selfFirst K C = true
  cls : ∃ cd rest, PySem.W.clsIn K C = some cd ∧ cd.mro = .ref C :: rest
  noInt : PySem.W.subIn K (.ref C) (.type "int") = some false
  intNo : PySem.W.subIn K (.type "int") (.ref C) = some false
  ne : PySem.W.findIn K (.ref C) "__ne__" = some (some (.builtin "object.__ne__"))
  ob : PySem.W.mroIn K C (.type "object") = some true
/-- x op y, both of C -/
def rOwnB (C : Addr) (sp : Sp) (E : XK) : R2 := fun x y H Q => IsC C H x ∧ IsC C H y ∧ sp [x, y] H Q E
theorem op_ownB {op : Operator} (T : OpC X.K C) (hs : PySem.W.findIn X.K (.ref C) (PySem.dunder op.info.2) = some (some (.ref f))) (hf : PySem.W.isFn X.K (.ref f) = true) (F : FnOk X.prog X.w X.K X.mg X.base CX k f fd ps sp) (hr : Room k X.A) (hb : Binds X.K fd ps []) (hx : Passes CX X E) :
    OpR X (binaryOp op) (rOwnB C sp E) := by
  intro pins s σ H x y v u Q I rx ry h
  obtain ⟨⟨a, dx, fs, rfl, ha⟩, ⟨b, dy, gs, rfl, hb'⟩, q⟩ := h
  cases (show v = Value.ref a from rx)
  cases (show u = Value.ref b from ry)
  obtain ⟨oa, J⟩ := inst_of I ha
  obtain ⟨ob, J'⟩ := inst_of I hb'
  obtain ⟨m, hF⟩ := I.fr
  refine PySem.W.binop_K hF I.ok.mod.kin J J'.type T.first hs hf (wpAny_mono (run_deep (vs := [.ref a, .ref b]) F hr I.env0 hb hx I (.cons rfl (.cons rfl .nil)) q) (fun w s' z => ?_) fun _ _ x => x)
  obtain ⟨z', H', I', rz, qz⟩ := z
  exact back_of rz ⟨z', H', I', rz, qz⟩
/-- x op n, n an int -/
def rOwnI (C : Addr) (sp : Sp) (E : XK) : R2 := fun x y H Q => IsC C H x ∧ (∃ n, y = .int n) ∧ sp [x, y] H Q E
theorem op_ownI {op : Operator} {fo ro rc : Option Value} (T : OpC X.K C) (hs : PySem.W.findIn X.K (.ref C) (PySem.dunder op.info.2) = some (some (.ref f))) (hf : PySem.W.isFn X.K (.ref f) = true) (hr' : PySem.W.findIn X.K (.ref C) (dunderR op.info.2) = some rc) (hp : rc = none ∨ ∃ g : Addr, rc = some (.ref g))
    (h1 : PySem.W.findIn X.K (.type "int") (PySem.dunder op.info.2) = some fo) (h2 : PySem.W.findIn X.K (.type "int") (dunderR op.info.2) = some ro)
    (F : FnOk X.prog X.w X.K X.mg X.base CX k f fd ps sp) (hr : Room k X.A) (hb : Binds X.K fd ps []) (hx : Passes CX X E) : OpR X (binaryOp op) (rOwnI C sp E) := by
  intro pins s σ H x y v u Q I rx ry h
  obtain ⟨⟨a, dx, fs, rfl, ha⟩, ⟨n, rfl⟩, q⟩ := h
  cases (show v = Value.ref a from rx)
  obtain ⟨t, rfl⟩ := (show ∃ t, u = Value.int n t from ry)
  obtain ⟨oa, J⟩ := inst_of I ha
  obtain ⟨m, hF⟩ := I.fr
  refine PySem.W.ksp_binT (T := "int") hF I.ok.mod.kin J rfl T.first hs hf hr' hp h1 h2 T.intNo (wpAny_mono (run_deep (vs := [.ref a, .int n]) F hr I.env0 hb hx I (.cons rfl (.cons ⟨t, rfl⟩ .nil)) q) (fun w s' z => ?_) fun _ _ x => x)
  obtain ⟨z', H', I', rz, qz⟩ := z
  exact back_of rz ⟨z', H', I', rz, qz⟩
/-- n op x, n an int: the reflected method -/
def rOwnR (C : Addr) (sp : Sp) (E : XK) : R2 := fun x y H Q => (∃ n, x = .int n) ∧ IsC C H y ∧ sp [y, x] H Q E
theorem op_ownR {op : Operator} {id nm : String} {g : Int → Int → Sem Fin} {fl : Addr} (T : OpC X.K C) (slot : Slot "int" (PySem.dunder op.info.2) id) (entry : entryFor table id = some (Builtin.Int.intBinary nm g false)) (args : ∀ a b : Value, argsOk id ⟨[a, b], []⟩)
    (hsl : ∀ (n : Int) (t : Tok) (x : Addr), slotArgs nm 1 ⟨[.int n t, .ref x], []⟩ = pure (.int n t, [.ref x])) (hfI : fillsNumberSlot (.type "int") op.info.2 = pure true) (hl : PySem.W.findIn X.K (.ref C) (PySem.dunder op.info.2) = some (some (.ref fl)))
    (hs : PySem.W.findIn X.K (.ref C) (dunderR op.info.2) = some (some (.ref f))) (hf : PySem.W.isFn X.K (.ref f) = true)
    (F : FnOk X.prog X.w X.K X.mg X.base CX k f fd ps sp) (hr : Room k X.A) (hb : Binds X.K fd ps []) (hx : Passes CX X E) : OpR X (binaryOp op) (rOwnR C sp E) := by
  intro pins s σ H x y v u Q I rx ry h
  obtain ⟨⟨n, rfl⟩, ⟨a, dx, fs, rfl, ha⟩, q⟩ := h
  cases (show u = Value.ref a from ry)
  obtain ⟨t, rfl⟩ := (show ∃ t, v = Value.int n t from rx)
  obtain ⟨oa, J⟩ := inst_of I ha
  obtain ⟨cd, rest, hcd, hm⟩ := T.cls
  refine refl_bin I.kIn J slot entry (args _ _) (hsl n t a) (fun v z => nomatch z) hfI hcd hm hl T.noInt hs hf (wpAny_mono (run_deep (vs := [.ref a, .int n]) F hr I.env0 hb hx I (.cons rfl (.cons ⟨t, rfl⟩ .nil)) q) (fun w s' z => ?_) fun _ _ x => x)
  obtain ⟨z', H', I', rz, qz⟩ := z
  exact back_of rz ⟨z', H', I', rz, qz⟩
/-- x op y by the own comparison, y of a known type -/
def rOwnC (K : PySem.W.Frag) (C : Addr) (sp : Sp) (E : XK) : R2 := fun x y H Q => IsC C H x ∧ (∃ t, TyX K H y t ∧ PySem.W.notFirst K C t = true) ∧ sp [x, y] H Q E
theorem op_ownC {op : CmpOp} (hop : ∀ a b, compareOp op a b = richCompare op a b) (hs : PySem.W.findIn X.K (.ref C) (cmpInfo op).2.1 = some (some (.ref f))) (hf : PySem.W.isFn X.K (.ref f) = true)
    (F : FnOk X.prog X.w X.K X.mg X.base CX k f fd ps sp) (hr : Room k X.A) (hb : Binds X.K fd ps []) (hx : Passes CX X E) : OpR X (compareOp op) (rOwnC X.K C sp E) := by
  intro pins s σ H x y v u Q I rx ry h
  obtain ⟨⟨a, dx, fs, rfl, ha⟩, ⟨ty, hty, hn⟩, q⟩ := h
  cases (show v = Value.ref a from rx)
  obtain ⟨oa, J⟩ := inst_of I ha
  obtain ⟨m, hF⟩ := I.fr
  obtain ⟨Pk, Z, p, _⟩ := kit_of I ry hty
  rw [hop]
  refine PySem.W.cmp_K (op := op) hr.units0 hF I.ok.mod.kin J (Z.ty _ _ I.kIn p) hn hs hf (wpAny_mono (run_deep (vs := [.ref a, y]) F hr I.env0 hb hx I (.cons rfl (.cons ry .nil)) q) (fun w s' z => ?_) fun _ _ x => x)
  obtain ⟨z', H', I', rz, qz⟩ := z
  exact back_of rz ⟨z', H', I', rz, qz⟩
/-- x != y by the own == -/
def rOwnNe (K : PySem.W.Frag) (C : Addr) (sp : Sp) (E : XK) : R2 := fun x y H Q => IsC C H x ∧ (∃ t, TyX K H y t ∧ PySem.W.notFirst K C t = true) ∧ sp [x, y] H (fun z H' => ∃ r, z = .bl r ∧ Q (.bl (!r)) H') E
theorem op_ownNe (T : OpC X.K C) (hs : PySem.W.findIn X.K (.ref C) "__eq__" = some (some (.ref f))) (hf : PySem.W.isFn X.K (.ref f) = true)
    (F : FnOk X.prog X.w X.K X.mg X.base CX k f fd ps sp) (hr : Room (k + 1) X.A) (hb : Binds X.K fd ps []) (hx : Passes CX X E) : OpR X (compareOp .NotEq) (rOwnNe X.K C sp E) := by
  intro pins s σ H x y v u Q I rx ry h
  obtain ⟨⟨a, dx, fs, rfl, ha⟩, ⟨ty, hty, hn⟩, q⟩ := h
  cases (show v = Value.ref a from rx)
  obtain ⟨oa, J⟩ := inst_of I ha
  obtain ⟨Pk, Z, p, _⟩ := kit_of I ry hty
  show wpAny _ _ (richCompare .NotEq (.ref a) u) _ _ _
  refine own_ne (by have := hr.units; omega) I.kIn J (Z.ty _ _ I.kIn p) hn T.ne T.ob hs hf (wpAny_mono (run_deep (vs := [.ref a, y]) F (Room.in1 hr) I.env0.in1 hb hx I (.cons rfl (.cons ry .nil)) q) (fun w s' z => ?_) fun _ _ x => x)
  obtain ⟨z', H', I', rz, r, rfl, qz⟩ := z
  cases (show w = Value.bool r from rz)
  exact ⟨r, rfl, .bl (!r), H', I', rfl, qz⟩
end
theorem notFirst_of {K : PySem.W.Frag} {C : Addr} {t : Value} (h : PySem.W.subIn K t (.ref C) = some false) : PySem.W.notFirst K C t = true := by simp [PySem.W.notFirst, h]
/-! ### instances of an own class; exceptions that pass -/
structure InsC (K : PySem.W.Frag) (C : Addr) : Prop where
  cl : Cls K C
  ha : PySem.W.findIn K (.ref C) "__class__" = some (some (.builtin "object.__class__"))
  hn : PySem.W.specialIn K (.builtin "object.__class__") "__get__" = some (some (.builtin "getset_descriptor.__get__"))
  ht : PySem.W.takesIn K (.builtin "object.__class__") = some true
  hm : PySem.W.mroIn K C (.type "object") = some true
theorem InsC.ty {K : PySem.W.Frag} {C : Addr} (T : InsC K C) {H : Hp} {a dx : Addr} {fs : List (Str × V)} (e : H a = some (.ins C dx fs)) : TyX K H (.ref a) (.ref C) := .base (.ins e T.cl T.ha T.hn T.ht T.hm)
/-! ### ratios: the mathematics -/
/-- p / q is O / U in lowest terms -/
structure Nf (O U p q : Int) : Prop where
  pos : 0 < q
  cop : Nat.gcd p.natAbs q.natAbs = 1
  eq : p * U = O * q
  le1 : p.natAbs ≤ O.natAbs
  le2 : q.natAbs ≤ U.natAbs
theorem nf_make {O U : Int} (hU : U ≠ 0) {d : Int} (hd : d = if U < 0 then -((Nat.gcd O.natAbs U.natAbs : Nat) : Int) else ((Nat.gcd O.natAbs U.natAbs : Nat) : Int)) : d ≠ 0 ∧ d.natAbs ≤ U.natAbs ∧ Nf O U (O.fdiv d) (U.fdiv d) := by
  have hg : 0 < Nat.gcd O.natAbs U.natAbs := Nat.gcd_pos_of_pos_right _ (Int.natAbs_pos.mpr hU)
  have hgle : Nat.gcd O.natAbs U.natAbs ≤ U.natAbs := Nat.gcd_le_right _ (Int.natAbs_pos.mpr hU)
  generalize hgg : Nat.gcd O.natAbs U.natAbs = g at hd hg hgle
  have hd0 : d ≠ 0 := by
    rw [hd]
    split <;> omega
  have hda : d.natAbs = g := by
    rw [hd]
    split <;> omega
  have dO : d ∣ O := by
    rw [← Int.natAbs_dvd_natAbs, hda, ← hgg]
    exact Nat.gcd_dvd_left _ _
  have dU : d ∣ U := by
    rw [← Int.natAbs_dvd_natAbs, hda, ← hgg]
    exact Nat.gcd_dvd_right _ _
  obtain ⟨o, rfl⟩ := dO
  obtain ⟨u, rfl⟩ := dU
  rw [Int.mul_fdiv_cancel_left _ hd0, Int.mul_fdiv_cancel_left _ hd0]
  have ho : (d * o).natAbs = g * o.natAbs := by rw [Int.natAbs_mul, hda]
  have hu : (d * u).natAbs = g * u.natAbs := by rw [Int.natAbs_mul, hda]
  refine ⟨hd0, by omega, ?_, ?_, ?_, ?_, ?_⟩
  · have hu0 : u ≠ 0 := fun z => hU (by rw [z, Int.mul_zero])
    by_cases hn : d * u < 0
    · rw [if_pos hn] at hd
      have hdn : d < 0 := by omega
      by_cases h : 0 < u
      · exact h
      · have : 0 ≤ d * u := Int.mul_nonneg_of_nonpos_of_nonpos (by omega) (by omega)
        omega
    · rw [if_neg hn] at hd
      have hdp : 0 < d := by omega
      by_cases h : 0 < u
      · exact h
      · have : d * u ≤ 0 := Int.mul_nonpos_of_nonneg_of_nonpos (by omega) (by omega)
        have : d * u ≠ 0 := hU
        omega
  · rw [ho, hu, Nat.gcd_mul_left] at hgg
    exact Nat.eq_of_mul_eq_mul_left hg (by omega)
  · grind
  · rw [ho]
    exact Nat.le_mul_of_pos_left _ hg
  · rw [hu]
    exact Nat.le_mul_of_pos_left _ hg
theorem cross_unique {p q p' q' : Int} (h : 0 < q) (h' : 0 < q') (c : Nat.gcd p.natAbs q.natAbs = 1) (c' : Nat.gcd p'.natAbs q'.natAbs = 1) (e : p * q' = p' * q) : p = p' ∧ q = q' := by
  have e2 : p.natAbs * q'.natAbs = p'.natAbs * q.natAbs := by rw [← Int.natAbs_mul, ← Int.natAbs_mul, e]
  have d1 : q.natAbs ∣ q'.natAbs := Nat.Coprime.dvd_of_dvd_mul_left (k := q.natAbs) (m := p.natAbs) (n := q'.natAbs) (by rw [Nat.Coprime, Nat.gcd_comm]; exact c) ⟨p'.natAbs, by rw [e2, Nat.mul_comm]⟩
  have d2 : q'.natAbs ∣ q.natAbs := Nat.Coprime.dvd_of_dvd_mul_left (k := q'.natAbs) (m := p'.natAbs) (n := q.natAbs) (by rw [Nat.Coprime, Nat.gcd_comm]; exact c') ⟨p.natAbs, by rw [← e2, Nat.mul_comm]⟩
  have eq : q.natAbs = q'.natAbs := Nat.dvd_antisymm d1 d2
  have eq2 : q = q' := by omega
  subst eq2
  exact ⟨Int.eq_of_mul_eq_mul_right (by omega) e, rfl⟩
theorem Nf.unique {O U p q p' q' : Int} (hU : U ≠ 0) (h : Nf O U p q) (h' : Nf O U p' q') : p = p' ∧ q = q' := by
  refine cross_unique h.pos h'.pos h.cop h'.cop (Int.eq_of_mul_eq_mul_right hU ?_)
  have e1 := h.eq
  have e2 := h'.eq
  grind
theorem nf_self {p q : Int} (h : 0 < q) (c : Nat.gcd p.natAbs q.natAbs = 1) : Nf p q p q := ⟨h, c, rfl, Nat.le_refl _, Nat.le_refl _⟩
theorem gcd_one (n : Int) : Nat.gcd n.natAbs (1 : Int).natAbs = 1 := Nat.gcd_one_right _
/-! ### ratios: the objects -/
theorem op_fdivZ {X : Cx} : OpR X (binaryOp .FloorDiv) (rI (fun _ j => j ≠ 0 ∧ j.natAbs.log2 < 9000) fun i j => .int (i.fdiv j)) := opI fun _ _ _ _ _ _ _ hc q => floordiv_int hc.1 q (.inl (PyProof.noPylong_of_log2 hc.2))
theorem ou : ¬ (("over" : Str) = "under") := by decide +kernel
def rfR (p q : Int) : List (Str × V) := putF "under" (.int q) (putF "over" (.int p) [])
theorem rfR_eq (p q : Int) : rfR p q = ([("over", V.int p), ("under", V.int q)] : List (Str × V)) := by
  show (if ("over" : Str) = "under" then [(("over" : Str), V.int q)] else (("over" : Str), V.int p) :: putF "under" (V.int q) []) = ([("over", V.int p), ("under", V.int q)] : List (Str × V))
  rw [if_neg ou]
  all_goals rfl
theorem rfR_over (p q : Int) : (rfR p q).lookup ("over" : Str) = some (.int p) := by
  unfold rfR
  rw [lookup_putF, if_neg ou, lookup_putF, if_pos rfl]
theorem rfR_under (p q : Int) : (rfR p q).lookup ("under" : Str) = some (.int q) := by
  unfold rfR
  rw [lookup_putF, if_pos rfl]
theorem rfR_no (p q : Int) {m : Str} (h1 : ¬ m = "under") (h2 : ¬ m = "over") : (rfR p q).lookup m = none := by
  unfold rfR
  rw [lookup_putF, if_neg h1, lookup_putF, if_neg h2]
  all_goals rfl
/-- v is a ratio, p / q in lowest terms -/
structure Rat (C : Addr) (H : Hp) (v : V) (p q : Int) : Prop where
  at_ : ∃ a dx, v = .ref a ∧ H a = some (.ins C dx (rfR p q))
  pos : 0 < q
  cop : Nat.gcd p.natAbs q.natAbs = 1
theorem Rat.same {C : Addr} {H H' : Hp} {v : V} {p q : Int} (R : Rat C H v p q) (e : Same H H') : Rat C H' v p q := by
  obtain ⟨⟨a, dx, rfl, h⟩, h1, h2⟩ := R
  exact ⟨⟨a, dx, rfl, e _ _ h⟩, h1, h2⟩
theorem Rat.isC {C : Addr} {H : Hp} {v : V} {p q : Int} (R : Rat C H v p q) : IsC C H v := by
  obtain ⟨⟨a, dx, rfl, h⟩, _⟩ := R
  exact ⟨a, dx, _, rfl, h⟩
theorem Rat.ty {K : PySem.W.Frag} {C : Addr} {H : Hp} {v : V} {p q : Int} (R : Rat C H v p q) (T : InsC K C) : TyX K H v (.ref C) := by
  obtain ⟨⟨a, dx, rfl, h⟩, _⟩ := R
  exact T.ty h
theorem Rat.inj {C : Addr} {H : Hp} {v : V} {p q p' q' : Int} (R : Rat C H v p q) (R' : Rat C H v p' q') : p = p' ∧ q = q' := by
  obtain ⟨⟨a, dx, rfl, h⟩, _⟩ := R
  obtain ⟨⟨b, dy, e, h'⟩, _⟩ := R'
  cases e
  rw [h] at h'
  have e : rfR p q = rfR p' q' := by
    injection h' with h'
    injection h'
  rw [rfR_eq, rfR_eq] at e
  simp at e
  exact e
/-- a ratio, or an int that counts as one -/
inductive Num (C : Addr) (H : Hp) : V → Int → Int → Prop where
  | rat {v : V} {p q : Int} (R : Rat C H v p q) : Num C H v p q
  | int (n : Int) : Num C H (.int n) n 1
theorem Num.pos {C : Addr} {H : Hp} {v : V} {p q : Int} (N : Num C H v p q) : 0 < q := by
  cases N with
  | rat R => exact R.pos
  | int => decide
theorem log2_le {a b : Int} {n : Nat} (h : a.natAbs ≤ b.natAbs) (ha : a ≠ 0) (hb : b.natAbs.log2 < n) : a.natAbs.log2 < n := by
  have ha' : a.natAbs ≠ 0 := fun z => ha (Int.natAbs_eq_zero.mp z)
  have hb' : b.natAbs ≠ 0 := fun z => ha' (by omega)
  exact (Nat.log2_lt ha').mpr (Nat.lt_of_le_of_lt h ((Nat.log2_lt hb').mp hb))
/-- sizes: terms of at most n bits -/
def Sz (n : Nat) (p q : Int) : Prop := p.natAbs < 2 ^ n ∧ q.natAbs < 2 ^ n
theorem Sz.mono {n m : Nat} {p q : Int} (h : Sz n p q) (l : n ≤ m) : Sz m p q := ⟨Nat.lt_of_lt_of_le h.1 (Nat.pow_le_pow_right (by decide) l), Nat.lt_of_lt_of_le h.2 (Nat.pow_le_pow_right (by decide) l)⟩
theorem pow_two_succ (n : Nat) : 2 ^ n + 2 ^ n = 2 ^ (n + 1) := by rw [Nat.pow_succ]; omega
theorem sz_add {a b c d : Int} {n : Nat} (ha : a.natAbs < 2 ^ n) (hb : b.natAbs < 2 ^ n) (hc : c.natAbs < 2 ^ n) (hd : d.natAbs < 2 ^ n) : (a * b + c * d).natAbs < 2 ^ (n + n + 1) := by
  have h1 := wide_lt ha hb
  have h2 := wide_lt hc hd
  have := pow_two_succ (n + n)
  omega
theorem sz_sub {a b c d : Int} {n : Nat} (ha : a.natAbs < 2 ^ n) (hb : b.natAbs < 2 ^ n) (hc : c.natAbs < 2 ^ n) (hd : d.natAbs < 2 ^ n) : (a * b - c * d).natAbs < 2 ^ (n + n + 1) := by
  have h1 := wide_lt ha hb
  have h2 := wide_lt hc hd
  have := pow_two_succ (n + n)
  omega
theorem sz_log {a : Int} {n : Nat} (h : a.natAbs < 2 ^ n) (h0 : 0 < n) (h1 : n ≤ 9000) : a.natAbs.log2 < 9000 := Nat.lt_of_lt_of_le (PySem.Flt.log2_lt_of h0 h) h1
theorem sz_mul {a b : Int} {n : Nat} (ha : a.natAbs < 2 ^ n) (hb : b.natAbs < 2 ^ n) (h0 : 0 < n) (h1 : n ≤ 4000) : CMulW a b := wide_mul ha hb h0 h0 (by omega)
/-- what is wrong with the terms of a ratio, and how it is told -/
def BadR (x y : V) (w : Str) (z : V) : Prop := (isInt x = false ∧ w = "over" ∧ z = x) ∨ (isInt x = true ∧ isInt y = false ∧ w = "under" ∧ z = y) ∨ (isInt x = true ∧ y = .int 0 ∧ w = "under" ∧ z = .int 0)
def spInit (K : PySem.W.Frag) (C CB : Addr) : Sp := fun vs H Q E => ∃ (a dx : Addr) (x y : V), vs = [.ref a, x, y] ∧ H a = some (.ins C dx []) ∧ Kn K H x ∧ Kn K H y ∧
  (∀ O U, x = .int O → y = .int U → U ≠ 0 → U.natAbs.log2 < 9000 ∧ ∀ p q H', Nf O U p q → H' a = some (.ins C dx (rfR p q)) → (∀ b o, H b = some o → b ≠ a → H' b = some o) → Q .non H') ∧
  (∀ w z, BadR x y w z → ∀ d H', H d = none → Same H H' → H' d = some (.xd [("value", z), ("what", .str w)]) → E (.ref CB) (some d) H')
/-- a made ratio, from the terms' own use -/
theorem mk_ratio {K : PySem.W.Frag} {C CB : Addr} {H : Hp} {O U : Int} {Q : Addr → Hp → Prop} {E : XK} (hU : U ≠ 0) (hz : U.natAbs.log2 < 9000) (h : ∀ a p q H', Same H H' → Rat C H' (.ref a) p q → Nf O U p q → Q a H') :
    ∀ x dx, H x = none → H dx = none → dx ≠ x → spInit K C CB (.ref x :: ([.int O, .int U] ++ [])) (upd (upd H dx (.own x)) x (.ins C dx [])) (fun v H2 => v = .non ∧ Q x H2) E := by
  intro x dx nx nd ne
  refine ⟨x, dx, .int O, .int U, rfl, upd_same, kn_int O, kn_int U, fun O' U' e1 e2 _ => ?_, fun w z hb => ?_⟩
  · cases e1
    cases e2
    exact ⟨hz, fun p q H' nf ha k => ⟨rfl, h x p q H' (Same.made nx nd k) ⟨⟨x, dx, rfl, ha⟩, nf.pos, nf.cop⟩ nf⟩⟩
  · rcases hb with ⟨e, _⟩ | ⟨_, e, _⟩ | ⟨_, e, _⟩
    · cases e
    · cases e
    · cases e
      exact absurd rfl hU
/-- C(n): with the default under -/
theorem mk_ratio1 {K : PySem.W.Frag} {C CB : Addr} {H : Hp} {O : Int} {Q : Addr → Hp → Prop} {E : XK} (h : ∀ a H', Same H H' → Rat C H' (.ref a) O 1 → Q a H') :
    ∀ x dx, H x = none → H dx = none → dx ≠ x → spInit K C CB (.ref x :: ([.int O] ++ [.int 1])) (upd (upd H dx (.own x)) x (.ins C dx [])) (fun v H2 => v = .non ∧ Q x H2) E :=
  mk_ratio (U := 1) (by decide) (by decide) fun a p q H' sm R nf => by
    obtain ⟨rfl, rfl⟩ := nf.unique (by decide) (nf_self (by decide) (gcd_one O))
    exact h a H' sm R
def spRatioOf (C : Addr) : Sp := fun vs H Q _ => ∃ (x : V) (p q : Int), vs = [x] ∧ Num C H x p q ∧ ∀ r H', Same H H' → Rat C H' r p q → Q r H'
/-- a method with a ratio and a number: the ratio fO / fU -/
def spArith (C : Addr) (fO fU : Int → Int → Int → Int → Int) : Sp := fun vs H Q _ => ∃ (x y : V) (p1 q1 p2 q2 : Int) (n : Nat), vs = [x, y] ∧ Rat C H x p1 q1 ∧ Num C H y p2 q2 ∧ Sz n p1 q1 ∧ Sz n p2 q2 ∧ 0 < n ∧ n ≤ 4000 ∧
  ∀ r p q H', Same H H' → Rat C H' r p q → Nf (fO p1 q1 p2 q2) (fU p1 q1 p2 q2) p q → Q r H'
/-- a comparison -/
def spOrd (C : Addr) (f : Int → Int → Bool) : Sp := fun vs H Q _ => ∃ (x y : V) (p1 q1 p2 q2 : Int) (n : Nat), vs = [x, y] ∧ Rat C H x p1 q1 ∧ Num C H y p2 q2 ∧ Sz n p1 q1 ∧ Sz n p2 q2 ∧ 0 < n ∧ n ≤ 4000 ∧
  ∀ H', Same H H' → Q (.bl (f (p1 * q2) (p2 * q1))) H'
/-- == -/
def spEqR (K : PySem.W.Frag) (C : Addr) : Sp := fun vs H Q _ => ∃ (x y : V) (p q : Int), vs = [x, y] ∧ Rat C H x p q ∧
  ((∃ p' q', Rat C H y p' q' ∧ Q (.bl (decide (p = p') && decide (q = q'))) H) ∨ (∃ t, TyX K H y t ∧ PySem.W.kitOne K t (.ref C) = some false ∧ Q (.bl false) H))
theorem slotargs_add (n : Int) (t : Tok) (x : Addr) : slotArgs "__add__" 1 ⟨[.int n t, .ref x], []⟩ = pure (.int n t, [.ref x]) := by first | rfl | (simp only [slotArgs]; rfl)
theorem slotargs_sub (n : Int) (t : Tok) (x : Addr) : slotArgs "__sub__" 1 ⟨[.int n t, .ref x], []⟩ = pure (.int n t, [.ref x]) := by first | rfl | (simp only [slotArgs]; rfl)
/-- the same with an int on the right -/
def spArithI (C : Addr) (fO fU : Int → Int → Int → Int → Int) : Sp := fun vs H Q E => ∃ n : Int, vs[1]? = some (.int n) ∧ spArith C fO fU vs H Q E
def spDiv (C CB : Addr) : Sp := fun vs H Q E => ∃ (x y : V) (p1 q1 p2 q2 : Int) (n : Nat), vs = [x, y] ∧ Rat C H x p1 q1 ∧ Num C H y p2 q2 ∧ Sz n p1 q1 ∧ Sz n p2 q2 ∧ 0 < n ∧ n ≤ 4000 ∧
  (p2 ≠ 0 → ∀ r p q H', Same H H' → Rat C H' r p q → Nf (p1 * q2) (q1 * p2) p q → Q r H') ∧
  (p2 = 0 → ∀ d H', H d = none → Same H H' → H' d = some (.xd [("value", .int 0), ("what", .str "under")]) → E (.ref CB) (some d) H')
/-- a made ratio that may be refused for its under -/
theorem mk_ratioE {K : PySem.W.Frag} {C CB : Addr} {H : Hp} {O U : Int} {Q : Addr → Hp → Prop} {E : XK} (hz : U.natAbs.log2 < 9000) (h : U ≠ 0 → ∀ a p q H', Same H H' → Rat C H' (.ref a) p q → Nf O U p q → Q a H')
    (he : U = 0 → ∀ d H', H d = none → Same H H' → H' d = some (.xd [("value", .int 0), ("what", .str "under")]) → E (.ref CB) (some d) H') :
    ∀ x dx, H x = none → H dx = none → dx ≠ x → spInit K C CB (.ref x :: ([.int O, .int U] ++ [])) (upd (upd H dx (.own x)) x (.ins C dx [])) (fun v H2 => v = .non ∧ Q x H2) E := by
  intro x dx nx nd ne
  refine ⟨x, dx, .int O, .int U, rfl, upd_same, kn_int O, kn_int U, fun O' U' e1 e2 hU => ?_, fun w z hb d H' hd sm hx => ?_⟩
  · cases e1
    cases e2
    exact ⟨hz, fun p q H' nf ha k => ⟨rfl, h hU x p q H' (Same.made nx nd k) ⟨⟨x, dx, rfl, ha⟩, nf.pos, nf.cop⟩ nf⟩⟩
  · rcases hb with ⟨e, _⟩ | ⟨_, e, _⟩ | ⟨_, e, rfl, rfl⟩
    · cases e
    · cases e
    · cases e
      have s0 : Same H (upd (upd H dx (.own x)) x (.ins C dx [])) := fun b o e => by
        rw [upd_ne (ne_of_none e nx), upd_ne (ne_of_none e nd)]
        exact e
      exact he rfl d H' (s0.free hd) (s0.trans sm) hx
/-! ### rational numbers: v is the fraction O / U, its terms below 2 ^ n -/
def Rp (C : Addr) (H : Hp) (v : V) (O U : Int) (n : Nat) : Prop := ∃ p q, Rat C H v p q ∧ p * U = O * q ∧ U ≠ 0 ∧ Sz n p q ∧ 0 < n
section
variable {K : PySem.W.Frag} {C CB : Addr} {H : Hp} {x y : V} {O1 U1 O2 U2 : Int} {n m : Nat} {Q : VK}
end
/-! ### lists and tuples: walks, comprehensions -/
/-- a list or a tuple -/
def iSeq (K : PySem.W.Frag) (tl : TE) : TI := fun σ H R => tl σ H fun x H1 => ∃ a, x = .ref a ∧ (((∃ xs, SqL K H1 a xs) ∧ R (Itl K a) H1) ∨ ((∃ xs, SqT K H1 a xs) ∧ R (Itt K a) H1))
theorem pi_seq {X : Cx} {tg l : Expr} {tl : TE} (hl : PE X l tl) : PI X tg l (iSeq X.K tl) := by
  constructor
  intro pins s σ H R I h
  refine thn (hl.run pins s σ H _ I h) fun v t ⟨x, Hb, J, rx, a, ex, k⟩ => ?_
  subst ex
  cases rx
  rcases k with ⟨⟨xs, hq⟩, k⟩ | ⟨⟨xs, hq⟩, k⟩
  · obtain ⟨its, -, plc, -⟩ := J.list hq
    refine wpAny_pyIter_list plc.isList ⟨t.heap.objs.size, [t.heap.objs.size], _, _, Hb, rfl, J.kept (t' := t.toks) (fun _ _ e => Heap.get?_push_of_some _ e), turn_list a _, ⟨_, Heap.get?_push_size _ rfl, rfl, rfl⟩, ?_, k⟩
    intro b hb
    obtain rfl : b = t.heap.objs.size := by simpa using hb
    exact J.fpOk (Nat.le_refl _) (J.hok.fresh (Nat.le_refl _))
  · obtain ⟨its, -, plc, -⟩ := J.tuple hq
    refine wpAny_pyIter_tuple (show t.heap.IsTuple a its.toArray from plc) ⟨t.heap.objs.size, [t.heap.objs.size], _, _, Hb, rfl, J.kept (t' := t.toks) (fun _ _ e => Heap.get?_push_of_some _ e), turn_tuple a _, ⟨_, Heap.get?_push_size _ rfl, rfl, rfl⟩, ?_, k⟩
    intro b hb
    obtain rfl : b = t.heap.objs.size := by simpa using hb
    exact J.fpOk (Nat.le_refl _) (J.hok.fresh (Nat.le_refl _))
def rListOf (K : PySem.W.Frag) : List V → Hp → VK → Prop := fun xs H Q => ∃ p ys, xs = [.ref p] ∧ (SqL K H p ys ∨ SqT K H p ys) ∧ ∀ l, H l = none → Q (.ref l) (upd H l (.lst ys))
def rTupOf (K : PySem.W.Frag) : List V → Hp → VK → Prop := fun xs H Q => ∃ p ys, xs = [.ref p] ∧ ((SqL K H p ys ∧ ∀ l, H l = none → Q (.ref l) (upd H l (.tup ys))) ∨ (SqT K H p ys ∧ Q (.ref p) H))
/-! rules whose written part is named (within a comprehension) -/
/-- a number as a test -/
def tInt (ta : TE) : TT := fun σ H Q => ta σ H fun x H' => ∃ i, x = .int i ∧ Q (i != 0) H'
theorem pt_int {X : Cx} {a : Expr} {ta : TE} (ha : PE X a ta) (he : ∀ whole, isTrue a X.env whole = (do let v ← whole; standAt a.pos; holding [v] (truthy v)) := by intro _; rfl) : PT X a (tInt ta) := by
  constructor
  intro pins s σ H Q I h
  refine isTrue_plain (thn (ha.run pins s σ H _ I h) fun v t ⟨x, Hb, J, rx, i, ex, k⟩ => ?_) (he _)
  subst ex
  exact tru_ok pins t σ Hb (.int i) v Q J rx ⟨_, rfl, k⟩
/-- the answer of a sign, by another name -/
theorem opN {g : Int → Int → V} {i j : Int} {z : V} {H : Hp} {Q : VK} (e : g i j = z) (k : Q z H) : rI0 g (.int i) (.int j) H Q := ⟨i, j, rfl, rfl, by show Q (g i j) H; rw [e]; exact k⟩
/-- all but lists stand -/
def SameT (H H' : Hp) : Prop := ∀ b o, H b = some o → (∀ xs, o ≠ .lst xs) → H' b = some o
theorem SameT.trans {H H1 H2 : Hp} (a : SameT H H1) (b : SameT H1 H2) : SameT H H2 := fun c o h n => b c o (a c o h n) n
theorem Same.toT {H H' : Hp} (e : Same H H') : SameT H H' := fun b o h _ => e b o h
theorem sameT_upd {H : Hp} {p : Addr} {xs ys : List V} (h : H p = some (.lst xs)) : SameT H (upd H p (.lst ys)) := fun b o e n => by
  rw [upd_ne (ne_of e h (n xs))]
  exact e
theorem SameT.tup {H H' : Hp} {a : Addr} {xs : List V} (e : SameT H H') (h : H a = some (.tup xs)) : H' a = some (.tup xs) := e _ _ h (fun _ z => nomatch z)
theorem SameT.ins {H H' : Hp} {a C dx : Addr} {fs : List (Str × V)} (e : SameT H H') (h : H a = some (.ins C dx fs)) : H' a = some (.ins C dx fs) := e _ _ h (fun _ z => nomatch z)
theorem SameT.seqT {K : PySem.W.Frag} {H H' : Hp} {a : Addr} {xs : List V} (e : SameT H H') (h : SqT K H a xs) : SqT K H' a xs := by
  rcases h with (h | ⟨o, h⟩) | h
  · exact .inl (.inl (e.tup h))
  · exact .inl (.inr ⟨o, e _ _ h (fun _ z => nomatch z)⟩)
  · exact .inr h
theorem prImp {α β : Type} {F G : α → β → Prop} (h : ∀ a b, F a b → G a b) : ∀ {xs : List α} {ys : List β}, Paired F xs ys → Paired G xs ys
  | _, _, .nil => .nil
  | _, _, .cons a t => .cons (h _ _ a) (prImp h t)
theorem paired_eq {xs ys : List V} (h : Paired (fun a y => y = a) xs ys) : ys = xs := by
  induction h with
  | nil => rfl
  | cons a _ ih => rw [a, ih]
theorem paired_fn {α : Type} {f : α → V} {xs : List α} {ys : List V} (h : Paired (fun a y => y = f a) xs ys) : ys = xs.map f := by
  induction h with
  | nil => rfl
  | cons a _ ih => rw [a, ih, List.map_cons]
theorem prLen {α β : Type} {F : α → β → Prop} {xs : List α} {ys : List β} (h : Paired F xs ys) : ys.length = xs.length := by
  induction h with
  | nil => rfl
  | cons _ _ ih => rw [List.length_cons, List.length_cons, ih]
theorem prAt {α β : Type} {F : α → β → Prop} {xs : List α} {ys : List β} (h : Paired F xs ys) : ∀ {i : Nat} {y : β}, ys[i]? = some y → ∃ x, xs[i]? = some x ∧ F x y := by
  induction h with
  | nil => intro i y e; simp at e
  | cons a _ ih =>
    intro i y e
    cases i with
    | zero =>
      cases e
      exact ⟨_, rfl, a⟩
    | succ i => exact ih (i := i) (by simpa using e)
theorem prAt2 {α β : Type} {F : α → β → Prop} {xs : List α} {ys : List β} (h : Paired F xs ys) : ∀ {i : Nat} {x : α}, xs[i]? = some x → ∃ y, ys[i]? = some y ∧ F x y := by
  induction h with
  | nil => intro i y e; simp at e
  | cons a _ ih =>
    intro i y e
    cases i with
    | zero =>
      cases e
      exact ⟨_, rfl, a⟩
    | succ i => exact ih (i := i) (by simpa using e)
theorem prApp {α β : Type} {F : α → β → Prop} : ∀ {xs : List α} {ys : List β} {xs' : List α} {ys' : List β}, Paired F xs ys → Paired F xs' ys' → Paired F (xs ++ xs') (ys ++ ys')
  | _, _, _, _, .nil, h => h
  | _, _, _, _, .cons a t, h => .cons a (prApp t h)
theorem prMapL {α β γ : Type} {F : α → β → Prop} {f : γ → α} : ∀ {xs : List γ} {ys : List β}, Paired (fun c b => F (f c) b) xs ys → Paired F (xs.map f) ys
  | _, _, .nil => .nil
  | _, _, .cons a t => .cons a (prMapL t)
theorem prUnmapL {α β γ : Type} {F : α → β → Prop} {f : γ → α} : ∀ {xs : List γ} {ys : List β}, Paired F (xs.map f) ys → Paired (fun c b => F (f c) b) xs ys
  | [], _, .nil => .nil
  | _ :: _, _, .cons a t => .cons a (prUnmapL t)
theorem paired_dp {K : PySem.W.Frag} {H : Hp} {α : Type} {f : α → PyData} : ∀ {xs : List α} {ys : List V}, Paired (fun a y => Dp K H y (f a)) xs ys → DpAll K H ys (xs.map f)
  | _, _, .nil => .nil
  | _, _, .cons a t => .cons a (paired_dp t)
/-- a comprehension: f tells what each turn gives (none: nothing), R how it is told by a value -/
theorem lc_itM {J : It} {n : Nat} {G : Hp → Prop} {Y : Nat → Hp → V → Hp → Prop} (w : Walk J n G Y) {α : Type} (f : Nat → Option α) (R : α → V → Hp → Prop) (st : ∀ a y H H', SameT H H' → R a y H → R a y H')
    {g : TG} {tt : TT} {te : TE} {vs : List Nat} {σ : L2.St} {H1 : Hp} {D : Addr} {Qd : Hp → Prop} (nD : H1 D = none) (hG : ∀ H, Same H1 H → G H) (hn : n ≤ 100000)
    (hs : ∀ i x H H' (k : V → Hp → Prop) (N : Hp → Prop), i < n → Same H1 H → Y i H x H' → (∀ y H4 a, Same H H4 → f i = some a → R a y H4 → k y H4) → (∀ H3, Same H H3 → f i = none → N H3) →
      g x (wipe σ vs) H' fun σ2 H2 => wipe σ2 vs = wipe σ vs ∧ tt σ2 H2 fun b H3 => if b = true then te σ2 H3 k else N H3)
    (hd : ∀ H' ys, Same H1 H' → H' D = some (.lst ys) → Paired (fun a y => R a y H') ((List.range n).filterMap f) ys → Qd H') :
    ∃ W : Nat → Nat → Hp → Prop, (∃ m, W 0 m (upd H1 D (.lst []))) ∧ ∀ i m H, W i m H →
      (J.stop i H ∧ Qd H) ∨ (J.go i H ∧ ∃ Nx : Hp → Prop, (∀ H', Nx H' → ∃ m', m' < m ∧ W (i + 1) m' H') ∧ ∀ x H', J.yld i H x H' → g x (wipe σ vs) H' fun σ2 H2 => wipe σ2 vs = wipe σ vs ∧ tt σ2 H2 fun b H3 =>
        if b = true then te σ2 H3 fun y H4 => ∃ acc, H4 D = some (.lst acc) ∧ acc.length < sizeLine ∧ Nx (upd H4 D (.lst (acc ++ [y]))) else Nx H3) := by
  have e100 : (100000 : Nat) < sizeLine := by decide
  refine lc_it w (fun i H => i ≤ n ∧ Same H1 H ∧ ∃ ys, H D = some (.lst ys) ∧ ys.length ≤ i ∧ Paired (fun a y => R a y H) ((List.range i).filterMap f) ys)
    ⟨Nat.zero_le _, same_upd nD, [], upd_same, Nat.le_refl _, .nil⟩ (fun i H _ h => hG H h.2.1) ?_ fun H h => by
      obtain ⟨_, sm, ys, hD, _, p⟩ := h
      exact hd H ys sm hD p
  rintro i x H H' hi ⟨_, sm, ys, hD, hl, p⟩ y
  refine hs i x H H' _ _ hi sm y (fun z H4 a s4 hf hr => ?_) fun H3 s3 hf => ?_
  · have h4 := s4 _ _ hD
    refine ⟨ys, h4, by omega, hi, same_upd2 (sm.trans s4) nD, _, upd_same, by rw [List.length_append, List.length_singleton]; omega, ?_⟩
    rw [List.range_succ, List.filterMap_append]
    have t4 : SameT H4 (upd H4 D (.lst (ys ++ [z]))) := sameT_upd h4
    refine prApp (prImp (fun a y' h => st a y' _ _ ((Same.toT s4).trans t4) h) p) ?_
    rw [List.filterMap_cons, hf]
    exact .cons (st a z _ _ t4 hr) .nil
  · refine ⟨hi, sm.trans s3, ys, s3 _ _ hD, by omega, ?_⟩
    rw [List.range_succ, List.filterMap_append, List.filterMap_cons, hf]
    rw [← List.append_nil ys]
    exact prApp (prImp (fun a y' h => st a y' _ _ (Same.toT s3) h) p) .nil
/-- .. where each turn gives something -/
theorem lc_itA {J : It} {n : Nat} {G : Hp → Prop} {Y : Nat → Hp → V → Hp → Prop} (w : Walk J n G Y) {α : Type} (f : Nat → α) (R : α → V → Hp → Prop) (st : ∀ a y H H', SameT H H' → R a y H → R a y H')
    {g : TG} {te : TE} {vs : List Nat} {σ : L2.St} {H1 : Hp} {D : Addr} {Qd : Hp → Prop} (nD : H1 D = none) (hG : ∀ H, Same H1 H → G H) (hn : n ≤ 100000)
    (hs : ∀ i x H H' (k : V → Hp → Prop), i < n → Same H1 H → Y i H x H' → (∀ y H4, Same H H4 → R (f i) y H4 → k y H4) → g x (wipe σ vs) H' fun σ2 H2 => wipe σ2 vs = wipe σ vs ∧ te σ2 H2 k)
    (hd : ∀ H' ys, Same H1 H' → H' D = some (.lst ys) → Paired (fun a y => R a y H') ((List.range n).map f) ys → Qd H') :
    ∃ W : Nat → Nat → Hp → Prop, (∃ m, W 0 m (upd H1 D (.lst []))) ∧ ∀ i m H, W i m H →
      (J.stop i H ∧ Qd H) ∨ (J.go i H ∧ ∃ Nx : Hp → Prop, (∀ H', Nx H' → ∃ m', m' < m ∧ W (i + 1) m' H') ∧ ∀ x H', J.yld i H x H' → g x (wipe σ vs) H' fun σ2 H2 => wipe σ2 vs = wipe σ vs ∧ tYes σ2 H2 fun b H3 =>
        if b = true then te σ2 H3 fun y H4 => ∃ acc, H4 D = some (.lst acc) ∧ acc.length < sizeLine ∧ Nx (upd H4 D (.lst (acc ++ [y]))) else Nx H3) := by
  refine lc_itM w (fun i => some (f i)) R st nD hG hn (fun i x H H' k N hi sm y hk _ => ?_) fun H' ys sm hD p => hd H' ys sm hD ?_
  · have := hs i x H H' k hi sm y fun y H4 s4 hr => hk y H4 _ s4 rfl hr
    exact this
  · rw [← List.filterMap_eq_map]
    exact p
theorem range_get {α β : Type} (g : α → β) (d : α) (xs : List α) : (List.range xs.length).map (fun i => g (xs.getD i d)) = xs.map g := by
  refine List.ext_getElem (by simp) fun i h1 h2 => ?_
  simp at h1
  simp [h1]
/-- all that stands but what is at t -/
def Exc (t : Addr) (H H' : Hp) : Prop := ∀ b o, b ≠ t → H b = some o → H' b = some o
theorem Exc.trans {t : Addr} {H H1 H2 : Hp} (a : Exc t H H1) (b : Exc t H1 H2) : Exc t H H2 := fun c o n h => b c o n (a c o n h)
theorem But.exc {t : Addr} {H H' : Hp} (b : But t H H') : Exc t H H' := fun c o n h => (b c n).trans h
theorem exc_same {t : Addr} {H H' : Hp} (e : Same H H') : Exc t H H' := fun c o _ h => e c o h
theorem exc_upd {t p : Addr} {H : Hp} {o : HO} (h : H p = none) : Exc t H (upd H p o) := exc_same (same_upd h)
theorem Drw.ne {K : PySem.W.Frag} {H0 H : Hp} {l t p : Addr} (D : Drw K H0 l t H) (h : H p = none) : p ≠ t := fun z => by
  obtain ⟨a, b, c, d, e⟩ := D.st
  rw [← z, h] at e
  cases e
theorem Drw.updN {K : PySem.W.Frag} {H0 H H' : Hp} {l t p : Addr} {o : HO} (D : Drw K H0 l t H') (h : H0 p = none) (n : p ≠ t) : Drw K H0 l t (L2.upd H' p o) := by
  obtain ⟨a, b, c, d, e⟩ := D.st
  exact ⟨D.scr, D.new, same_upd2 D.same h, ⟨a, b, c, d, by rw [upd_ne (Ne.symm n)]; exact e⟩⟩
theorem But.t {K : PySem.W.Frag} {H0 H H' : Hp} {l t : Addr} (D : Drw K H0 l t H) (b : But t H H') : SameT H H' := fun c o h n => by
  obtain ⟨x, y, z, u, e⟩ := D.st
  rw [b c (fun q => by rw [q, e] at h; cases h; exact n _ rfl)]
  exact h
theorem excT {K : PySem.W.Frag} {H0 H H' : Hp} {l t : Addr} (D : Drw K H0 l t H) (b : Exc t H H') : SameT H H' := fun c o h n => by
  obtain ⟨x, y, z, u, e⟩ := D.st
  exact b c o (fun q => by rw [q, e] at h; cases h; exact n _ rfl) h
theorem cut_at {α : Type} {xs : List α} {i : Nat} {x : α} (h : xs[i]? = some x) : xs.take i ++ x :: xs.drop (i + 1) = xs := by
  obtain ⟨hi, e⟩ := List.getElem?_eq_some_iff.mp h
  rw [← e, ← List.drop_eq_getElem_cons hi, List.take_append_drop]
/-! ### data: what is shaped -/
theorem canAll_iff : ∀ {ds : List PyData}, (∀ d ∈ ds, d.canLay0 = true) → PyData.canLayAll0 ds = true
  | [], _ => by simp only [PyData.canLayAll0]
  | d :: r, h => by
    simp only [PyData.canLayAll0]
    rw [h d List.mem_cons_self, canAll_iff fun x hx => h x (List.mem_cons_of_mem _ hx)] <;> rfl
theorem depAll_le {k : Nat} : ∀ {ds : List PyData}, (∀ d ∈ ds, d.depth ≤ k) → PyData.depthAll ds ≤ k
  | [], _ => by simp only [PyData.depthAll]; omega
  | d :: r, h => by
    simp only [PyData.depthAll]
    have h1 := h d List.mem_cons_self
    have h2 := depAll_le fun x hx => h x (List.mem_cons_of_mem d hx)
    omega
/-- data of at most k levels -/
def Fit (k : Nat) (d : PyData) : Prop := d.canLay0 = true ∧ d.depth ≤ k
theorem fit_int {k : Nat} (i : Int) : Fit k (.int i) := ⟨by simp only [PyData.canLay0], by simp only [PyData.depth]; omega⟩
theorem fit_tup {k : Nat} {ds : List PyData} (h : ∀ d ∈ ds, Fit k d) : Fit (k + 1) (.tuple ds) :=
  ⟨by simp only [PyData.canLay0]; exact canAll_iff fun d hd => (h d hd).1, by simp only [PyData.depth]; have := depAll_le fun d hd => (h d hd).2; omega⟩
theorem Fit.shaped {k : Nat} {d : PyData} (h : Fit k d) (hk : k ≤ 64) : SeqAt.shaped d = true := by
  unfold SeqAt.shaped
  rw [h.1, decide_eq_true (Nat.le_trans h.2 hk)] <;> rfl
/-! ### scalars -/
def scalV : V → Bool
  | .non => true
  | .bl _ => true
  | .int _ => true
  | .str x => PyData.strOk x
  | _ => false
def datV : V → PyData
  | .bl b => .bool b
  | .int i => .int i
  | .str x => .str x
  | _ => .none
theorem kn_scal {K : PySem.W.Frag} {H : Hp} {x : V} (h : scalV x = true) : Kn K H x := by
  cases x with
  | non => exact kn_non
  | bl b => exact kn_bl b
  | int i => exact kn_int i
  | str x => exact kn_str x
  | _ => cases h
theorem flat_scal {x : V} (h : scalV x = true) : flatV x = true := by
  cases x with
  | non => rfl
  | bl b => rfl
  | int i => rfl
  | str x => rfl
  | _ => cases h
/-! ### lots: the mathematics -/
def oneL (m : Nat) : List Nat := (List.range 8).filter fun c => m.testBit c
/-- the lot of a mask -/
def lotL (m : Nat) : List Int := (oneL m).map fun (c : Nat) => (c : Int)
def lotV (m : Nat) : List V := (lotL m).map V.int
def lotD (m : Nat) : PyData := .tuple ((lotL m).map PyData.int)
/-- v is the lot of mask m -/
def Lot (K : PySem.W.Frag) (H : Hp) (m : Nat) (v : V) : Prop := ∃ a, v = .ref a ∧ SqT K H a (lotV m)
theorem Lot.sameT {K : PySem.W.Frag} {H H' : Hp} {m : Nat} {v : V} (h : Lot K H m v) (e : SameT H H') : Lot K H' m v := by
  obtain ⟨a, rfl, h⟩ := h
  exact ⟨a, rfl, e.seqT h⟩
theorem Lot.same {K : PySem.W.Frag} {H H' : Hp} {m : Nat} {v : V} (h : Lot K H m v) (e : Same H H') : Lot K H' m v := h.sameT (Same.toT e)
theorem dps_ints {K : PySem.W.Frag} {H : Hp} : ∀ (ns : List Int), DpAll K H (ns.map V.int) (ns.map PyData.int)
  | [] => .nil
  | n :: r => .cons (.int n) (dps_ints r)
theorem Lot.dp {K : PySem.W.Frag} {H : Hp} {m : Nat} {v : V} (h : Lot K H m v) : Dp K H v (lotD m) := by
  obtain ⟨a, rfl, h⟩ := h
  exact .tup h (dps_ints _)
theorem fit_lot (m : Nat) : Fit 1 (lotD m) := fit_tup fun d hd => by
  obtain ⟨i, _, rfl⟩ := List.mem_map.mp hd
  exact fit_int i
/-- the copy that a value names -/
def idx : V → Nat
  | .int i => i.toNat
  | _ => 0
def copyOk (n : Nat) (x : V) : Bool := good x (some 0) (some ((n : Int) - 1))
theorem copyOk_iff {n : Nat} {x : V} (h : copyOk n x = true) : ∃ c : Nat, x = .int c ∧ c < n := by
  unfold copyOk good at h
  cases x with
  | int i =>
    simp at h
    refine ⟨i.toNat, by congr 1; omega, by omega⟩
  | _ => cases h
theorem copyOk_nat {n c : Nat} (h : c < n) : copyOk n (.int c) = true := by
  unfold copyOk good
  simp
  omega
def maskV (xs : List V) : Nat := xs.foldl (fun m x => m ||| 1 <<< idx x) 0
theorem maskV_snoc (xs : List V) (x : V) : maskV (xs ++ [x]) = maskV xs ||| 1 <<< idx x := by
  unfold maskV
  rw [List.foldl_append] <;> rfl
theorem one_bit (i c : Nat) : (1 <<< i).testBit c = decide (i = c) := by
  rw [Nat.one_shiftLeft, Nat.testBit_two_pow]
theorem maskV_bit (c : Nat) : ∀ (xs : List V) (m : Nat), (xs.foldl (fun m x => m ||| 1 <<< idx x) m).testBit c = (m.testBit c || xs.any fun x => decide (idx x = c))
  | [], m => by simp
  | x :: r, m => by
    rw [List.foldl_cons, maskV_bit c r, Nat.testBit_or, one_bit, List.any_cons, Bool.or_assoc]
theorem mask_bit (c : Nat) (xs : List V) : (maskV xs).testBit c = xs.any fun x => decide (idx x = c) := by
  unfold maskV
  rw [maskV_bit]
  simp
theorem maskV_lt {n : Nat} : ∀ (xs : List V) (m : Nat), m < 2 ^ n → (∀ x ∈ xs, idx x < n) → xs.foldl (fun m x => m ||| 1 <<< idx x) m < 2 ^ n
  | [], m, h, _ => h
  | x :: r, m, h, k => by
    rw [List.foldl_cons]
    refine maskV_lt r _ (Nat.or_lt_two_pow h ?_) fun y hy => k y (List.mem_cons_of_mem _ hy)
    rw [Nat.one_shiftLeft]
    exact Nat.pow_lt_pow_right (by decide) (k x List.mem_cons_self)
theorem mask_lt {n : Nat} {xs : List V} (h : ∀ x ∈ xs, copyOk n x = true) : maskV xs < 2 ^ n := by
  refine maskV_lt xs 0 (Nat.two_pow_pos n) fun x hx => ?_
  obtain ⟨c, rfl, hc⟩ := copyOk_iff (h x hx)
  exact hc
theorem pow_le8 {n : Nat} (h : n ≤ 8) : 2 ^ n ≤ 256 := Nat.pow_le_pow_right (by decide) h
theorem range_cut {n m : Nat} {p : Nat → Bool} (h : n ≤ m) (k : ∀ c, n ≤ c → p c = false) : (List.range m).filter p = (List.range n).filter p := by
  obtain ⟨d, rfl⟩ := Nat.exists_eq_add_of_le h
  rw [List.range_add, List.filter_append]
  have : ((List.range d).map (n + ·)).filter p = [] := by
    rw [List.filter_eq_nil_iff]
    intro c hc
    obtain ⟨e, _, rfl⟩ := List.mem_map.mp hc
    rw [k _ (Nat.le_add_right _ _)]
    simp
  rw [this, List.append_nil]
/-- a lot of n copies, copy by copy -/
theorem oneL_n {n m : Nat} (hn : n ≤ 8) (h : m < 2 ^ n) : oneL m = (List.range n).filter fun c => m.testBit c := by
  refine range_cut hn fun c hc => ?_
  exact Nat.testBit_lt_two_pow (Nat.lt_of_lt_of_le h (Nat.pow_le_pow_right (by decide) hc))
theorem other_bit {n m : Nat} (h : m < 2 ^ n) (c : Nat) : (2 ^ n - 1 - m).testBit c = (decide (c < n) && !m.testBit c) := by
  rw [Nat.sub_sub, Nat.add_comm 1 m]
  exact Nat.testBit_two_pow_sub_succ h c
theorem lotV_at {m i : Nat} {x : V} (h : (lotV m)[i]? = some x) : ∃ c : Nat, x = .int c ∧ c < 8 ∧ m.testBit c = true := by
  have h := List.mem_of_getElem? h
  unfold lotV lotL oneL at h
  rw [List.map_map] at h
  obtain ⟨c, hc, rfl⟩ := List.mem_map.mp h
  obtain ⟨h1, h2⟩ := List.mem_filter.mp hc
  exact ⟨c, rfl, List.mem_range.mp h1, h2⟩
theorem lotV_mem {m : Nat} {x : V} (h : x ∈ lotV m) : ∃ c : Nat, x = .int c ∧ c < 8 ∧ m.testBit c = true := by
  obtain ⟨i, hi, e⟩ := List.mem_iff_getElem.mp h
  exact lotV_at (i := i) (by rw [List.getElem?_eq_getElem hi, e])
theorem lotV_ok {n m : Nat} (h : m < 2 ^ n) {x : V} (hx : x ∈ lotV m) : copyOk n x = true := by
  obtain ⟨c, rfl, _, hb⟩ := lotV_mem hx
  refine copyOk_nat ?_
  rcases Nat.lt_or_ge c n with k | k
  · exact k
  · rw [Nat.testBit_lt_two_pow (Nat.lt_of_lt_of_le h (Nat.pow_le_pow_right (by decide) k))] at hb
    cases hb
theorem mask_lotV {m : Nat} (h : m < 256) : maskV (lotV m) = m := by
  refine Nat.eq_of_testBit_eq fun c => ?_
  rw [mask_bit]
  cases e : m.testBit c with
  | true =>
    rw [List.any_eq_true]
    refine ⟨.int (c : Nat), ?_, by unfold idx; simp⟩
    unfold lotV lotL oneL
    rw [List.map_map]
    refine List.mem_map.mpr ⟨c, List.mem_filter.mpr ⟨List.mem_range.mpr ?_, e⟩, rfl⟩
    rcases Nat.lt_or_ge c 8 with k | k
    · exact k
    · rw [Nat.testBit_lt_two_pow (Nat.lt_of_lt_of_le h (Nat.pow_le_pow_right (by decide) k : 2 ^ 8 ≤ 2 ^ c))] at e
      cases e
  | false =>
    rw [List.any_eq_false]
    intro x hx
    obtain ⟨d, rfl, _, hd⟩ := lotV_mem hx
    unfold idx
    simp
    intro z
    subst z
    rw [hd] at e
    cases e
theorem fm_congr {α β : Type} {f g : α → Option β} : ∀ {l : List α}, (∀ x ∈ l, f x = g x) → l.filterMap f = l.filterMap g
  | [], _ => rfl
  | a :: r, h => by
    rw [List.filterMap_cons, List.filterMap_cons, h a List.mem_cons_self, fm_congr fun x hx => h x (List.mem_cons_of_mem _ hx)]
theorem scal_lotV {m : Nat} {x : V} (hx : x ∈ lotV m) : scalV x = true := by
  obtain ⟨c, rfl, _⟩ := lotV_mem hx
  rfl
/-! ### lots: the promises -/
/-- the list or tuple at a -/
def SqA (K : PySem.W.Frag) (H : Hp) (a : Addr) (xs : List V) : Prop := SqL K H a xs ∨ SqT K H a xs
theorem SqA.same {K : PySem.W.Frag} {H H' : Hp} {a : Addr} {xs : List V} (h : SqA K H a xs) (e : Same H H') : SqA K H' a xs := by
  rcases h with h | h
  · exact .inl (e.seq h)
  · exact .inr (Same.seqT e h)
def Err (C : Addr) (H : Hp) (E : XK) (w : Str) (x : V) : Prop := ∀ d H', H d = none → Same H H' → H' d = some (.xd [("value", x), ("what", .str w)]) → E (.ref C) (some d) H'
theorem Err.of {C : Addr} {H H1 : Hp} {E : XK} {w : Str} {x : V} (h : Err C H E w x) (e : Same H H1) : Err C H1 E w x := fun d H' nd sm hx => h d H' (e.free nd) (e.trans sm) hx
def spCopies (K : PySem.W.Frag) (C : Addr) : Sp := fun vs H Q E => ∃ x, vs = [x] ∧ Kn K H x ∧ (good x (some 1) (some 8) = true → Q x H) ∧ (good x (some 1) (some 8) = false → Err C H E "copies" x)
def spCopy (K : PySem.W.Frag) (C : Addr) : Sp := fun vs H Q E => ∃ (n : Nat) (x : V), vs = [.int n, x] ∧ Kn K H x ∧ (copyOk n x = true → Q x H) ∧ (copyOk n x = false → Err C H E "copy" x)
/-- the first value that is no copy -/
def badOf (n : Nat) (xs : List V) : Option V := xs.find? fun x => !copyOk n x
theorem badOf_none {n : Nat} {xs : List V} (h : badOf n xs = none) {x : V} (hx : x ∈ xs) : copyOk n x = true := by
  have := List.find?_eq_none.mp h x hx
  simpa using this
theorem badOf_ok {n : Nat} {xs : List V} (h : ∀ x ∈ xs, copyOk n x = true) : badOf n xs = none := List.find?_eq_none.mpr fun x hx => by rw [h x hx]; simp
theorem badOf_at {n i : Nat} {xs : List V} {x : V} (hx : xs[i]? = some x) (hok : ∀ y ∈ xs.take i, copyOk n y = true) (h : copyOk n x = false) : badOf n xs = some x := by
  have e : badOf n (xs.take i ++ x :: xs.drop (i + 1)) = some x := by
    unfold badOf
    rw [List.find?_append, List.find?_eq_none.mpr (fun y hy => by rw [hok y hy]; simp), Option.none_or, List.find?_cons, h] <;> rfl
  rwa [cut_at hx] at e
def spMaskOf (K : PySem.W.Frag) (C : Addr) : Sp := fun vs H Q E => ∃ (n : Nat) (a : Addr) (xs : List V), vs = [.int n, .ref a] ∧ n ≤ 8 ∧ SqA K H a xs ∧ (∀ x ∈ xs, scalV x = true) ∧
  (badOf n xs = none → Q (.int (maskV xs)) H) ∧ (∀ x, badOf n xs = some x → Err C H E "copy" x)
def spLotAt (K : PySem.W.Frag) : Sp := fun vs H Q _ => ∃ m : Nat, vs = [.int m] ∧ ∀ p H', Same H H' → H p = none → H' p = some (.tup (lotV m)) → Q (.ref p) H'
/-- lot_of, others: f makes a mask of a mask -/
def spLotOf (K : PySem.W.Frag) (C : Addr) (f : Nat → Nat → Nat) : Sp := fun vs H Q E => ∃ (c : V) (a : Addr) (xs : List V), vs = [c, .ref a] ∧ Kn K H c ∧ SqA K H a xs ∧ (∀ x ∈ xs, scalV x = true) ∧
  (good c (some 1) (some 8) = false → Err C H E "copies" c) ∧
  (∀ n : Nat, c = .int n → 1 ≤ n → n ≤ 8 → (badOf n xs = none → ∀ p H', Same H H' → H p = none → H' p = some (.tup (lotV (f n (maskV xs)))) → Q (.ref p) H') ∧ (∀ x, badOf n xs = some x → Err C H E "copy" x))
def spAllLots (K : PySem.W.Frag) (C : Addr) : Sp := fun vs H Q E => ∃ c : V, vs = [c] ∧ Kn K H c ∧ (good c (some 1) (some 8) = false → Err C H E "copies" c) ∧
  (∀ n : Nat, c = .int n → 1 ≤ n → n ≤ 8 → ∀ p ys H', Same H H' → H p = none → H' p = some (.lst ys) → Paired (fun m y => Lot K H' m y) (List.range (2 ^ n)) ys → Q (.ref p) H')
theorem good_copies {c : V} (h : good c (some 1) (some 8) = true) : ∃ n : Nat, c = .int n ∧ 1 ≤ n ∧ n ≤ 8 := by
  unfold good at h
  cases c with
  | int i =>
    simp at h
    exact ⟨i.toNat, by congr 1; omega, by omega, by omega⟩
  | _ => cases h
theorem copies_good {n : Nat} (h1 : 1 ≤ n) (h2 : n ≤ 8) : good (.int n) (some 1) (some 8) = true := by
  unfold good
  simp
  omega
theorem bitAnd_nat (a b : Nat) : Builtin.bitAnd (a : Int) (b : Int) = ((a &&& b : Nat) : Int) := by rw [PyProof.Rows.bitAnd_pp (by omega) (by omega), Int.toNat_natCast, Int.toNat_natCast]
theorem shl_nat (c : Nat) : (1 : Int) * (2 : Int) ^ ((c : Int)).toNat = ((1 <<< c : Nat) : Int) := by
  rw [Int.toNat_natCast, Int.one_mul, Nat.one_shiftLeft, Int.natCast_pow] <;> rfl
theorem and_bit (m c : Nat) : (((m &&& 1 <<< c : Nat) : Int) != 0) = m.testBit c := by
  have h : m &&& 1 <<< c = if m.testBit c then 1 <<< c else 0 := by
    refine Nat.eq_of_testBit_eq fun d => ?_
    rw [Nat.testBit_and, one_bit]
    by_cases e : c = d
    · subst e
      cases h : m.testBit c with
      | true => simp [one_bit]
      | false => simp
    · rw [decide_eq_false e, Bool.and_false]
      split
      · rw [one_bit, decide_eq_false e]
      · simp
  rw [h]
  have : 0 < 1 <<< c := by rw [Nat.one_shiftLeft]; exact Nat.two_pow_pos c
  cases m.testBit c with
  | true =>
    show (((1 <<< c : Nat) : Int) != 0) = true
    rw [bne_iff_ne]
    omega
  | false => rfl
/-! ### rules for tuples: enumerate(t), zip(t, u), t[::-1], t.count(b) -/
open AutoSeq1 (wpAny_loadPart') in
theorem enumT_new {v : Value} {o : Obj} {G : Heap → Prop} (B : Begins v o G) :
    Meets (Builtin.«enumerate.__new__» ⟨[.type "enumerate", v], []⟩) (fun _ R s => G s.heap ∧
      R (.ok (.ret (.ref (s.heap.push o).objs.size))) { s with heap := (s.heap.push o).push { cls := .type "enumerate", data := .fields #[.none, .bool false, .ref s.heap.objs.size, rawInt 0, .none, .none] } }) :=
  .of_wp fun prog w A R s h => by
    obtain ⟨hp, gl, dp, tk, os⟩ := s; obtain ⟨g1, h⟩ := h
    have sub0 := sub_enumerate
    have it1 : ∀ {A' : Around} {F : Value → Shared → Prop} {Q : Value → Shared → Prop}, Q (.ref hp.objs.size) ⟨hp.push o, gl, dp, tk, os⟩ → wpAny (model prog w) A' (pyIter v) Q F ⟨hp, gl, dp, tk, os⟩ :=
      fun k => B.iter prog w _ _ ⟨hp, gl, dp, tk, os⟩ _ g1 k
    wp_walk using it1
    refine wpAny_stack_any fun st => wpAny_pure ?_
    split
    · rename_i c _ _ _ _ _
      cases (c == Value.type "enumerate") <;> (wp_walk using it1; exact ⟨_, rfl, h⟩)
    · wp_walk using it1
      exact ⟨_, rfl, h⟩
theorem enumT_call {prog : Program} {w : World} {A : Around} {F : Value → Shared → Prop} {s : Shared} {v : Value} {o : Obj} {G : Heap → Prop} {Q : Value → Shared → Prop} (B : Begins v o G) (g1 : G s.heap)
    (h : ∀ h', IsEnum h' (s.heap.objs.size + 1) s.heap.objs.size 0 .none → h'.get? s.heap.objs.size = some o → (∀ b u, s.heap.get? b = some u → h'.get? b = some u) → Q (.ref (s.heap.objs.size + 1)) { s with heap := h' }) :
    wpAny (model prog w) A (call (.type "enumerate") [v]) Q F s := by
  refine callType_new PySem.F.called_enumerate (by decide) (PySem.F.typeCall_enumerate_1 _) (PySem.F.newCall_enumerate_1 _) (fun ob => PySem.F.args_object_init_2 ob _) PySem.F.entry_enumerate_new (enumT_new B) ⟨g1, ?_⟩
  have sz : (s.heap.push o).objs.size = s.heap.objs.size + 1 := Heap.size_push ..
  show _ ∧ _
  rw [sz]
  have en : IsEnum ((s.heap.push o).push { cls := .type "enumerate", data := .fields #[.none, .bool false, .ref s.heap.objs.size, rawInt 0, .none, .none] }) (s.heap.objs.size + 1) s.heap.objs.size 0 .none := by
    have z := Heap.get?_push_size (s.heap.push o) (o := { cls := .type "enumerate", data := .fields #[.none, .bool false, .ref s.heap.objs.size, rawInt 0, .none, .none] }) rfl
    rwa [sz] at z
  exact ⟨⟨_, en, rfl⟩, h _ en (Heap.get?_push_of_some _ (Heap.get?_push_size _ B.free)) fun b u z => Heap.get?_push_of_some _ (Heap.get?_push_of_some _ z)⟩
/-- the tuple at a, each item in a new pair with its place -/
def IteT (K : PySem.W.Frag) (a : Addr) : It :=
  ⟨fun i H => ∃ (xs : List V) (x : V), SqT K H a xs ∧ xs[i]? = some x, fun i H v H' => ∃ T x, v = .ref T ∧ H T = none ∧ H' = upd H T (.tup [.int (i : Nat), x]) ∧ ∀ xs, SqT K H a xs → xs[i]? = some x, fun i H => ∃ xs : List V, SqT K H a xs ∧ xs.length ≤ i⟩
/-- what the iterator of a tuple draws, from a place behind its end -/
theorem Dn {P : Program} {w : World} {A : Around} (its : Array Value) (it a : Addr) (hh : A.handled = none) (i : Nat) (hi : its.size ≤ i) :
    Draws P w A.in1 it [it, a] i (fun _ _ => False) (fun j h => h.IsTupleIter it a j ∧ h.IsTuple a its ∧ j = i) where
  live := fun _ _ st => st.1.elim fun o z => ⟨o, z.1⟩
  frame := fun _ _ _ st hk => ⟨st.1.at fun o e => hk it (by simp) o e, st.2.1.at fun o e => hk a (by simp) o e, st.2.2⟩
  item := fun j s Q E hj st _ => absurd st.2.2 (by omega)
  done := fun s Q E st hE => wpAny_nextOf_tuple_end (A := A.in1) hh st.1 st.2.1 (by simp; omega) hE
theorem turn_enumT {P : Program} {w : World} {K : PySem.W.Frag} {elts : List Expr} {kk : Nat} {tpos : Pos} (a e it : Addr) (hat : a ≠ it) (hae : a ≠ e) (hei : e ≠ it) :
    Turn P w K (.Tuple elts kk tpos) (IteT K a) [e, it] e (fun i h => (∃ old, IsEnum h e it ((i : Nat) : Int) old) ∧ h.IsTupleIter it a i) where
  mem := by simp
  obj := fun i h st b hb => by
    obtain ⟨⟨old, he⟩, ⟨o, ho, hc, hd⟩⟩ := st
    have bb : b = e ∨ b = it := by simpa using hb
    rcases bb with rfl | rfl
    · exact ⟨_, he, fun v q => nomatch q⟩
    · exact ⟨o, ho, fun v q => by rw [hd] at q; cases q⟩
  keep := fun i h h' st k => ⟨st.1.elim fun old he => ⟨old, k e (by simp) _ he⟩, st.2.at fun o q => k it (by simp) o q⟩
  item := by
    intro X hP hw hK hc i pins s σ H E I hf st hg
    subst hP hw hK
    obtain ⟨⟨old, he⟩, hit⟩ := st
    obtain ⟨xs, x, hq, hx⟩ := hg
    obtain ⟨its, rv, plc, hz⟩ := I.tuple hq
    obtain ⟨u, hu, ru⟩ := rv.get hx
    have el : e < s.heap.objs.size := Heap.lt_size he
    have il : it < s.heap.objs.size := by obtain ⟨_, z, _⟩ := hit; exact Heap.lt_size z
    have hlt : i < its.toArray.size := by
      rw [List.size_toArray]
      exact (List.getElem?_eq_some_iff.mp hu).1
    refine wpAny_pyNext_enum_itemD (Draws.tuple (A := X.A.in1) (show X.A.in1.handled = none from I.ok.hd hc) it a hat its.toArray) he ⟨hit, plc⟩ hlt hei (by simp [hei, Ne.symm hae]) fun y h' tk hy ho hst hT hsz hk => ?_
    have ey : y = u := by
      rw [show its.toArray[i]? = some u by simpa using hu] at hy
      exact (Option.some.inj hy).symm
    subst ey
    refine ⟨_, rfl, wpAny_letOwnedTupleGo_enum (s := { s with heap := h', toks := tk + 1 }) ho fun h'' he' sb => ?_⟩
    have t2 : h''.get? s.heap.objs.size = some { cls := .type "tuple", data := .seq #[.int i tk, y] } := (sb.2 _ (Nat.ne_of_gt el)).trans hT
    have new : ObjOk X.prog X.w (upd H s.heap.objs.size (.tup [.int (i : Nat), x])) h'' s.heap.objs.size (.tup [.int (i : Nat), x]) :=
      ⟨by show 2 ≤ sizeLine; decide, [.int i tk, y], .cons ⟨_, rfl⟩ (.cons ru .nil), ⟨_, t2, rfl, _, rfl⟩⟩
    have J : Inv X pins σ (upd H s.heap.objs.size (.tup [.int (i : Nat), x])) { s with heap := h'', toks := tk + 1 } :=
      I.turnedNew (t' := tk + 1) (ch := [e, it]) (fun b ob nb q => (sb.2 b (fun z => nb (by simp [z]))).trans (hk b ob (fun z => nb (by simp [z])) (fun z => nb (by simp [z])) q)) hf (Nat.le_refl _) new
    refine ⟨.ref s.heap.objs.size, _, J, rfl, ⟨_, x, rfl, I.hok.fresh (Nat.le_refl _), rfl, fun ys hys => by rw [I.tuple_inj hys hq]; exact hx⟩, ⟨⟨y, ?_⟩, hst.1.at fun o q => (sb.2 it (Ne.symm hei)).trans q⟩, fun b hb => ?_⟩
    · rw [show ((i + 1 : Nat) : Int) = (i : Int) + 1 by omega]
      exact he'
    · have bb : b = e ∨ b = it := by simpa using hb
      have bl : b < s.heap.objs.size := by
        rcases bb with z | z
        · rw [z]; exact el
        · rw [z]; exact il
      rw [upd_ne (Nat.ne_of_lt bl)]
      exact (hf b hb).1
  done := by
    intro X hP hw hK hc i pins s σ H E I hf st hg
    subst hP hw hK
    obtain ⟨⟨old, he⟩, hit⟩ := st
    obtain ⟨xs, hq, hx⟩ := hg
    obtain ⟨its, rv, plc, hz⟩ := I.tuple hq
    obtain ⟨f0, f1, f2, f3, f4, f5⟩ := hf it (by simp)
    have hn : its.toArray.size ≤ i := by rw [List.size_toArray, ← rv.length]; exact hx
    refine wpAny_pyNext_enum_endD (Dn its.toArray it a (I.ok.hd hc) i hn) he ⟨hit, plc, rfl⟩ fun h' eb => ⟨rfl, I.turned (t' := s.toks) (fun b o hb q => eb b o hb q) f0 f1 f3 f4 f5⟩
  self := fun A i s Q E st h => st.1.elim fun _ he => wpAny_pyIter_enum he h
def iEnumA (K : PySem.W.Frag) (ta : TA) : TI := fun σ H R => ta σ H fun vs H1 => ∃ a xs, vs = [.ref a] ∧ ((SqL K H1 a xs ∧ R (Ite K a) H1) ∨ (SqT K H1 a xs ∧ R (IteT K a) H1))
theorem pi_enumA {X : Cx} {e : Expr} {ta : TA} {p pos tpos : Pos} {elts : List Expr} {kk : Nat} (hg : Gl X "enumerate") (hm : X.mg "enumerate" = none) (ha : PA X [e] ta) (hs : starEach [e] X.env = [(false, eval e X.env)] := by rfl) :
    PI X (.Tuple elts kk tpos) (.Call (.Name "enumerate" p) [e] [] pos) (iEnumA X.K ta) := by
  constructor
  intro pins s σ H R I h
  refine Call_ (ld_blt I hg hm boot_enumerate (PyProof.Rows.callWith_type1 (thn (ha.run pos pins s σ H _ I h) fun us t ⟨vs, Hb, J, rr, a, xs, ex, k⟩ => ?_) hs rfl))
  subst ex
  obtain ⟨u, rfl, ru⟩ := vals1 rr
  cases (show u = Value.ref a from ru)
  rcases k with ⟨hq, k⟩ | ⟨hq, k⟩
  · obtain ⟨its, rv, plc, hz⟩ := J.list hq
    refine call_enumerate_list plc.isList fun h' he hit hsz hk => wpAny_pyIter_enum he ?_
    refine ⟨t.heap.objs.size + 1, [t.heap.objs.size + 1, t.heap.objs.size], _, _, Hb, rfl, J.kept (t' := t.toks) hk, turn_enum a (t.heap.objs.size + 1) t.heap.objs.size, ⟨⟨.none, he⟩, hit, Nat.succ_ne_self _⟩, fun b hb => ?_, k⟩
    have bb : b = t.heap.objs.size + 1 ∨ b = t.heap.objs.size := by simpa using hb
    have le : t.heap.objs.size ≤ b := by
      rcases bb with z | z
      · rw [z]; exact Nat.le_succ _
      · rw [z]; exact Nat.le_refl _
    exact J.fpOk le (J.hok.fresh le)
  · obtain ⟨its, rv, plc, hz⟩ := J.tuple hq
    have al : a < t.heap.objs.size := by obtain ⟨_, z, _⟩ := plc; exact Heap.lt_size z
    refine enumT_call (begins_tuple a its.toArray) plc fun h' he hit hk => wpAny_pyIter_enum he ?_
    refine ⟨t.heap.objs.size + 1, [t.heap.objs.size + 1, t.heap.objs.size], _, _, Hb, rfl, J.kept (t' := t.toks) hk, turn_enumT a (t.heap.objs.size + 1) t.heap.objs.size (Nat.ne_of_lt al) (Nat.ne_of_lt (Nat.lt_succ_of_lt al)) (Nat.succ_ne_self _), ⟨⟨.none, he⟩, ⟨_, hit, rfl, rfl⟩⟩, fun b hb => ?_, k⟩
    have bb : b = t.heap.objs.size + 1 ∨ b = t.heap.objs.size := by simpa using hb
    have le : t.heap.objs.size ≤ b := by
      rcases bb with z | z
      · rw [z]; exact Nat.le_succ _
      · rw [z]; exact Nat.le_refl _
    exact J.fpOk le (J.hok.fresh le)
theorem walk_enumT {K : PySem.W.Frag} {a : Addr} {xs : List V} : Walk (IteT K a) xs.length (fun H => SqT K H a xs) (YPair (fun i => some (.int (i : Nat))) (fun i => xs[i]?)) := by
  refine ⟨fun i _ hi q => ⟨xs, xs[i], q, by simp [hi]⟩, fun _ q => ⟨xs, q, Nat.le_refl _⟩, fun i H v H' _ q y => ?_⟩
  obtain ⟨T, x, h1, h2, h3, h4⟩ := y
  exact ⟨T, .int (i : Nat), x, h1, h2, h3, rfl, h4 xs q⟩
theorem walk_zipT {K : PySem.W.Frag} {a b : Addr} {xs ys : List V} {n : Nat} (hn : n = min xs.length ys.length) : Walk (RZ.ItzT K a b) n (fun H => SqT K H a xs ∧ SqT K H b ys) (YPair (fun i => xs[i]?) (fun i => ys[i]?)) := by
  subst hn
  refine ⟨fun i _ hi q => ⟨xs, ys, xs[i]'(by omega), ys[i]'(by omega), q.1, q.2, by simp [show i < xs.length by omega], by simp [show i < ys.length by omega]⟩, fun _ q => ⟨xs, ys, q.1, q.2, by omega⟩, fun i H v H' _ q y => ?_⟩
  obtain ⟨T, x, z, h1, h2, h3, h4, h5⟩ := y
  exact ⟨T, x, z, h1, h2, h3, h4 xs q.1, h5 ys q.2⟩
/-! ### t[::-1], t.count(x) of a tuple -/
theorem applied_rev {prog : Program} {w : World} {A : Around} {F : Value → Shared → Prop} {s : Shared} {sl : Addr} {vl vu vs : Value} {n : Nat} {Q : Int × Int × Nat → Shared → Prop} (hs : s.heap.IsSliceOf sl vl vu vs) (pl : IsPart vl none) (pu : IsPart vu none) (ps : IsPart vs (some (-1)))
    (h : Q ((n : Int) - 1, -1, n) s) : wpAny (model prog w) A (Builtin.Slice.sliceApplied (.ref sl) (pure (n : Int))) Q F s := by
  obtain ⟨ob, ho, -, hd⟩ := id hs
  unfold Builtin.Slice.sliceApplied Builtin.Slice.sliceFields
  refine wpAny_bind (wpAny_bind (wpAny_field ho hd (x := vl) rfl (wpAny_bind (wpAny_field ho hd (x := vu) rfl (wpAny_bind (wpAny_field ho hd (x := vs) rfl (wpAny_pure ?_)))))))
  refine wpAny_bind (HT.slicePart_ ps ?_)
  show wpAny _ _ (if ((-1 : Int) == 0) = true then _ else _) _ _ s
  rw [if_neg (by decide)]
  refine wpAny_bind (HT.slicePart_ pl (wpAny_bind (HT.slicePart_ pu (wpAny_bind (wpAny_pure ?_)))))
  have e1 : Builtin.Slice.sliceAdjust none none (-1) (n : Int) = ((n : Int) - 1, -1) := rfl
  have e2 : Builtin.Slice.slicePlaces ((n : Int) - 1) (-1) (-1) = n := by
    unfold Builtin.Slice.slicePlaces
    rw [if_neg (by decide)]
    have e3 : (- -1 : Int) = 1 := by decide
    split
    · rw [e3, Int.ediv_one]
      omega
    · show (0 : Int).toNat = n
      omega
  show wpAny _ _ (match Builtin.Slice.sliceAdjust none none (-1) (n : Int) with | (lo, hi) => pure (lo, (-1 : Int), Builtin.Slice.slicePlaces lo hi (-1))) _ _ s
  rw [e1]
  show wpAny _ _ (pure ((n : Int) - 1, (-1 : Int), Builtin.Slice.slicePlaces ((n : Int) - 1) (-1) (-1))) _ _ s
  rw [e2]
  exact wpAny_pure h
theorem pick_rev (its : Array Value) : (List.range its.size).filterMap (fun (k : Nat) => its[((its.size : Int) - 1 + (k : Int) * -1).toNat]?) = its.toList.reverse := by
  have e : (List.range its.size).filterMap (fun (k : Nat) => its[((its.size : Int) - 1 + (k : Int) * -1).toNat]?) = (List.range its.size).map (fun k => its.toList.reverse.getD k .none) := by
    rw [← List.filterMap_eq_map]
    refine fm_congr fun k hk => ?_
    have hk := List.mem_range.mp hk
    have e1 : ((its.size : Int) - 1 + (k : Int) * -1).toNat = its.size - 1 - k := by omega
    rw [e1]
    simp [List.getD_eq_getElem?_getD, hk]
  rw [e]
  have := range_get id .none its.toList.reverse
  rw [List.length_reverse, Array.length_toList, List.map_id] at this
  exact this
theorem getItem_tuple_rev {prog : Program} {w : World} {A : Around} {F : Value → Shared → Prop} {s : Shared} {t sl : Addr} {its : Array Value} {vl vu vs : Value} {Q : Value → Shared → Prop} (ht : IsTup s.heap t its) (hs : s.heap.IsSliceOf sl vl vu vs) (pl : IsPart vl none) (pu : IsPart vu none) (ps : IsPart vs (some (-1)))
    (h : Q (.ref s.heap.objs.size) { s with heap := s.heap.push { cls := .type "tuple", data := .seq its.toList.reverse.toArray } }) (hz : its.size ≤ sizeLine) : wpAny (model prog w) A (getItem (.ref t) (.ref sl)) Q F s := by
  have hok : sizeOk (.seq its.toList.reverse.toArray) := by
    show its.toList.reverse.toArray.size ≤ sizeLine
    rw [List.size_toArray, List.length_reverse, Array.length_toList]
    exact hz
  obtain ⟨os, hos, hcs, hds⟩ := id hs
  have tsl : s.TypeIs (.ref sl) "slice" := ⟨os, hos, hcs⟩
  unfold getItem
  try with_reducible refine wpAny_holding ?_
  first | refine wpAny_bind (wpAny_pure ?_) | skip
  refine wpAny_bind (wpAny_sequenceKey ht.typeIs (by decide) (wpAny_bind (wpAny_callSpecial?_slot (name := Str.ofString "__getitem__") ht.typeIs PyProof.Rows.slot_tuple_getitem
    (wpAny_call_entry PyProof.Rows.slot_tuple_getitem ht.typeIs entry_tuple_getitem ?_ (args_tuple_getitem _ _)))))
  show wpAny _ _ (Builtin.Tuple.tupleItemsOf (.ref t) >>= _) _ _ s
  refine wpAny_bind (tupleItemsOf_ ht (wpAny_bind (wpAny_typeOf tsl ?_)))
  rw [if_pos (by decide)]
  refine wpAny_bind (applied_rev hs pl pu ps ?_)
  have no : ¬ (((its.size : Int) - 1 == 0 && (-1 : Int) == 1 && its.size == its.size) = true) := by simp
  show wpAny _ _ (if ((its.size : Int) - 1 == 0 && (-1 : Int) == 1 && its.size == its.size) = true then _ else _) _ _ s
  rw [if_neg no, pick_rev]
  first
    | exact wpAny_bind (m := Builtin.Tuple.tupleExact _) (wpAny_newObj_type (wpAny_pure ⟨_, rfl, wpAny_pure h⟩) hok)
    | exact wpAny_bind (m := Builtin.Tuple.tupleExact _) (wpAny_newObj_type (wpAny_bind (wpAny_pure (wpAny_pure ⟨_, rfl, wpAny_pure h⟩))) hok)
    | exact wpAny_bind (wpAny_bind (m := Builtin.Tuple.tupleExact _) (wpAny_newObj_type (wpAny_pure (wpAny_pure ⟨_, rfl, wpAny_pure h⟩)) hok))
    | exact wpAny_bind (wpAny_bind (m := Builtin.Tuple.tupleExact _) (wpAny_newObj_type (wpAny_pure ⟨_, rfl, wpAny_pure h⟩) hok))
/-- t[::-1] -/
def tRevT (K : PySem.W.Frag) (te : TE) : TE := fun σ H Q => te σ H fun x H1 => ∃ a xs, x = .ref a ∧ SqT K H1 a xs ∧ ∀ p, H1 p = none → Q (.ref p) (upd H1 p (.tup xs.reverse))
theorem pe_revT {X : Cx} {e : Expr} {te : TE} {k : Nat} {p1 p2 p3 pos : Pos} (he : PE X e te) : PE X (.Subscript e (.Slice none none (some (.UnaryOp .USub (.Constant (.int 1) k p1) p2)) p3) pos) (tRevT X.K te) := by
  constructor
  intro pins s σ H Q I h
  refine Subscript_ (thn (he.run pins s σ H _ I h) fun v s1 ⟨x, G1, I1, r1, a, xs, ex, hx, k1⟩ => ?_)
  subst ex
  cases r1
  have st : PO X (some (.UnaryOp .USub (.Constant (.int 1) k p1) p2)) (tPart (tUn (rU fun i => .int (-i)) (tC (.int 1)))) := po_some (pe_un un_neg pe_int)
  refine wpAny_Slice (thn (po_none.run pins s1 σ G1 (fun o G => o = none ∧ G = G1) I1 ⟨rfl, rfl⟩) fun vl s2 ⟨l, G2, I2, pl, el, g2⟩ => ?_)
  subst el g2
  refine thn (po_none.run pins s2 σ G2 (fun o G => o = none ∧ G = G2) I2 ⟨rfl, rfl⟩) fun vu s3 ⟨u, G3, I3, pu, eu, g3⟩ => ?_
  subst eu g3
  refine thn (st.run pins s3 σ G3 (fun o G => o = some (-1) ∧ G = G3) I3 ⟨1, rfl, -1, rfl, rfl, rfl⟩) fun vs s4 ⟨o, G4, I4, ps, eo, g4⟩ => ?_
  subst eo g4
  have I5 : Inv X pins σ G4 { s4 with heap := s4.heap.push { cls := .type "slice", data := .fields #[vl, vu, vs] } } := I4.kept (t' := s4.toks) fun b ob q => Heap.get?_push_of_some _ q
  obtain ⟨its, r, ht, hz⟩ := I5.tuple hx
  have hlen := r.length
  show wpAny (model X.prog X.w) X.A (subscriptTail e (.Slice none none (some (.UnaryOp .USub (.Constant (.int 1) k p1) p2)) p3) (.ref a) (.ref s4.heap.objs.size)) (EP X pins σ Q) X.xe { s4 with heap := s4.heap.push { cls := .type "slice", data := .fields #[vl, vu, vs] } }
  refine tail_any (ops := [.ref a, .ref s4.heap.objs.size]) ht.typeIs (PyProof.Rows.slot_tuple_getitem.lookup) ?_ (by with_unfolding_all rfl)
  refine getItem_tuple_rev ht (Heap.IsSliceOf.new _ vl vu vs) pl pu ps ?_ (by rw [List.size_toArray]; omega)
  refine ⟨.ref _, _, I5.laid (t' := s4.toks) (o := .tup xs.reverse) (fun b ob q => Heap.get?_push_of_some _ q) (Nat.le_refl _) ?_, rfl, k1 _ (I5.hok.fresh (Nat.le_refl _))⟩
  exact ⟨by rw [List.length_reverse]; exact hz, _, r.reverse, IsTup.new _ _⟩
/-- t.count(c), a tuple of bools -/
def rCntT (K : PySem.W.Frag) : V → List V → Hp → VK → Prop := fun x xs H Q => ∃ (p : Addr) (bs : List Bool) (c : Bool), x = .ref p ∧ xs = [.bl c] ∧ SqT K H p (bs.map V.bl) ∧ Q (.int (bs.count c : Nat)) H
def isB (c : Bool) (u : Value) : Bool := match u with
  | .bool b => b == c
  | _ => false
/-- tuple(list), the new object known as it is -/
def rTupZ (K : PySem.W.Frag) : List V → Hp → VK → Prop := fun xs H Q => ∃ p ys, xs = [.ref p] ∧ SqL K H p ys ∧ ∀ l (ob : Obj), H l = none → ob.dict = none → Q (.ref l) (upd H l (.frz ob (.tup ys)))
theorem call_tuple_ofZ {X : Cx} : CallR X (.type "tuple") (rTupZ X.K) := by
  intro pins s σ H xs us Q I r h
  obtain ⟨p, ys, rfl, hq, q⟩ := h
  obtain ⟨u, rfl, ru⟩ := vals1 r
  cases ru
  obtain ⟨its, rv, plc, hz⟩ := I.list hq
  have ln := rv.length
  refine call_tuple_list plc.isList (fun g kp => ?_) (by simp only [List.size_toArray] <;> omega)
  have J : Inv X pins σ H { s with heap := g } := I.kept (t' := s.toks) kp
  have J2 : Inv X pins σ (upd H g.objs.size (.frz { cls := .type "tuple", data := .seq its.toArray } (.tup ys))) { s with heap := g.push { cls := .type "tuple", data := .seq its.toArray } } :=
    J.laid (t' := s.toks) (fun b o e => Heap.get?_push_of_some _ e) (Nat.le_refl _) (show ObjOk X.prog X.w _ _ _ (.frz { cls := .type "tuple", data := .seq its.toArray } (.tup ys)) from ⟨Heap.get?_push_size _ rfl, hz, its, rv, IsTup.new _ _⟩)
  exact ⟨.ref g.objs.size, _, J2, rfl, q _ _ (J.hok.fresh (Nat.le_refl _)) rfl⟩
/-- t.count(c), t a tuple of bools known as it is -/
def tCntZ (to : TE) (ts : TA) : TE := fun σ H Q => to σ H fun x H1 => ∃ (p : Addr) (ob : Obj) (bs : List Bool), x = .ref p ∧ H1 p = some (.frz ob (.tup (bs.map V.bl))) ∧ ob.dict = none ∧ ts σ H1 fun ys H2 => ∃ c, ys = [.bl c] ∧ H2 p = some (.frz ob (.tup (bs.map V.bl))) ∧ Q (.int (bs.count c : Nat)) H2
/-! ### own classes: x in o, C(a, *b), C(*b), defs with *b, C.m(a) -/
section
variable {X : Cx} {CX : CXT} {k : Nat} {f C : Addr} {fd : FuncData} {ps : List Str} {sp : Sp} {E : XK}
def rInOwn (C : Addr) (sp : Sp) (E : XK) (g : Bool → Bool) : R2 := fun x y H Q => IsC C H y ∧ sp [y, x] H (fun z H' => ∃ b, z = .bl b ∧ Q (.bl (g b)) H') E
open StX in
/-- C(a, .., *b) -/
theorem pe_makeS2 {x : Str} {e : Expr} {es : List Expr} {t : TA} {p pos : Pos} (M : Mk X.K C f) (F : FnR X.prog X.w X.K X.mg X.base CX k f sp) (hr : Room (k + 1) X.A) (hg : Gl X x) (hm : X.mg x = some (.ref C)) (hx : Passes CX X E) (ha : PA X (e :: es) t) (hdb : (x == ("__debug__" : Str)) = false := by decide)
    (he : starEach (e :: es) X.env = (false, eval e X.env) :: starEach es X.env := by rfl) (hst : (backTo pos (starEach es X.env)).any (·.1) = true := by rfl) : PE X (.Call (.Name x p) (e :: es) [] pos) (tMakeR C sp E t) := by
  constructor
  intro pins s σ H Q I h
  exact wpAny_Call_Name_kw (ld_glob I hg hm (PySem.W.callWith_S2 (h₀ := X.base) I.ok.mod.kin M.kp (thn (ha.run pos pins s σ H _ I h) fun us t ⟨vs, H1, I1, r, q⟩ => ⟨I1.kIn, run_makeR M F hr hx I1 r q⟩) he hst) hdb)
open StX in
/-- C(*b) -/
theorem pe_makeS1 {x : Str} {e : Expr} {te : TE} {p sp_ pos : Pos} (M : Mk X.K C f) (F : FnR X.prog X.w X.K X.mg X.base CX k f sp) (hr : Room (k + 1) X.A) (hg : Gl X x) (hm : X.mg x = some (.ref C)) (hx : Passes CX X E) (he : PE X e te) (hdb : (x == ("__debug__" : Str)) = false := by decide)
    (hst : starEach [.Starred e sp_] X.env = [(true, eval e X.env)] := by rfl) :
    PE X (.Call (.Name x p) [.Starred e sp_] [] pos) (fun σ H Q => te σ H fun y H1 => ∃ a xs, y = V.ref a ∧ (SqT X.K H1 a xs ∨ SqL X.K H1 a xs) ∧ ∀ x dx, H1 x = none → H1 dx = none → dx ≠ x → sp (V.ref x :: xs) (upd (upd H1 dx (.own x)) x (.ins C dx [])) (fun v H2 => v = .non ∧ Q (.ref x) H2) E) := by
  constructor
  intro pins s σ H Q I h
  refine wpAny_Call_Name_kw (ld_glob I hg hm (PySem.W.callWith_S (h₀ := X.base) I.ok.mod.kin M.kp (thn (he.run pins s σ H _ I h) fun v t ⟨y, H1, I1, ry, a, xs, ey, hxs, q⟩ => ?_) hst) hdb)
  subst ey
  obtain rfl : v = Value.ref a := ry
  exact star_any I1 hxs fun us t2 I2 rv => ⟨I2.kIn, run_makeR M F hr hx I2 rv q⟩
end
/-- what a def with a star behind its parameters is asked -/
def spStar (n : Nat) (sp : Sp) : Sp := fun vs H Q E => ∃ ws rest, vs = ws ++ rest ∧ ws.length = n ∧ rest.length ≤ sizeLine ∧ ∀ p, H p = none → sp (ws ++ [V.ref p]) (upd H p (.tup rest)) Q E
theorem Fun.okStar {P : Program} {w : World} {K : PySem.W.Frag} {mg : Str → Option Value} {base : Heap} {x qual : Str} {st : Stmt} {f : Addr} {fd : FuncData} {N ps : List Str} {pv : Str} {k : Nat} {sp : Sp} (F : Fun K x qual st f fd) (S : FnScope N (ps ++ [pv]) (defScope st))
    (hb : ∀ (kV doc pm : Value) (an : Option Addr) (cdv ct : Value) (us rest : List Value), us.length = ps.length → bindArgs (PySem.W.fnOf x qual (defArgs st) (defBody st) (defScope st) .none kV doc pm an cdv ct) ⟨us ++ rest, []⟩ = (newTuple rest >>= fun t => pure (ps.zip us ++ [(pv, t)])))
    (hbody : ∀ (cdv : Value) (A : Around) (outer : List Env) (s : Shared) (H : Hp) (vs : List V) (Q : VK) (E : XK), Room k (A.deeper (envOfC qual (defScope st) s.heap.objs.size f cdv)) → sp vs H Q E →
      ∃ t, PSs (cxOf (L2.CX P w) P w K mg base N qual (defScope st) f cdv A outer s H E) (defBody st) t ∧ t { nx := fun _ H' => Q .non H', rt := Q } (start N vs) H) : FnR P w K mg base (L2.CX P w) (k + 1) f (spStar ps.length sp) := by
  obtain ⟨oc, od, kV, doc, pm, an, cdv, ct, osl, rfl, lk, hcd⟩ := F.ex
  exact StX.fn_star lk hcd S StX.cxUp (hb kV doc pm an cdv ct) fun A outer s H vs Q E hr h => hbody cdv A outer s H vs Q E hr h
/-! ### families: the mathematics -/
/-- m without its bit c -/
def cl (m c : Nat) : Nat := m - (m &&& 1 <<< c)
theorem and_one (m c : Nat) : m &&& 1 <<< c = if m.testBit c then 1 <<< c else 0 := by
  refine Nat.eq_of_testBit_eq fun d => ?_
  rw [Nat.testBit_and, one_bit]
  by_cases e : c = d
  · subst e
    cases h : m.testBit c with
    | true => simp [one_bit]
    | false => simp
  · rw [decide_eq_false e, Bool.and_false]
    split
    · rw [one_bit, decide_eq_false e]
    · simp
theorem cl_le (m c : Nat) : cl m c ≤ m := Nat.sub_le _ _
theorem cl_bit8 : ∀ m : Nat, m < 256 → ∀ c : Nat, c < 8 → ∀ i : Nat, i < 8 → (cl m c).testBit i = (m.testBit i && !decide (i = c)) := by decide +kernel
theorem bit_big {m i : Nat} (h : m < 256) (hi : 8 ≤ i) : m.testBit i = false := Nat.testBit_lt_two_pow (Nat.lt_of_lt_of_le h (Nat.pow_le_pow_right (by decide) hi : 2 ^ 8 ≤ 2 ^ i))
theorem cl_bit {m c : Nat} (h : m < 256) (hc : c < 8) (i : Nat) : (cl m c).testBit i = (m.testBit i && !decide (i = c)) := by
  rcases Nat.lt_or_ge i 8 with k | k
  · exact cl_bit8 m h c hc i k
  · rw [bit_big (Nat.lt_of_le_of_lt (cl_le m c) h) k, bit_big h k] <;> rfl
/-- k is within m -/
def Sub (k m : Nat) : Prop := ∀ i, k.testBit i = true → m.testBit i = true
def subB (k m : Nat) : Bool := k &&& m == k
theorem subB_iff {k m : Nat} : subB k m = true ↔ Sub k m := by
  unfold subB Sub
  rw [beq_iff_eq]
  constructor
  · intro e i h
    rw [← e, Nat.testBit_and] at h
    exact (Bool.and_eq_true_iff.mp h).2
  · intro h
    refine Nat.eq_of_testBit_eq fun i => ?_
    rw [Nat.testBit_and]
    cases e : k.testBit i with
    | true => rw [h i e] <;> rfl
    | false => rfl
theorem Sub.refl (k : Nat) : Sub k k := fun _ h => h
theorem Sub.trans {a b c : Nat} (h : Sub a b) (k : Sub b c) : Sub a c := fun i x => k i (h i x)
theorem Sub.le {k m : Nat} (h : Sub k m) : k ≤ m := by
  have e := subB_iff.mpr h
  unfold subB at e
  rw [beq_iff_eq] at e
  rw [← e]
  exact Nat.and_le_right
theorem sub_cl {m c : Nat} (h : m < 256) (hc : c < 8) : Sub (cl m c) m := fun i x => by
  rw [cl_bit h hc] at x
  exact (Bool.and_eq_true_iff.mp x).1
theorem sub_zero {k : Nat} (h : Sub k 0) : k = 0 := Nat.eq_of_testBit_eq fun i => by
  cases e : k.testBit i with
  | true =>
    have := h i e
    simp at this
  | false => simp
theorem sub_top {n k : Nat} (h : k < 2 ^ n) : Sub k (2 ^ n - 1) := fun i x => by
  rw [Nat.testBit_two_pow_sub_one, decide_eq_true_eq]
  rcases Nat.lt_or_ge i n with z | z
  · exact z
  · rw [Nat.testBit_lt_two_pow (Nat.lt_of_lt_of_le h (Nat.pow_le_pow_right (by decide) z))] at x
    cases x
def upB (ms : List Nat) (m : Nat) : Bool := ms.any fun k => subB k m
theorem upB_iff {ms : List Nat} {m : Nat} : upB ms m = true ↔ ∃ k ∈ ms, Sub k m := by
  unfold upB
  rw [List.any_eq_true]
  exact ⟨fun ⟨k, h, e⟩ => ⟨k, h, subB_iff.mp e⟩, fun ⟨k, h, e⟩ => ⟨k, h, subB_iff.mpr e⟩⟩
/-- growing copy by copy -/
def growN : Nat → (Nat → Bool) → Nat → Bool
  | 0, f => f
  | c + 1, f => fun m => growN c f m || growN c f (cl m c)
theorem growN_iff {f : Nat → Bool} : ∀ {c : Nat}, c ≤ 8 → ∀ {m : Nat}, m < 256 → (growN c f m = true ↔ ∃ k, f k = true ∧ Sub k m ∧ ∀ i, c ≤ i → k.testBit i = m.testBit i)
  | 0, _, m, _ => ⟨fun h => ⟨m, h, Sub.refl m, fun _ _ => rfl⟩, fun ⟨k, h, _, e⟩ => by
    have : k = m := Nat.eq_of_testBit_eq fun i => e i (Nat.zero_le i)
    rw [← this]
    exact h⟩
  | c + 1, hc, m, hm => by
    have hm2 := Nat.lt_of_le_of_lt (cl_le m c) hm
    have ih1 := @growN_iff f c (by omega) m hm
    have ih2 := @growN_iff f c (by omega) (cl m c) hm2
    show (growN c f m || growN c f (cl m c)) = true ↔ _
    rw [Bool.or_eq_true, ih1, ih2]
    constructor
    · rintro (⟨k, h, s, e⟩ | ⟨k, h, s, e⟩)
      · exact ⟨k, h, s, fun i hi => e i (by omega)⟩
      · refine ⟨k, h, s.trans (sub_cl hm (by omega)), fun i hi => ?_⟩
        rw [e i (by omega), cl_bit hm (by omega), decide_eq_false (by omega : ¬ i = c)]
        simp
    · rintro ⟨k, h, s, e⟩
      by_cases hb : k.testBit c = m.testBit c
      · refine .inl ⟨k, h, s, fun i hi => ?_⟩
        rcases Nat.eq_or_lt_of_le hi with rfl | hi
        · exact hb
        · exact e i hi
      · have kf : k.testBit c = false := by
          cases q : k.testBit c with
          | true => exact absurd (by rw [q, s c q]) hb
          | false => rfl
        refine .inr ⟨k, h, fun i x => ?_, fun i hi => ?_⟩
        · rw [cl_bit hm (by omega), s i x]
          by_cases z : i = c
          · rw [z, kf] at x
            cases x
          · simp [z]
        · rw [cl_bit hm (by omega)]
          by_cases z : i = c
          · rw [z, kf]
            simp
          · rw [e i (by omega)]
            simp [z]
theorem growN_up {n m : Nat} {ms : List Nat} (hn : n ≤ 8) (hm : m < 2 ^ n) (hk : ∀ k ∈ ms, k < 2 ^ n) : growN n (fun m => decide (m ∈ ms)) m = upB ms m := by
  have h256 : m < 256 := Nat.lt_of_lt_of_le hm (pow_le8 hn)
  have h1 := @growN_iff (fun m => decide (m ∈ ms)) n hn m h256
  rw [Bool.eq_iff_iff, h1, upB_iff]
  constructor
  · rintro ⟨k, h, s, _⟩
    exact ⟨k, of_decide_eq_true h, s⟩
  · rintro ⟨k, h, s⟩
    refine ⟨k, decide_eq_true h, s, fun i hi => ?_⟩
    rw [Nat.testBit_lt_two_pow (Nat.lt_of_lt_of_le (hk k h) (Nat.pow_le_pow_right (by decide) hi)), Nat.testBit_lt_two_pow (Nat.lt_of_lt_of_le hm (Nat.pow_le_pow_right (by decide) hi))]
/-- a family of n copies: which masks it has -/
structure Fm (n : Nat) (f : Nat → Bool) : Prop where
  n1 : 1 ≤ n
  n8 : n ≤ 8
  up : ∀ k m, Sub k m → m < 2 ^ n → f k = true → f m = true
  top : f (2 ^ n - 1) = true
  bot : f 0 = false
theorem fm_upB {n : Nat} {ms : List Nat} (n1 : 1 ≤ n) (n8 : n ≤ 8) (hne : ms ≠ []) (h : ∀ k ∈ ms, k < 2 ^ n ∧ k ≠ 0) : Fm n (upB ms) := by
  refine ⟨n1, n8, fun k m s _ e => ?_, ?_, ?_⟩
  · obtain ⟨j, hj, t⟩ := upB_iff.mp e
    exact upB_iff.mpr ⟨j, hj, t.trans s⟩
  · obtain ⟨k, r, rfl⟩ := List.exists_cons_of_ne_nil hne
    exact upB_iff.mpr ⟨k, List.mem_cons_self, sub_top (h k List.mem_cons_self).1⟩
  · cases e : upB ms 0 with
    | false => rfl
    | true =>
      obtain ⟨k, hk, s⟩ := upB_iff.mp e
      exact absurd (sub_zero s) (h k hk).2
def minB (n : Nat) (f : Nat → Bool) (m : Nat) : Bool := f m && !((List.range n).any fun c => m.testBit c && f (m - 1 <<< c))
def minL (n : Nat) (f : Nat → Bool) : List Nat := (List.range (2 ^ n)).filter (minB n f)
theorem cl_sub {m c : Nat} (h : m.testBit c = true) : m - 1 <<< c = cl m c := by
  unfold cl
  rw [and_one, h] <;> rfl
theorem cl_lt {m c : Nat} (h : m.testBit c = true) : cl m c < m := by
  rw [← cl_sub h]
  have : 0 < 1 <<< c := by rw [Nat.one_shiftLeft]; exact Nat.two_pow_pos c
  have hm : 0 < m := by
    rcases Nat.eq_zero_or_pos m with z | z
    · subst z
      simp at h
    · exact z
  omega
theorem min_below {n : Nat} {f : Nat → Bool} (hn : n ≤ 8) : ∀ {m : Nat}, m < 2 ^ n → f m = true → ∃ k, k < 2 ^ n ∧ minB n f k = true ∧ Sub k m := by
  intro m
  induction m using Nat.strongRecOn with
  | ind m ih =>
    intro hm h
    cases e : (List.range n).any (fun c => m.testBit c && f (m - 1 <<< c)) with
    | false => exact ⟨m, hm, by unfold minB; rw [h, e] <;> rfl, Sub.refl m⟩
    | true =>
      obtain ⟨c, hc, x⟩ := List.any_eq_true.mp e
      obtain ⟨x1, x2⟩ := Bool.and_eq_true_iff.mp x
      have hc8 : c < 8 := Nat.lt_of_lt_of_le (List.mem_range.mp hc) hn
      have hm256 : m < 256 := Nat.lt_of_lt_of_le hm (pow_le8 hn)
      rw [cl_sub x1] at x2
      have lt := cl_lt x1
      obtain ⟨k, h1, h2, h3⟩ := ih (cl m c) lt (Nat.lt_trans lt hm) x2
      exact ⟨k, h1, h2, h3.trans (sub_cl hm256 hc8)⟩
theorem fm_min {n : Nat} {f : Nat → Bool} (F : Fm n f) {m : Nat} (hm : m < 2 ^ n) : upB (minL n f) m = f m := by
  rw [Bool.eq_iff_iff, upB_iff]
  constructor
  · rintro ⟨k, hk, s⟩
    refine F.up k m s hm ?_
    have := (List.mem_filter.mp hk).2
    unfold minB at this
    exact (Bool.and_eq_true_iff.mp this).1
  · intro h
    obtain ⟨k, h1, h2, h3⟩ := min_below F.n8 hm h
    exact ⟨k, List.mem_filter.mpr ⟨List.mem_range.mpr h1, h2⟩, h3⟩
theorem minB_congr {n : Nat} {f g : Nat → Bool} (h : ∀ m, m < 2 ^ n → f m = g m) {m : Nat} (hm : m < 2 ^ n) : minB n f m = minB n g m := by
  unfold minB
  rw [h m hm]
  congr 2
  refine congrArg (List.any (List.range n)) (funext fun c => ?_)
  rw [h _ (Nat.lt_of_le_of_lt (Nat.sub_le _ _) hm)]
theorem minL_congr {n : Nat} {f g : Nat → Bool} (h : ∀ m, m < 2 ^ n → f m = g m) : minL n f = minL n g := by
  unfold minL
  refine List.filter_congr fun m hm => minB_congr h (List.mem_range.mp hm)
theorem minL_inj {n : Nat} {f g : Nat → Bool} (F : Fm n f) (G : Fm n g) (h : minL n f = minL n g) {m : Nat} (hm : m < 2 ^ n) : f m = g m := by
  rw [← fm_min F hm, ← fm_min G hm, h]
theorem minL_lt {n : Nat} {f : Nat → Bool} {m : Nat} (h : m ∈ minL n f) : m < 2 ^ n := List.mem_range.mp (List.mem_filter.mp h).1
theorem minL_f {n : Nat} {f : Nat → Bool} {m : Nat} (h : m ∈ minL n f) : f m = true := by
  have := (List.mem_filter.mp h).2
  unfold minB at this
  exact (Bool.and_eq_true_iff.mp this).1
theorem minL_ne {n : Nat} {f : Nat → Bool} (F : Fm n f) : minL n f ≠ [] := by
  have hp : 2 ^ n - 1 < 2 ^ n := Nat.sub_lt (Nat.two_pow_pos n) Nat.one_pos
  obtain ⟨k, h1, h2, _⟩ := min_below F.n8 hp F.top
  exact List.ne_nil_of_mem (List.mem_filter.mpr ⟨List.mem_range.mpr h1, h2⟩)
/-- families that agree -/
def eqB (n : Nat) (f g : Nat → Bool) : Bool := (List.range (2 ^ n)).all fun m => f m == g m
theorem eqB_iff {n : Nat} {f g : Nat → Bool} : eqB n f g = true ↔ ∀ m, m < 2 ^ n → f m = g m := by
  unfold eqB
  rw [List.all_eq_true]
  exact ⟨fun h m hm => beq_iff_eq.mp (h m (List.mem_range.mpr hm)), fun h m hm => beq_iff_eq.mpr (h m (List.mem_range.mp hm))⟩
theorem minL_eq {n : Nat} {f g : Nat → Bool} (F : Fm n f) (G : Fm n g) : decide (minL n f = minL n g) = eqB n f g := by
  rw [Bool.eq_iff_iff, decide_eq_true_eq, eqB_iff]
  exact ⟨fun h m hm => minL_inj F G h hm, minL_congr⟩
def leB (n : Nat) (f g : Nat → Bool) : Bool := (List.range (2 ^ n)).all fun m => g m || !f m
theorem leB_iff {n : Nat} {f g : Nat → Bool} : leB n f g = true ↔ ∀ m, m < 2 ^ n → f m = true → g m = true := by
  unfold leB
  rw [List.all_eq_true]
  refine ⟨fun h m hm hf => ?_, fun h m hm => ?_⟩
  · have := h m (List.mem_range.mpr hm)
    rw [hf] at this
    simpa using this
  · cases e : f m with
    | true => rw [h m (List.mem_range.mp hm) e] <;> rfl
    | false => simp
/-- the mask of the others -/
def oth (n m : Nat) : Nat := 2 ^ n - 1 - m
theorem oth_lt {n m : Nat} : oth n m < 2 ^ n := by
  unfold oth
  have := Nat.two_pow_pos n
  omega
theorem oth_oth {n m : Nat} (h : m < 2 ^ n) : oth n (oth n m) = m := by
  unfold oth
  omega
theorem oth_bit {n m : Nat} (h : m < 2 ^ n) (c : Nat) : (oth n m).testBit c = (decide (c < n) && !m.testBit c) := other_bit h c
theorem oth_sub {n k m : Nat} (hk : k < 2 ^ n) (hm : m < 2 ^ n) (h : Sub k m) : Sub (oth n m) (oth n k) := fun i x => by
  rw [oth_bit hm] at x
  rw [oth_bit hk]
  obtain ⟨x1, x2⟩ := Bool.and_eq_true_iff.mp x
  rw [x1]
  cases e : k.testBit i with
  | true => rw [h i e] at x2; cases x2
  | false => rfl
theorem oth_top {n : Nat} : oth n (2 ^ n - 1) = 0 := by
  unfold oth
  omega
theorem oth_zero {n : Nat} : oth n 0 = 2 ^ n - 1 := by
  unfold oth
  omega
def dualB (n : Nat) (f : Nat → Bool) (m : Nat) : Bool := !f (oth n m)
theorem Fm.dual {n : Nat} {f : Nat → Bool} (F : Fm n f) : Fm n (dualB n f) := by
  have h0 := Nat.two_pow_pos n
  refine ⟨F.n1, F.n8, fun k m s hm h => ?_, ?_, ?_⟩
  · have hk : k < 2 ^ n := Nat.lt_of_le_of_lt s.le hm
    unfold dualB at h ⊢
    cases e : f (oth n m) with
    | false => rfl
    | true =>
      rw [F.up _ _ (oth_sub hk hm s) oth_lt e] at h
      cases h
  · unfold dualB
    rw [oth_top, F.bot] <;> rfl
  · unfold dualB
    rw [oth_zero, F.top] <;> rfl
theorem Fm.or {n : Nat} {f g : Nat → Bool} (F : Fm n f) (G : Fm n g) : Fm n (fun m => f m || g m) := by
  refine ⟨F.n1, F.n8, fun k m s hm h => ?_, ?_, ?_⟩
  · rw [Bool.or_eq_true] at h ⊢
    exact h.imp (F.up k m s hm) (G.up k m s hm)
  · simp only [F.top, Bool.true_or]
  · simp only [F.bot, G.bot, Bool.or_false]
/-- each lot of the one meets each of the other -/
def meetB (n : Nat) (f g : Nat → Bool) : Bool := !((List.range (2 ^ n)).any fun m => f m && g (oth n m))
def sizeF (n : Nat) (f : Nat → Bool) : Nat := ((List.range (2 ^ n)).map f).count true
theorem dd {n m : Nat} {f : Nat → Bool} (h : m < 2 ^ n) : dualB n (dualB n f) m = f m := by
  unfold dualB
  rw [oth_oth h, Bool.not_not]
theorem eqB_of {n : Nat} {f g : Nat → Bool} (h : ∀ m, m < 2 ^ n → f m = g m) : eqB n f g = true := eqB_iff.mpr h
theorem le_dual (n : Nat) (f g : Nat → Bool) : leB n (dualB n g) (dualB n f) = leB n f g := by
  rw [Bool.eq_iff_iff, leB_iff, leB_iff]
  unfold dualB
  constructor
  · intro h m hm hf
    cases e : g m with
    | true => rfl
    | false =>
      have := h (oth n m) oth_lt (by rw [oth_oth hm, e] <;> rfl)
      rw [oth_oth hm, hf] at this
      cases this
  · intro h m hm hg
    cases e : f (oth n m) with
    | false => rfl
    | true =>
      rw [h _ oth_lt e] at hg
      cases hg
theorem leB_congr {n : Nat} {f f' g g' : Nat → Bool} (h : ∀ m, m < 2 ^ n → f m = f' m) (k : ∀ m, m < 2 ^ n → g m = g' m) : leB n f g = leB n f' g' := by
  rw [Bool.eq_iff_iff, leB_iff, leB_iff]
  exact ⟨fun z m hm x => by rw [← k m hm]; exact z m hm (by rw [h m hm]; exact x), fun z m hm x => by rw [k m hm]; exact z m hm (by rw [← h m hm]; exact x)⟩
/-! ### families: the objects -/
def marksV (n : Nat) (f : Nat → Bool) : List V := ((List.range (2 ^ n)).map f).map V.bl
theorem marksV_len (n : Nat) (f : Nat → Bool) : (marksV n f).length = 2 ^ n := by
  unfold marksV
  rw [List.length_map, List.length_map, List.length_range]
theorem marksV_at {n m : Nat} (f : Nat → Bool) (h : m < 2 ^ n) : (marksV n f)[m]? = some (.bl (f m)) := by
  unfold marksV
  rw [List.getElem?_map, List.getElem?_map, List.getElem?_range h] <;> rfl
theorem marksV_get {n m : Nat} {f : Nat → Bool} {x : V} (h : (marksV n f)[m]? = some x) : m < 2 ^ n ∧ x = .bl (f m) := by
  have hm : m < 2 ^ n := by
    rw [← marksV_len n f]
    exact (List.getElem?_eq_some_iff.mp h).1
  rw [marksV_at f hm] at h
  exact ⟨hm, (Option.some.inj h).symm⟩
theorem marksV_congr {n : Nat} {f g : Nat → Bool} (h : ∀ m, m < 2 ^ n → f m = g m) : marksV n f = marksV n g := by
  unfold marksV
  rw [List.map_congr_left fun m hm => h m (List.mem_range.mp hm)]
theorem marksV_fn {n : Nat} {f : Nat → Bool} {ys : List V} (h : ys = (List.range (2 ^ n)).map fun m => V.bl (f m)) : ys = marksV n f := by
  rw [h]
  unfold marksV
  rw [List.map_map]
  rfl
theorem ixN_nat {N m : Nat} (h : m < N) : ixN N (m : Int) = some m := by
  unfold ixN
  rw [if_pos (by omega), if_pos (by omega), Int.toNat_natCast]
theorem marksV_set {n m : Nat} (f : Nat → Bool) (h : m < 2 ^ n) : (marksV n f).set m (.bl true) = marksV n (fun k => if k = m then true else f k) := by
  refine List.ext_getElem? fun i => ?_
  rw [List.getElem?_set]
  by_cases e : m = i
  · subst e
    rw [if_pos rfl, marksV_len, if_pos h, marksV_at _ h, if_pos rfl]
  · rw [if_neg e]
    unfold marksV
    rw [List.getElem?_map, List.getElem?_map, List.getElem?_map, List.getElem?_map]
    cases hi : (List.range (2 ^ n))[i]? with
    | none => rfl
    | some j =>
      have : j = i := by
        have h2 := (List.getElem?_eq_some_iff.mp hi)
        obtain ⟨h3, h4⟩ := h2
        rw [List.getElem_range] at h4
        exact h4.symm
      subst this
      show some (V.bl (f j)) = some (V.bl (if j = m then true else f j))
      rw [if_neg (Ne.symm e)]
theorem and_not (m c : Nat) : Builtin.bitAnd (m : Int) (Builtin.bitNot ((1 : Int) * (2 : Int) ^ ((c : Int)).toNat)) = ((cl m c : Nat) : Int) := by
  rw [PyProof.Rows.bitAnd_not, shl_nat, bitAnd_nat]
  unfold cl
  have : m &&& 1 <<< c ≤ m := Nat.and_le_left
  omega
theorem any_fm {p g : Nat → Bool} : ∀ (l : List Nat), (l.filterMap fun c => if p c = true then some (g c) else none).any id = l.any fun c => p c && g c
  | [] => rfl
  | c :: r => by
    rw [List.filterMap_cons, List.any_cons, ← any_fm r]
    cases p c with
    | true => simp
    | false => simp
/-- what stands but for the instance at a -/
theorem seqT_exc {K : PySem.W.Frag} {H H' : Hp} {a b C dx : Addr} {fs : List (Str × V)} {xs : List V} (ha : H a = some (.ins C dx fs)) (e : Exc a H H') (h : SqT K H b xs) : SqT K H' b xs := by
  rcases h with (h | ⟨o, h⟩) | h
  · exact .inl (.inl (e b _ (fun z => by rw [z, ha] at h; cases h) h))
  · exact .inl (.inr ⟨o, e b _ (fun z => by rw [z, ha] at h; cases h) h⟩)
  · exact .inr h
theorem Lot.exc {K : PySem.W.Frag} {H H' : Hp} {a C dx m : Nat} {fs : List (Str × V)} {v : V} (ha : H a = some (.ins C dx fs)) (e : Exc a H H') (h : Lot K H m v) : Lot K H' m v := by
  obtain ⟨b, rfl, h⟩ := h
  exact ⟨b, rfl, seqT_exc ha e h⟩
theorem exc_at {a : Addr} {H : Hp} {o : HO} : Exc a H (upd H a o) := fun b u n h => (upd_ne n).trans h
theorem putF_le (x : Str) (v : V) : ∀ fs : List (Str × V), (putF x v fs).length ≤ fs.length + 1
  | [] => by simp [putF]
  | p :: r => by
    unfold putF
    split
    · simp
    · have := putF_le x v r
      simp
      omega
theorem few1 {x : Str} {v : V} : (putF x v []).length < 1000 := Nat.lt_of_le_of_lt (putF_le _ _ _) (by decide)
theorem few2 {x y : Str} {v u : V} : (putF x v (putF y u [])).length < 1000 := by
  have h1 := putF_le x v (putF y u [])
  have h2 := putF_le y u []
  simp at h2
  omega
theorem marksV_rev (n : Nat) (f : Nat → Bool) : (marksV n f).reverse = marksV n fun m => f (oth n m) := by
  refine List.ext_getElem? fun i => ?_
  rcases Nat.lt_or_ge i (2 ^ n) with h | h
  · rw [marksV_at _ h, List.getElem?_reverse (by rw [marksV_len]; exact h), marksV_len]
    have : 2 ^ n - 1 - i < 2 ^ n := by omega
    rw [marksV_at f this]
    rfl
  · rw [List.getElem?_eq_none (by rw [List.length_reverse, marksV_len]; exact h), List.getElem?_eq_none (by rw [marksV_len]; exact h)]
theorem fit_lotsT (l : List Nat) : Fit 2 (.tuple (l.map lotD)) := fit_tup fun d hd => by
  obtain ⟨m, _, rfl⟩ := List.mem_map.mp hd
  exact fit_lot m
theorem eqv_ints : ∀ (xs ys : List Int), PyData.eqvAll (xs.map PyData.int) (ys.map PyData.int) = decide (xs = ys)
  | [], [] => by simp [PyData.eqvAll]
  | [], _ :: _ => by simp [PyData.eqvAll]
  | _ :: _, [] => by simp [PyData.eqvAll]
  | x :: r, y :: t => by
    rw [List.map_cons, List.map_cons, PyData.eqvAll, PyData.eqv, eqv_ints r t]
    by_cases h : x = y
    · subst h
      simp
    · simp [h]
theorem eqv_lot {m k : Nat} (hm : m < 256) (hk : k < 256) : PyData.eqv (lotD m) (lotD k) = decide (m = k) := by
  unfold lotD
  rw [PyData.eqv, eqv_ints]
  by_cases e : m = k
  · subst e
    simp
  · rw [decide_eq_false e, decide_eq_false fun z => e (by rw [← mask_lotV hm, ← mask_lotV hk]; unfold lotV; rw [z])]
theorem eqv_lotsA : ∀ {xs ys : List Nat}, (∀ m ∈ xs, m < 256) → (∀ m ∈ ys, m < 256) → PyData.eqvAll (xs.map lotD) (ys.map lotD) = decide (xs = ys)
  | [], [], _, _ => by simp [PyData.eqvAll]
  | [], _ :: _, _, _ => by simp [PyData.eqvAll]
  | _ :: _, [], _, _ => by simp [PyData.eqvAll]
  | x :: r, y :: t, h1, h2 => by
    rw [List.map_cons, List.map_cons, PyData.eqvAll, eqv_lot (h1 x List.mem_cons_self) (h2 y List.mem_cons_self), eqv_lotsA (fun m hm => h1 m (List.mem_cons_of_mem _ hm)) fun m hm => h2 m (List.mem_cons_of_mem _ hm)]
    by_cases h : x = y
    · subst h
      simp
    · simp [h]
theorem eqv_lots {xs ys : List Nat} (h1 : ∀ m ∈ xs, m < 256) (h2 : ∀ m ∈ ys, m < 256) : PyData.eqv (.tuple (xs.map lotD)) (.tuple (ys.map lotD)) = decide (xs = ys) := by
  rw [PyData.eqv, eqv_lotsA h1 h2]
theorem cut_one (x : V) (r : List V) : cutV (x :: r) (some 1) none = r := by
  unfold cutV HT.sIx
  simp
def famF (n : Nat) (tl tm : Addr) : List (Str × V) := putF "marks" (.ref tm) (putF "lots" (.ref tl) (putF "copies" (.int n) []))
theorem ml0 : ¬ (("marks" : Str) = "lots") := by decide +kernel
theorem mc0 : ¬ (("marks" : Str) = "copies") := by decide +kernel
theorem lc0 : ¬ (("lots" : Str) = "copies") := by decide +kernel
theorem famF_marks (n : Nat) (tl tm : Addr) : (famF n tl tm).lookup ("marks" : Str) = some (.ref tm) := by
  unfold famF
  rw [lookup_putF, if_pos rfl]
theorem famF_lots (n : Nat) (tl tm : Addr) : (famF n tl tm).lookup ("lots" : Str) = some (.ref tl) := by
  unfold famF
  rw [lookup_putF, if_neg (Ne.symm ml0), lookup_putF, if_pos rfl]
theorem famF_copies (n : Nat) (tl tm : Addr) : (famF n tl tm).lookup ("copies" : Str) = some (.int n) := by
  unfold famF
  rw [lookup_putF, if_neg (Ne.symm mc0), lookup_putF, if_neg (Ne.symm lc0), lookup_putF, if_pos rfl]
theorem famF_no (n : Nat) (tl tm : Addr) {x : Str} (h1 : ¬ x = "marks") (h2 : ¬ x = "lots") (h3 : ¬ x = "copies") : (famF n tl tm).lookup x = none := by
  unfold famF
  rw [lookup_putF, if_neg h1, lookup_putF, if_neg h2, lookup_putF, if_neg h3]
  all_goals rfl
/-- v is the family of n copies that f tells -/
structure Fam (K : PySem.W.Frag) (C : Addr) (H : Hp) (v : V) (n : Nat) (f : Nat → Bool) : Prop where
  at_ : ∃ a dx tl tm ls, v = .ref a ∧ H a = some (.ins C dx (famF n tl tm)) ∧ SqT K H tl ls ∧ Paired (fun m y => Lot K H m y) (minL n f) ls ∧ ∃ ob, H tm = some (.frz ob (.tup (marksV n f))) ∧ ob.dict = none
  ok : Fm n f
theorem Fam.sameT {K : PySem.W.Frag} {C : Addr} {H H' : Hp} {v : V} {n : Nat} {f : Nat → Bool} (F : Fam K C H v n f) (e : SameT H H') : Fam K C H' v n f := by
  obtain ⟨⟨a, dx, tl, tm, ls, rfl, h1, h2, h3, ob, h4, h6⟩, h5⟩ := F
  exact ⟨⟨a, dx, tl, tm, ls, rfl, e.ins h1, e.seqT h2, prImp (fun _ _ h => h.sameT e) h3, ob, e _ _ h4 (fun _ z => nomatch z), h6⟩, h5⟩
theorem Fam.same {K : PySem.W.Frag} {C : Addr} {H H' : Hp} {v : V} {n : Nat} {f : Nat → Bool} (F : Fam K C H v n f) (e : Same H H') : Fam K C H' v n f := F.sameT (Same.toT e)
theorem Fam.isC {K : PySem.W.Frag} {C : Addr} {H : Hp} {v : V} {n : Nat} {f : Nat → Bool} (F : Fam K C H v n f) : IsC C H v := by
  obtain ⟨⟨a, dx, tl, tm, ls, rfl, h, _⟩, _⟩ := F
  exact ⟨a, dx, _, rfl, h⟩
theorem Fam.congr {K : PySem.W.Frag} {C : Addr} {H : Hp} {v : V} {n : Nat} {f g : Nat → Bool} (F : Fam K C H v n f) (h : ∀ m, m < 2 ^ n → f m = g m) (G : Fm n g) : Fam K C H v n g := by
  obtain ⟨⟨a, dx, tl, tm, ls, rfl, h1, h2, h3, ob, h4, h6⟩, _⟩ := F
  rw [minL_congr h] at h3
  rw [marksV_congr h] at h4
  exact ⟨⟨a, dx, tl, tm, ls, rfl, h1, h2, h3, ob, h4, h6⟩, G⟩
/-- what is wrong with the lots of a family -/
inductive Bad where
  | ok
  | copy (x : V)
  | empty (i : Nat)
def badFrom (n : Nat) : Nat → List (List V) → Bad
  | _, [] => .ok
  | i, xs :: r => match badOf n xs with
    | some x => .copy x
    | none => if maskV xs = 0 then .empty i else badFrom n (i + 1) r
theorem badFrom_ok {n : Nat} : ∀ {xss : List (List V)} {i : Nat}, badFrom n i xss = .ok → ∀ xs ∈ xss, badOf n xs = none ∧ maskV xs ≠ 0
  | [], _, _, xs, h => by cases h
  | ys :: r, i, e, xs, h => by
    unfold badFrom at e
    cases ho : badOf n ys with
    | some x => rw [ho] at e; cases e
    | none =>
      rw [ho] at e
      simp only at e
      by_cases hz : maskV ys = 0
      · rw [if_pos hz] at e; cases e
      · rw [if_neg hz] at e
        rcases List.mem_cons.mp h with rfl | h
        · exact ⟨ho, hz⟩
        · exact badFrom_ok e xs h
def ErrE (C : Addr) (H : Hp) (E : XK) (i : Nat) : Prop := ∀ d H', H d = none → Same H H' → H' d = some (.xd [("place", .int i)]) → E (.ref C) (some d) H'
theorem ErrE.of {C : Addr} {H H1 : Hp} {E : XK} {i : Nat} (h : ErrE C H E i) (e : Same H H1) : ErrE C H1 E i := fun d H' nd sm hx => h d H' (e.free nd) (e.trans sm) hx
/-- lots as they are handed over -/
def LotArg (K : PySem.W.Frag) (H : Hp) (xs : List V) (v : V) : Prop := ∃ b, v = .ref b ∧ SqA K H b xs ∧ ∀ x ∈ xs, scalV x = true
theorem LotArg.same {K : PySem.W.Frag} {H H' : Hp} {xs : List V} {v : V} (h : LotArg K H xs v) (e : Same H H') : LotArg K H' xs v := by
  obtain ⟨b, rfl, h1, h2⟩ := h
  exact ⟨b, rfl, h1.same e, h2⟩
theorem Lot.arg {K : PySem.W.Frag} {H : Hp} {m : Nat} {v : V} (h : Lot K H m v) : LotArg K H (lotV m) v := by
  obtain ⟨a, rfl, h⟩ := h
  exact ⟨a, rfl, .inr h, fun x hx => scal_lotV hx⟩
theorem badFrom_lots {n : Nat} : ∀ {ms : List Nat} {i : Nat}, (∀ m ∈ ms, m < 2 ^ n ∧ m ≠ 0 ∧ m < 256) → badFrom n i (ms.map lotV) = .ok
  | [], _, _ => rfl
  | m :: r, i, h => by
    obtain ⟨h1, h2, h3⟩ := h m List.mem_cons_self
    rw [List.map_cons]
    unfold badFrom
    rw [badOf_ok fun x hx => lotV_ok h1 hx, mask_lotV h3]
    simp only
    rw [if_neg h2]
    exact badFrom_lots fun x hx => h x (List.mem_cons_of_mem _ hx)
theorem masks_lots {ms : List Nat} (h : ∀ m ∈ ms, m < 256) : (ms.map lotV).map maskV = ms := by
  rw [List.map_map]
  conv => rhs; rw [← List.map_id ms]
  exact List.map_congr_left fun m hm => mask_lotV (h m hm)
/-! ### families: the promises -/
def spMasks (K : PySem.W.Frag) (C CL : Addr) : Sp := fun vs H Q E => ∃ (n : Nat) (p : Addr) (ls : List V) (xss : List (List V)), vs = [.int n, .ref p] ∧ n ≤ 8 ∧ SqT K H p ls ∧ Paired (LotArg K H) xss ls ∧ ls.length ≤ 1000 ∧
  (badFrom n 0 xss = .ok → ∀ q H', Same H H' → H q = none → H' q = some (.lst (xss.map fun xs => .int (maskV xs))) → Q (.ref q) H') ∧
  (∀ x, badFrom n 0 xss = .copy x → Err C H E "copy" x) ∧ (∀ i, badFrom n 0 xss = .empty i → ErrE CL H E i)
def spAbove (K : PySem.W.Frag) : Sp := fun vs H Q _ => ∃ (n : Nat) (p : Addr) (ms : List Nat), vs = [.int n, .ref p] ∧ n ≤ 8 ∧ SqL K H p (ms.map fun (m : Nat) => V.int m) ∧ (∀ m ∈ ms, m < 2 ^ n) ∧
  ∀ q H', Same H H' → H q = none → H' q = some (.lst (marksV n (upB ms))) → Q (.ref q) H'
def spMinimal (K : PySem.W.Frag) : Sp := fun vs H Q _ => ∃ (n : Nat) (p : Addr) (f : Nat → Bool), vs = [.int n, .ref p] ∧ n ≤ 8 ∧ SqL K H p (marksV n f) ∧
  ∀ q ls H', Same H H' → H q = none → H' q = some (.lst ls) → Paired (fun m y => Lot K H' m y) (minL n f) ls → Q (.ref q) H'
def spFam0 (K : PySem.W.Frag) (C CB CL : Addr) : Sp := fun vs H Q E => ∃ (a dx : Addr) (c : V) (p : Addr) (ls : List V) (xss : List (List V)), vs = [.ref a, c, .ref p] ∧ H a = some (.ins C dx []) ∧ Kn K H c ∧ SqT K H p ls ∧ Paired (LotArg K H) xss ls ∧ ls.length ≤ 1000 ∧
  (good c (some 1) (some 8) = false → Err CB H E "copies" c) ∧
  ∀ n : Nat, c = .int n → 1 ≤ n → n ≤ 8 → (xss = [] → Err CB H E "lots" (.int 0)) ∧
    (xss ≠ [] → (∀ x, badFrom n 0 xss = .copy x → Err CB H E "copy" x) ∧ (∀ i, badFrom n 0 xss = .empty i → ErrE CL H E i) ∧
      (badFrom n 0 xss = .ok → ∀ H', (∀ b o, H b = some o → b ≠ a → H' b = some o) → Fam K C H' (.ref a) n (upB (xss.map maskV)) → Q .non H'))
/-- a made family -/
theorem mk_fam {K : PySem.W.Frag} {C CB CL : Addr} {H : Hp} {n : Nat} {rest : List V} {xss : List (List V)} {Q : Addr → Hp → Prop} {E : XK} (n1 : 1 ≤ n) (n8 : n ≤ 8) (hp : Paired (LotArg K H) xss rest) (hl : rest.length ≤ 1000) (hne : xss ≠ []) (hb : badFrom n 0 xss = .ok)
    (h : ∀ a H', Same H H' → Fam K C H' (.ref a) n (upB (xss.map maskV)) → Q a H') :
    ∀ x dx, H x = none → H dx = none → dx ≠ x → spStar 2 (spFam0 K C CB CL) (.ref x :: (.int n :: rest)) (upd (upd H dx (.own x)) x (.ins C dx [])) (fun v H2 => v = .non ∧ Q x H2) E := by
  intro x dx nx nd ne
  have e1000 : (1000 : Nat) ≤ sizeLine := by decide
  refine ⟨[.ref x, .int n], rest, rfl, rfl, by omega, fun p np => ?_⟩
  have s0 : Same H (upd (upd H dx (.own x)) x (.ins C dx [])) := fun b o e => by
    rw [upd_ne (ne_of_none e nx), upd_ne (ne_of_none e nd)]
    exact e
  have sp := s0.trans (same_upd (o := .tup rest) np)
  have hx : upd (upd (upd H dx (.own x)) x (.ins C dx [])) p (.tup rest) x = some (.ins C dx []) := (upd_ne (ne_of_none upd_same np)).trans upd_same
  refine ⟨x, dx, .int n, p, rest, xss, rfl, hx, kn_int _, .inl (.inl upd_same), prImp (fun _ _ z => z.same sp) hp, hl, fun z => absurd (copies_good n1 n8) (by rw [z]; simp), fun n' e _ _ => ?_⟩
  cases (show n = n' from by injection e with e; omega)
  refine ⟨fun z => absurd z hne, fun _ => ⟨fun y z => (by rw [hb] at z; cases z), fun i z => (by rw [hb] at z; cases z), fun _ H' k F => ⟨rfl, h x H' (fun b o e => k b o (sp b o e) (ne_of_none e nx)) F⟩⟩⟩
def spMarked (K : PySem.W.Frag) (C : Addr) : Sp := fun vs H Q _ => ∃ (n : Nat) (p : Addr) (f : Nat → Bool), vs = [.int n, .ref p] ∧ SqL K H p (marksV n f) ∧ Fm n f ∧ ∀ r H', Same H H' → Fam K C H' r n f → Q r H'
def spAlike (K : PySem.W.Frag) (C CU : Addr) : Sp := fun vs H Q E => ∃ (n m : Nat) (v : V) (g : Nat → Bool), vs = [.int n, v] ∧ Fam K C H v m g ∧ (n = m → Q .non H) ∧ (n ≠ m → E (.ref CU) none H)
/-- two families: what is told where both have as many copies -/
def spTwo (K : PySem.W.Frag) (C CU : Addr) (k : Nat → (Nat → Bool) → (Nat → Bool) → Hp → VK → Prop) : Sp := fun vs H Q E => ∃ (x y : V) (n m : Nat) (f g : Nat → Bool), vs = [x, y] ∧ Fam K C H x n f ∧ Fam K C H y m g ∧
  (n = m → k n f g H Q) ∧ (n ≠ m → ∀ H', Same H H' → E (.ref CU) none H')
def tellsB (b : Nat → (Nat → Bool) → (Nat → Bool) → Bool) : Nat → (Nat → Bool) → (Nat → Bool) → Hp → VK → Prop := fun n f g H Q => ∀ H', Same H H' → Q (.bl (b n f g)) H'
def tellsF (K : PySem.W.Frag) (C : Addr) (b : Nat → (Nat → Bool) → (Nat → Bool) → Nat → Bool) : Nat → (Nat → Bool) → (Nat → Bool) → Hp → VK → Prop := fun n f g H Q => ∀ r H', Same H H' → Fam K C H' r n (b n f g) → Q r H'
def spWithin (K : PySem.W.Frag) : Sp := fun vs H Q _ => ∃ (p q : Addr) (n : Nat) (f g : Nat → Bool), vs = [.ref p, .ref q] ∧ ((SqT K H p (marksV n f) ∧ SqT K H q (marksV n g)) ∨ (SqL K H p (marksV n f) ∧ SqL K H q (marksV n g))) ∧ n ≤ 8 ∧ ∀ H', Same H H' → Q (.bl (leB n f g)) H'
def spOne (K : PySem.W.Frag) (C : Addr) (k : Nat → (Nat → Bool) → Hp → VK → Prop) : Sp := fun vs H Q _ => ∃ (x : V) (n : Nat) (f : Nat → Bool), vs = [x] ∧ Fam K C H x n f ∧ k n f H Q
/-- == with whatever isinstance can ask -/
def spEqF (K : PySem.W.Frag) (C : Addr) : Sp := fun vs H Q _ => ∃ (x y : V) (n : Nat) (f : Nat → Bool), vs = [x, y] ∧ Fam K C H x n f ∧
  ((∃ m g, Fam K C H y m g ∧ ∀ H', Same H H' → Q (.bl (decide (n = m) && eqB n f g)) H') ∨ (∃ t, TyX K H y t ∧ PySem.W.kitOne K t (.ref C) = some false ∧ Q (.bl false) H))
def spIn (K : PySem.W.Frag) (C : Addr) : Sp := fun vs H Q _ => ∃ (x y : V) (n : Nat) (f : Nat → Bool) (xs : List V), vs = [x, y] ∧ Fam K C H x n f ∧ LotArg K H xs y ∧ ∀ H', Same H H' → Q (.bl (match badOf n xs with
  | some _ => false
  | none => f (maskV xs))) H'
/-! ### str(x) by an own __str__; a static method read off its class -/
section
variable {X : Cx} {CX : CXT} {k : Nat} {f C : Addr} {fd : FuncData} {ps : List Str} {sp : Sp} {E : XK}
def rStrO (C : Addr) (sp : Sp) (E : XK) : List V → Hp → VK → Prop := fun xs H Q => ∃ x, xs = [x] ∧ IsC C H x ∧ sp [x] H (fun v H' => ∃ y : Str, v = .str y ∧ Q v H') E
/-- the static method m of C: the def at f -/
structure SMet (K : PySem.W.Frag) (C : Addr) (m : Str) (f : Addr) : Prop where
  rd : PySem.W.readsIn K C (.type "type") = true
  ga : PySem.W.specialIn K (.ref C) "__getattribute__" = some (some (.builtin "type.__getattribute__"))
  at_ : ∃ p rest, PySem.W.findCls K (.ref C) (.type "type") m = some (.get (.builtin "staticmethod.__get__") (.ref p) .none (.ref C)) ∧ PySem.W.recIn K p "staticmethod" = some (.ref f :: rest)
/-- C.m() -/
def tSM0 (C : Addr) (sp : Sp) (E : XK) (ta : TE) : TE := fun σ H Q => ta σ H fun x H1 => x = .ref C ∧ sp [] H1 Q E
theorem pe_smeth0 {o : Expr} {m : Str} {pos apos : Pos} {ta : TE} {pl : Sem Bool} (he : PE X o ta) (M : SMet X.K C m f) (F : FnOk X.prog X.w X.K X.mg X.base CX k f fd ps sp) (kp : PySem.W.keepIn X.K (.ref f) = true) (hr : Room k X.A) (hb : Binds X.K fd ps []) (hx : Passes CX X E)
    (ht : eval (.Call (.Attribute o m apos) [] [] pos) X.env = (do
      let ov ← eval o X.env
      standAt apos.atName
      let (f, first) ← holding [ov] (getMethod ov m pl)
      callWith pos f first (backTo pos (starEach [] X.env)) (backToKw pos (keywordEach [] X.env))) := by rfl) :
    PE X (.Call (.Attribute o m apos) [] [] pos) (tSM0 C sp E ta) := by
  refine ⟨fun pins s σ H Q I h => ?_⟩
  refine PySem.W.methodCall_KW (pl := pl) (thn (he.run pins s σ H _ I h) fun u s1 ⟨x, H1, I1, rx, ex, q⟩ => ?_) ht
  subst ex
  obtain rfl : u = Value.ref C := rx
  obtain ⟨p, rest, e, hp⟩ := M.at_
  refine PySem.W.method_cls I1.kIn M.ga ?_
  refine PySem.W.cls_bind I1.kIn M.rd e (wpAny_call (PySem.W.sm_get (s := { s1 with toks := s1.toks + 1 }) I1.kIn hp (PySem.W.handed_on rfl ?_)))
  have I2 : Inv X pins σ H1 { s1 with toks := s1.toks + 1 } := I1.tok _
  exact PySem.W.callWith_K0 (first := []) I2.kIn kp (run_fn (us := []) (vs := []) F hr hb .nil hx I2 .nil (by simpa using q))
end
/-! ### a try with several except clauses, each with a name or without one -/
/-- one clause: its class, the slot of its name, its suite -/
structure Clause where
  cv : Value
  ix : Option Nat
  ts : Addr → Value → Option Addr → TS
def clEnds (D : Ends) : Option Nat → Ends
  | none => D
  | some i => { nx := fun σ1 H1 => D.nx (σ1.set i none) H1, rt := D.rt, bk := fun σ1 H1 => D.bk (σ1.set i none) H1, ct := fun σ1 H1 => D.ct (σ1.set i none) H1 }
def clSet (σ : L2.St) (p : Addr) : Option Nat → L2.St
  | none => σ
  | some i => σ.set i (some (.ref p))
/-- the wish of the clauses, one after the other -/
def wMix (K : PySem.W.Frag) (Z : WX) (D : Ends) : List Clause → WX
  | [] => Z
  | c :: r => fun k dd σ H => ∃ b, PySem.W.exmOne K k c.cv = some b ∧ (b = true → ∀ p, H p = none → c.ts p k dd (clEnds D c.ix) (clSet σ p c.ix) H) ∧ (b = false → wMix K Z D r k dd σ H)
inductive MixOk (X : Cx) : List ExceptHandler → List Clause → Prop
  | nil : MixOk X [] []
  | un {y : Str} {cv : Value} {TS1 : Addr → Value → Option Addr → TS} {b1 : Stmt} {su : List Stmt} {p1 p2 : Pos} {hs : List ExceptHandler} {l : List Clause} (h6 : Names X y cv)
      (HS : ∀ (p : Addr) (ob : Obj) (k : Value) (dd : Option Addr) (pl : List (Addr × Obj)), Zc k dd ob → (∃ fv, ob.data = .fields fv) → PSs (X.suite p ((p, ob) :: pl)) (b1 :: su) (TS1 p k dd)) (r : MixOk X hs l) :
      MixOk X (.ExceptHandler (some (.Name y p1)) none (b1 :: su) p2 :: hs) (⟨cv, none, TS1⟩ :: l)
  | as {y nm : Str} {cv : Value} {ix : Nat} {TS1 : Addr → Value → Option Addr → TS} {b1 : Stmt} {su : List Stmt} {p1 p2 : Pos} {hs : List ExceptHandler} {l : List Clause} (h4 : X.N[ix]? = some nm) (h5 : X.env.kindOf nm = some .local) (h6 : Names X y cv)
      (HS : ∀ (p : Addr) (ob : Obj) (k : Value) (dd : Option Addr) (pl : List (Addr × Obj)), Zc k dd ob → (∃ fv, ob.data = .fields fv) → PSs (X.suite p ((p, ob) :: pl)) (b1 :: su) (TS1 p k dd)) (r : MixOk X hs l) :
      MixOk X (.ExceptHandler (some (.Name y p1)) (some nm) (b1 :: su) p2 :: hs) (⟨cv, some ix, TS1⟩ :: l)
section
variable {X : Cx} {bd : List Stmt} {e0 : ExceptHandler} {er : List ExceptHandler} {l : List Clause} {p3 : Pos} {TB : WX → TS} {Z : WX}
end
/-! ### comprehensions whose items are lists: what is told of an item stands while only the new list grows -/
/-! ### == and != of tuples and lists, item by item, whatever the items' answers -/
section
open SeqAt MeetsSeq MeetsSeq2 MeetsSeq3 SeqRoads2
open AutoSeq1 (wpAny_loadPart')
variable {prog : Program} {w : World} {A : Around} {R : Result → Shared → Prop}
/-- at each turn both lists are read: N items each, the i-th two with the answer e i -/
def LstStep (prog : Program) (w : World) (A : Around) (F : Value → Shared → Prop) (p q : Addr) (N : Nat) (e : Nat → Bool) (J : Nat → Shared → Prop) : Prop :=
  ∀ i s, J i s → ∃ (xs ys : Array Value) (k1 k2 : Nat), s.heap.get? p = some { cls := .type "list", data := .seq xs k1 } ∧ s.heap.get? q = some { cls := .type "list", data := .seq ys k2 } ∧ xs.size = N ∧ ys.size = N ∧
    ∀ (h1 : i < xs.size) (h2 : i < ys.size), wpAny (model prog w) A.in1 (eqBool xs[i] ys[i]) (fun r s' => r = e i ∧ J (i + 1) s') F s
theorem lst_ne_loop (p q : Addr) (N : Nat) (e : Nat → Bool) (J : Nat → Shared → Prop) (step : LstStep prog w A (fun x s' => R (.error x) s') p q N e J)
    (done : ∀ i s, J i s → R (.ok (.ret (.bool (!(List.range N).all e)))) s) (k : Nat) :
    ∀ i : Nat, N - i = k → i ≤ N → (List.range N).all e = ((List.range N).drop i).all e → ∀ s, J i s → wpAny (model prog w) A.in1 (Builtin.«list.__eq__.loop» ⟨[.ref p, .ref q, rawInt i, rawInt 3], []⟩) (GQ.FinOf prog w A R) (fun x s' => R (.error x) s') s := by
  induction k with
  | zero =>
    intro i hk hi ea s j
    obtain ⟨xs, ys, k1, k2, g1, g2, n1, n2, _⟩ := step _ _ j
    have ei : i = N := by omega
    have out := done _ s j
    rw [ea, List.drop_of_length_le (by simp; omega)] at out
    obtain ⟨hp, gl, dr, tk, os⟩ := s
    wp_walk using wpAny_loadPart' g1, wpAny_loadPart' g2
    have m1 : xs[((i : Nat) : Int).toNat]? = none := by simp; omega
    have m2 : ys[((i : Nat) : Int).toNat]? = none := by simp; omega
    rw [m1, m2]
    wp_walk using wpAny_loadPart' g1, wpAny_loadPart' g2
    show R (.ok (.ret (.bool (xs.size != ys.size)))) _
    rw [n1, n2]
    simpa using out
  | succ k ih =>
    intro i hk hi ea s j
    obtain ⟨xs, ys, k1, k2, g1, g2, n1, n2, turn⟩ := step _ _ j
    have lt1 : i < xs.size := by omega
    have lt2 : i < ys.size := by omega
    have lN : i < N := by omega
    have tn := turn lt1 lt2
    obtain ⟨hp, gl, dr, tk, os⟩ := s
    wp_walk using wpAny_loadPart' g1, wpAny_loadPart' g2
    have m1 : xs[((i : Nat) : Int).toNat]? = some xs[i] := by simp [lt1]
    have m2 : ys[((i : Nat) : Int).toNat]? = some ys[i] := by simp [lt2]
    have hc : ((i : Int) + 1) = ((i + 1 : Nat) : Int) := by omega
    have ed : (List.range N).drop i = i :: (List.range N).drop (i + 1) := by simp [List.drop_eq_getElem_cons, lN]
    rw [ed, List.all_cons] at ea
    rw [m1, m2]
    refine wpAny_bind (wpAny_mono tn (fun r s2 q2 => ?_) fun _ _ z => z)
    obtain ⟨er, j2⟩ := q2
    subst er
    obtain ⟨xs', ys', k1', k2', g1', g2', n1', n2', _⟩ := step _ _ j2
    have lt1' : i < xs'.size := by omega
    have lt2' : i < ys'.size := by omega
    cases ei : e i with
    | true =>
      rw [ei, Bool.true_and] at ea
      have rec1 := ih (i + 1) (by omega) (by omega) ea s2 j2
      obtain ⟨hp2, gl2, dr2, tk2, os2⟩ := s2
      wp_walk
      rw [hc]
      exact ⟨plainId_quiet plain_eq_loop _, codeAny_builtin entry_eq_loop (by
        rw [Around.under_plainId plain_eq_loop _]
        exact rec1)⟩
    | false =>
      rw [ei, Bool.false_and] at ea
      have out := done _ s2 j2
      rw [ea] at out
      obtain ⟨hp2, gl2, dr2, tk2, os2⟩ := s2
      have m1' : xs'[((i : Nat) : Int).toNat]? = some xs'[i] := by simp [lt1']
      have m2' : ys'[((i : Nat) : Int).toNat]? = some ys'[i] := by simp [lt2']
      wp_walk using wpAny_loadPart' g1', wpAny_loadPart' g2'
      rw [m1', m2']
      wp_walk
      simpa using out
theorem lst_ne (p q : Addr) (N : Nat) (e : Nat → Bool) (J : Nat → Shared → Prop) (step : LstStep prog w A (fun x s' => R (.error x) s') p q N e J)
    (done : ∀ i s, J i s → R (.ok (.ret (.bool (!(List.range N).all e)))) s) {s : Shared} (j0 : J 0 s) :
    wpAny (model prog w) A.in1 (Builtin.«list.__ne__» ⟨[.ref p, .ref q], []⟩) (GQ.FinOf prog w A R) (fun x s' => R (.error x) s') s := by
  obtain ⟨xs, ys, k1, k2, g1, g2, n1, n2, _⟩ := step _ _ j0
  have rec1 := lst_ne_loop (A := A) (R := R) p q N e J step done _ 0 rfl (Nat.zero_le _) rfl s j0
  obtain ⟨hp, gl, dr, tk, os⟩ := s
  have sub3 := AutoSeq1.sub_list_list
  have same1 : ¬ (xs.size != ys.size) = true := by simp [n1, n2]
  wp_walk using wpAny_loadPart' g1, wpAny_loadPart' g2
  exact ⟨plainId_quiet plain_eq_loop _, codeAny_builtin entry_eq_loop (by
    rw [Around.under_plainId plain_eq_loop _]
    exact rec1)⟩
end
/-- answers of ==, by the abstract heap -/
abbrev Ans := V → V → Bool → Hp → Prop
def MonB (D : Ans) : Prop := ∀ x y b H H', Same H H' → D x y b H → D x y b H'
/-- what is one thing is equal to itself -/
def FunT (K : PySem.W.Frag) (H : Hp) : Prop := ∀ a xs ys, SqT K H a xs → SqT K H a ys → xs = ys
def RefB (K : PySem.W.Frag) (D : Ans) : Prop := ∀ x b H, FunT K H → D x x b H → b = true
/-- == within a list or a tuple answers as D says, and makes objects alone -/
def EqB (X : Cx) (n : Nat) (D : Ans) : Prop := ∀ (A : Around) (pins : List (Addr × Obj)) (s : Shared) (σ : L2.St) (H : Hp) (x y : V) (b : Bool) (u v : Value), L2.Sub X n A → Inv X pins σ H s → RelV x u → RelV y v → D x y b H →
  wpAny (model X.prog X.w) A (eqBool u v) (fun r s' => r = b ∧ ∃ H', Inv X pins σ H' s' ∧ Same H H') X.xe s
/-- a comparison by its sign -/
def RcB (X : Cx) (n : Nat) (op : CmpOp) (g : Bool → Bool) (D : Ans) : Prop := ∀ (A : Around) (pins : List (Addr × Obj)) (s : Shared) (σ : L2.St) (H : Hp) (x y : V) (b : Bool) (u v : Value), L2.Sub X n A → Inv X pins σ H s → RelV x u → RelV y v → D x y b H →
  wpAny (model X.prog X.w) A (richCompare op u v) (fun r s' => r = .bool (g b) ∧ ∃ H', Inv X pins σ H' s' ∧ Same H H') X.xe s
section
variable {X : Cx} {n m : Nat} {D D' : Ans}
theorem EqB.mono (h : EqB X n D) (l : n ≤ m) : EqB X m D := fun A pins s σ H x y b u v sb => h A pins s σ H x y b u v (sb.mono l)
theorem EqB.or (h : EqB X n D) (h' : EqB X n D') : EqB X n (fun x y b H => D x y b H ∨ D' x y b H) := fun A pins s σ H x y b u v sb I rx ry d =>
  d.elim (h A pins s σ H x y b u v sb I rx ry) (h' A pins s σ H x y b u v sb I rx ry)
theorem MonB.or (h : MonB D) (h' : MonB D') : MonB (fun x y b H => D x y b H ∨ D' x y b H) := fun x y b H H' e d => d.elim (fun d => .inl (h x y b H H' e d)) fun d => .inr (h' x y b H H' e d)
/-- flat values; the same object -/
def DFl : Ans := fun x y b _ => (scalV x = true ∧ scalV y = true ∧ b = eqV x y) ∨ (∃ a, x = .ref a ∧ y = .ref a ∧ b = true)
theorem mon_fl : MonB DFl := fun _ _ _ _ _ _ d => d
theorem eqB_fl : EqB X 0 DFl := by
  intro A pins s σ H x y b u v sb I rx ry d
  rcases d with ⟨f1, f2, rfl⟩ | ⟨a, rfl, rfl, rfl⟩
  · have z := eqAt_V (A := A) (s := s) rx ry (flat_scal f1) (flat_scal f2)
    exact z X.prog X.w X.xe _ ⟨rfl, H, I, Same.refl _⟩
  · cases rx
    cases ry
    exact SeqAt.EqAt.same (A := A) (s := s) (.ref a) X.prog X.w X.xe _ ⟨rfl, H, I, Same.refl _⟩
/-- pair by pair -/
def PrsB (D : Ans) (xs ys : List V) (e : Nat → Bool) (H : Hp) : Prop := ∀ (i : Nat) x y, xs[i]? = some x → ys[i]? = some y → D x y (e i) H
def allB (xs ys : List V) (e : Nat → Bool) : Bool := (List.range (min xs.length ys.length)).all e && xs.length == ys.length
def DTupB (K : PySem.W.Frag) (D : Ans) : Ans := fun x y b H => ∃ p q xs ys e, x = .ref p ∧ y = .ref q ∧ SqT K H p xs ∧ SqT K H q ys ∧ PrsB D xs ys e H ∧ b = allB xs ys e
def DLstB (D : Ans) : Ans := fun x y b H => ∃ p q xs ys e, x = .ref p ∧ y = .ref q ∧ H p = some (.lst xs) ∧ H q = some (.lst ys) ∧ xs.length = ys.length ∧ PrsB D xs ys e H ∧ b = allB xs ys e
/-- what the walk keeps -/
def WalkB (X : Cx) (pins : List (Addr × Obj)) (σ : L2.St) (H : Hp) (s : Shared) : Prop := ∃ H', Inv X pins σ H' s ∧ Same H H'
theorem stepB (hD : MonB D) (h : EqB X n D) {A : Around} (sb : L2.Sub X (n + 1) A) {pins : List (Addr × Obj)} {σ : L2.St} {H : Hp} {xs ys : List V} {e : Nat → Bool} {us vs : List Value} (p : PrsB D xs ys e H) (r : Vals xs us) (r2 : Vals ys vs)
    (i : Nat) (h1 : i < us.toArray.size) (h2 : i < vs.toArray.size) (s : Shared) (l : WalkB X pins σ H s) :
    wpAny (model X.prog X.w) A.in1 (eqBool us.toArray[i] vs.toArray[i]) (fun z s2 => z = e i ∧ WalkB X pins σ H s2) X.xe s := by
  obtain ⟨H1, I1, e1⟩ := l
  have g1 : us[i]? = some us.toArray[i] := by
    have z : i < us.length := by simpa using h1
    rw [List.getElem?_eq_getElem z] <;> simp
  have g2 : vs[i]? = some vs.toArray[i] := by
    have z : i < vs.length := by simpa using h2
    rw [List.getElem?_eq_getElem z] <;> simp
  have k1 : i < xs.length := by rw [r.length]; simpa using h1
  have k2 : i < ys.length := by rw [r2.length]; simpa using h2
  obtain ⟨u, hu, ru⟩ := r.get (List.getElem?_eq_getElem k1)
  obtain ⟨v, hv, rv⟩ := r2.get (List.getElem?_eq_getElem k2)
  cases g1.symm.trans hu
  cases g2.symm.trans hv
  refine wpAny_mono (h A.in1 pins s σ H1 _ _ _ _ _ sb.in1 I1 ru rv (hD _ _ _ _ _ e1 (p i _ _ (List.getElem?_eq_getElem k1) (List.getElem?_eq_getElem k2)))) (fun z s2 w => ?_) fun _ _ x => x
  obtain ⟨ez, H2, I2, e2⟩ := w
  exact ⟨ez, H2, I2, e1.trans e2⟩
theorem lstStep {A : Around} (hD : MonB D) (h : EqB X n D) (sb : L2.Sub X (n + 1) A) {pins : List (Addr × Obj)} {σ : L2.St} {H : Hp} {p q : Addr} {xs ys : List V} {e : Nat → Bool} (hp : H p = some (.lst xs)) (hq : H q = some (.lst ys)) (el : xs.length = ys.length) (pe : PrsB D xs ys e H) :
    LstStep X.prog X.w A X.xe p q xs.length e (fun _ s' => WalkB X pins σ H s') := by
  intro i s l
  obtain ⟨H1, I1, e1⟩ := id l
  obtain ⟨_, us, k1, r, a1⟩ := I1.hok p _ (e1 _ _ hp)
  obtain ⟨_, vs, k2, r2, a2⟩ := I1.hok q _ (e1 _ _ hq)
  refine ⟨us.toArray, vs.toArray, k1, k2, a1, a2, by rw [List.size_toArray, ← r.length], by rw [List.size_toArray, ← r2.length, el], fun h1 h2 => ?_⟩
  exact stepB hD h sb pe r r2 i h1 h2 s l
theorem allB_len {xs ys : List V} {e : Nat → Bool} (el : xs.length = ys.length) : allB xs ys e = (List.range xs.length).all e := by
  unfold allB
  rw [← el, Nat.min_self]
  simp
theorem rcB_lstN (hD : MonB D) (h : EqB X n D) : RcB X (n + 1) .NotEq not (DLstB D) := by
  intro A pins s σ H x y b u v sb I rx ry d
  obtain ⟨p, q, xs, ys, e, rfl, rfl, hp, hq, el, pe, rfl⟩ := d
  cases rx
  cases ry
  obtain ⟨_, us, k1, r, a1⟩ := I.hok p _ hp
  obtain ⟨_, vs, k2, r2, a2⟩ := I.hok q _ hq
  refine wpAny_richCompare_same_room (op := .NotEq) ⟨_, a1, rfl⟩ ⟨_, a2, rfl⟩ PySem.F.slot_list_ne (GQ.call_here PySem.F.slot_list_ne ⟨_, a1, rfl⟩ PySem.F.entry_list_ne (PySem.F.args_list_ne_2 _ _) ?_) sb.room.units0
  refine lst_ne (R := PySem.wants (fun v s' => v ≠ .notImplemented ∧ (v = .bool (!allB xs ys e) ∧ WalkB X pins σ H s')) X.xe) p q xs.length e (fun _ s' => WalkB X pins σ H s') (lstStep hD h sb hp hq el pe) (fun i s' l => ?_) ⟨H, I, Same.refl _⟩
  exact ⟨(fun z => nomatch z), congrArg (fun z => Value.bool (!z)) (allB_len el).symm, l⟩
/-- what == of two things says within a list -/
theorem RcB.eqB (h : RcB X n .Eq id D) (hr : ∀ x y b H, D x y b H → ∃ a c, x = .ref a ∧ y = .ref c) (hR : RefB X.K D) : EqB X n D := by
  intro A pins s σ H x y b u v sb I rx ry d
  obtain ⟨a, c, rfl, rfl⟩ := hr _ _ _ _ d
  cases rx
  cases ry
  by_cases e : a = c
  · subst e
    have eb := hR _ _ _ (fun p xs ys h1 h2 => I.tuple_inj h1 h2) d
    subst eb
    exact SeqAt.EqAt.same (A := A) (s := s) (.ref a) X.prog X.w X.xe _ ⟨rfl, H, I, Same.refl _⟩
  · refine GQ.eqBool_refG e (wpAny_mono (h A pins s σ H (.ref a) (.ref c) b _ _ sb I rfl rfl d) (fun r s' z => ?_) fun _ _ z => z)
    obtain ⟨er, z⟩ := z
    exact ⟨b, er, rfl, z⟩
/-- instances by their own == -/
theorem rcB_own {CX : CXT} {C f : Addr} {fd : FuncData} {ps : List Str} {sp : Sp} {E : XK} (F : FnOk X.prog X.w X.K X.mg X.base CX n f fd ps sp)
    (hs : PySem.W.findIn X.K (.ref C) "__eq__" = some (some (.ref f))) (hf : PySem.W.isFn X.K (.ref f) = true) (hb : Binds X.K fd ps []) (hx : Passes CX X E)
    (hD : ∀ x y b H, D x y b H → IsC C H x ∧ IsC C H y ∧ sp [x, y] H (fun z H' => z = .bl b ∧ Same H H') E) : RcB X n .Eq id D := by
  intro A pins s σ H x y b u v sb I rx ry d
  obtain ⟨⟨a, dx, fs, rfl, ha⟩, ⟨c, dy, gs, rfl, hc⟩, hsp⟩ := hD x y b H d
  cases rx
  cases ry
  obtain ⟨m1, J1, _⟩ := ins_get I.hok ha
  obtain ⟨m2, J2, _⟩ := ins_get I.hok hc
  obtain ⟨o1, J1, _⟩ := J1.look
  obtain ⟨o2, J2, _⟩ := J2.look
  obtain ⟨mf, hF⟩ := I.fr
  refine PySem.W.cmp_K (op := .Eq) (tb := .ref C) sb.room.units0 hF I.ok.mod.kin J1 J2.type (by simp [PySem.W.notFirst]) hs hf ?_
  have env1 : Env0 X.prog X.w X.K X.mg X.base A X.stack s H := by
    have z := I.env0
    exact ⟨by rw [sb.fr]; exact z.frames, z.mod, z.bs, z.bsz, z.funs, z.frf, z.hok, z.bare⟩
  have len1 := F.len _ _ _ _ hsp
  have rel1 : Vals [V.ref a, V.ref c] [Value.ref a, Value.ref c] := .cons rfl (.cons rfl .nil)
  have bnd1 := hb s [.ref a, .ref c] I.kIn (by simpa using len1)
  refine wpAny_call (codeAny_mono (F.run A X.stack s H ⟨[.ref a, .ref c], []⟩ [.ref a, .ref c] [.ref a, .ref c] _ E sb.room env1 (by simpa using bnd1) rel1 hsp) fun r s' got => ?_)
  cases r with
  | error e => exact hx pins σ H s e s' I got
  | ok fl =>
    cases fl with
    | ret w =>
      obtain ⟨z, H', I', rz, ez, ex⟩ := I.after got
      subst ez
      cases rz
      exact ⟨rfl, H', I', ex⟩
    | next => exact False.elim got
    | brk => exact False.elim got
    | cont => exact False.elim got
/-- as expressions -/
def rCmpB (D : Ans) (g : Bool → Bool) : R2 := fun x y H Q => ∃ b, D x y b H ∧ ∀ H', Same H H' → Q (.bl (g b)) H'
theorem op_cmpB {op : CmpOp} {g : Bool → Bool} (hop : ∀ a b, compareOp op a b = richCompare op a b) (h : RcB X n op g D) (hr : Room n X.A) : OpR X (compareOp op) (rCmpB D g) := by
  intro pins s σ H x y v u Q I rx ry hq
  obtain ⟨b, d, q⟩ := hq
  rw [hop]
  refine wpAny_mono (h X.A pins s σ H x y b v u ⟨hr, rfl⟩ I rx ry d) (fun r s' z => ?_) fun _ _ x => x
  obtain ⟨er, H', I', e⟩ := z
  subst er
  exact ⟨.bl (g b), H', I', rfl, q H' e⟩
end
/-! ### own classes: len(x), x[i], for .. in x by the own methods -/
theorem fun_fnIn {K : PySem.W.Frag} {x qual : Str} {st : Stmt} {f : Addr} {fd : FuncData} (F : Fun K x qual st f fd) : PySem.W.fnIn K f = true := by
  obtain ⟨oc, od, kV, doc, pm, an, cdv, ct, osl, rfl, lk, hcd⟩ := F.ex
  unfold PySem.W.fnIn
  rw [lk]
section
variable {X : Cx} {CX : CXT} {k : Nat} {f C : Addr} {fd : FuncData} {ps : List Str} {sp : Sp} {E : XK}
/-- len(x) by the own __len__ -/
def rLenO (C : Addr) (sp : Sp) (E : XK) : List V → Hp → VK → Prop := fun xs H Q => ∃ x, xs = [x] ∧ IsC C H x ∧ sp [x] H (fun v H' => ∃ n : Nat, v = .int n ∧ n < 2 ^ 62 ∧ Q (.int n) H') E
theorem call_lenO (hs : PySem.W.findIn X.K (.ref C) "__len__" = some (some (.ref f))) (hf : PySem.W.isFn X.K (.ref f) = true) (F : FnOk X.prog X.w X.K X.mg X.base CX k f fd ps sp) (hr : Room (k + 1) X.A) (hb : Binds X.K fd ps []) (hx : Passes CX X E) :
    CallR X (.builtin "len") (rLenO C sp E) := by
  intro pins s σ H xs us Q I r h
  obtain ⟨x, rfl, ⟨a, dx, fs, rfl, ha⟩, q⟩ := h
  obtain ⟨u, rfl, ru⟩ := vals1 r
  cases (show u = Value.ref a from ru)
  obtain ⟨oa, J⟩ := inst_of I ha
  obtain ⟨mf, hF⟩ := I.fr
  refine PySem.W.len_K hF I.ok.mod.kin J hs hf (wpAny_mono (run_deep (vs := [.ref a]) F (Room.in1 hr) I.env0.in1 hb hx I (.cons rfl .nil) q) (fun w s' z => ?_) fun _ _ x => x)
  obtain ⟨z', H', I', rz, n, rfl, hn, qz⟩ := z
  obtain ⟨t, rfl⟩ := (show ∃ t, w = Value.int n t from rz)
  refine ⟨⟨by omega, by omega⟩, ?_⟩
  exact ⟨.int n, H', I'.tok _, ⟨_, rfl⟩, qz⟩
/-- x[i] by the own __getitem__ -/
def rIxO (C : Addr) (sp : Sp) (E : XK) : R2 := fun x y H Q => IsC C H x ∧ sp [x, y] H Q E
end
/-! #### a tuple's iterator as a value -/
def TitO (t it : Addr) : HO := .ext fun h => h.IsTupleIter it t 0
def rIterT (K : PySem.W.Frag) (n : Nat) : List V → Hp → VK → Prop := fun xs H Q => ∃ (t : Addr) (zs : List V), xs = [.ref t] ∧ SqT K H t zs ∧ ∀ it, H it = none → n ≤ it → Q (.ref it) (upd H it (TitO t it))
/-- a def whose promise speaks of the size of the heap it begins with -/
structure FnS (P : Program) (w : World) (K : PySem.W.Frag) (mg : Str → Option Value) (base : Heap) (k : Nat) (f : Addr) (fd : FuncData) (ps : List Str) (sp : Nat → Sp) : Prop where
  len : ∀ n vs H Q E, sp n vs H Q E → vs.length = ps.length
  run : ∀ (A : Around) (outer : List Env) (s : Shared) (H : Hp) (args : Args) (us : List Value) (vs : List V) (Q : VK) (E : XK), Room k A → Env0 P w K mg base A outer s H → BindsTo s fd args (ps.zip us) → Vals vs us → sp s.heap.objs.size vs H Q E →
    codeAny (model P w) A (.call (.ref f) args) (CR CX0 outer P w H s Q E) s
/-- what an own __iter__ that says «return iter(self.fld)» promises -/
def spIterS (K : PySem.W.Frag) (C : Addr) (fld : Str) (n : Nat) : Sp := fun vs H Q _ => ∃ a dx fs t xs, vs = [.ref a] ∧ H a = some (.ins C dx fs) ∧ fs.lookup fld = some (.ref t) ∧ SqT K H t xs ∧ ∀ it, H it = none → n ≤ it → Q (.ref it) (upd H it (TitO t it))
section
variable {X : Cx} {k : Nat} {f C : Addr} {fd : FuncData} {fld : Str}
/-- for .. in x, x an instance whose __iter__ hands out a tuple's iterator -/
def iOwn (K : PySem.W.Frag) (C : Addr) (fld : Str) (te : TE) : TI := fun σ H R => te σ H fun x H1 => ∃ a dx fs t xs, x = .ref a ∧ H1 a = some (.ins C dx fs) ∧ fs.lookup fld = some (.ref t) ∧ SqT K H1 t xs ∧ R (Itt K t) H1
end
section
variable {X : Cx} {CX : CXT} {k : Nat} {f C : Addr} {sp : Sp} {E : XK}
end
/-! ### t * 1 is t -/
def rRepT1 (K : PySem.W.Frag) : R2 := fun x y H Q => ∃ p xs, x = .ref p ∧ y = .int 1 ∧ SqT K H p xs ∧ Q (.ref p) H
/-! ### chances: the promises -/
/-- a value that is asked for a chance: a ratio, or of another class -/
def ChArg (K : PySem.W.Frag) (C : Addr) (H : Hp) (x : V) (ok : Int → Int → Bool → Prop) (no : Prop) : Prop := (∃ p q, Rat C H x p q ∧ Sz 200 p q ∧ ok p q true) ∨ ((∃ t, TyX K H x t ∧ PySem.W.kitOne K t (.ref C) = some false) ∧ no)
def chanceOk (p q : Int) : Bool := decide (q ≤ 1000) && (decide (q ≤ 2 * p) && decide (p < q))
def spShort (K : PySem.W.Frag) (C : Addr) : Sp := fun vs H Q _ => ∃ x : V, vs = [x] ∧ ((∃ p q, Rat C H x p q ∧ Q (.bl (decide (q ≤ 1000))) H) ∨ ((∃ t, TyX K H x t ∧ PySem.W.kitOne K t (.ref C) = some false) ∧ Q (.bl false) H))
def spChance (K : PySem.W.Frag) (C CB : Addr) : Sp := fun vs H Q E => ∃ x : V, vs = [x] ∧
  ((∃ p q, Rat C H x p q ∧ Sz 200 p q ∧ (chanceOk p q = true → ∀ H', Same H H' → Q x H') ∧ (chanceOk p q = false → Err CB H E "chance" x)) ∨ ((∃ t, TyX K H x t ∧ PySem.W.kitOne K t (.ref C) = some false) ∧ Err CB H E "chance" x))
/-- the chances of copies: (over, under) of each -/
def prodU (l : List (Int × Int)) : Int := l.foldl (fun s r => s * r.2) 1
def Rats (C : Addr) (H : Hp) (l : List (Int × Int)) (ys : List V) : Prop := Paired (fun r y => Rat C H y r.1 r.2) l ys
def spScale (K : PySem.W.Frag) (C : Addr) : Sp := fun vs H Q _ => ∃ (p : Addr) (l : List (Int × Int)) (ys : List V), vs = [.ref p] ∧ SqT K H p ys ∧ Rats C H l ys ∧ l.length ≤ 8 ∧ (∀ r ∈ l, r.2 ≤ 1000) ∧ Q (.int (prodU l)) H
/-- of each lot, ascending, the chance that just its copies are up, times the product of the unders -/
def countsOf (l : List (Int × Int)) : List Int := l.foldl (fun cs r => cs.map (· * (r.2 - r.1)) ++ cs.map (· * r.1)) [1]
def spCounts (K : PySem.W.Frag) (C : Addr) : Sp := fun vs H Q _ => ∃ (p : Addr) (l : List (Int × Int)) (ys : List V), vs = [.ref p] ∧ SqT K H p ys ∧ Rats C H l ys ∧ l.length ≤ 8 ∧ (∀ r ∈ l, 0 ≤ r.1 ∧ r.1 ≤ r.2 ∧ r.2 ≤ 1000) ∧
  ∀ q H', Same H H' → H q = none → H' q = some (.lst ((countsOf l).map V.int)) → Q (.ref q) H'
def spHalf (C : Addr) : Sp := fun vs H Q _ => vs = [] ∧ ∀ r H', Same H H' → Rat C H' r 1 2 → Q r H'
theorem prodU_snoc (l : List (Int × Int)) (r : Int × Int) : prodU (l ++ [r]) = prodU l * r.2 := by
  unfold prodU
  rw [List.foldl_append] <;> rfl
theorem countsOf_snoc (l : List (Int × Int)) (r : Int × Int) : countsOf (l ++ [r]) = (countsOf l).map (· * (r.2 - r.1)) ++ (countsOf l).map (· * r.1) := by
  unfold countsOf
  rw [List.foldl_append] <;> rfl
theorem counts_lenA : ∀ (l : List (Int × Int)) (cs : List Int), (l.foldl (fun cs r => cs.map (· * (r.2 - r.1)) ++ cs.map (· * r.1)) cs).length = cs.length * 2 ^ l.length
  | [], cs => by simp
  | r :: l, cs => by
    rw [List.foldl_cons, counts_lenA l, List.length_append, List.length_map, List.length_map, List.length_cons, Nat.pow_succ, Nat.mul_comm (2 ^ l.length) 2, ← Nat.mul_assoc]
    congr 1
    omega
theorem countsOf_len (l : List (Int × Int)) : (countsOf l).length = 2 ^ l.length := by
  unfold countsOf
  rw [counts_lenA]
  simp
theorem counts_boundA : ∀ (l : List (Int × Int)) (cs : List Int) (b : Int), (∀ r ∈ l, 0 ≤ r.1 ∧ r.1 ≤ r.2 ∧ r.2 ≤ 1000) → (∀ c ∈ cs, 0 ≤ c ∧ c ≤ b) → ∀ c ∈ l.foldl (fun cs r => cs.map (· * (r.2 - r.1)) ++ cs.map (· * r.1)) cs, 0 ≤ c ∧ c ≤ b * 1000 ^ l.length
  | [], cs, b, _, h, c, hc => by
    rw [List.length_nil, Int.pow_zero, Int.mul_one]
    exact h c hc
  | r :: l, cs, b, h, k, c, hc => by
    obtain ⟨h1, h2, h3⟩ := h r List.mem_cons_self
    rw [List.length_cons, Int.pow_succ, Int.mul_comm (1000 ^ l.length) 1000, ← Int.mul_assoc]
    refine counts_boundA l _ (b * 1000) (fun r hr => h r (List.mem_cons_of_mem _ hr)) (fun d hd => ?_) c hc
    rcases List.mem_append.mp hd with z | z <;> obtain ⟨e, he, rfl⟩ := List.mem_map.mp z <;> obtain ⟨d1, d2⟩ := k e he
    · exact ⟨Int.mul_nonneg d1 (by omega), Int.mul_le_mul d2 (by omega) (by omega) (by omega)⟩
    · exact ⟨Int.mul_nonneg d1 h1, Int.mul_le_mul d2 (by omega) h1 (by omega)⟩
theorem counts_bound {l : List (Int × Int)} (h : ∀ r ∈ l, 0 ≤ r.1 ∧ r.1 ≤ r.2 ∧ r.2 ≤ 1000) : ∀ c ∈ countsOf l, 0 ≤ c ∧ c ≤ 1000 ^ l.length := fun c hc => by
  have := counts_boundA l [1] 1 h (fun c hc => by rw [List.mem_singleton.mp hc]; decide) c hc
  rw [Int.one_mul] at this
  exact this
def chF (tr tc : Addr) (s : Int) : List (Str × V) := putF "counts" (.ref tc) (putF "scale" (.int s) (putF "ratios" (.ref tr) []))
/-- v is the chances l -/
def Chs (K : PySem.W.Frag) (C CR : Addr) (H : Hp) (v : V) (l : List (Int × Int)) : Prop := ∃ a dx tr tc ys, v = .ref a ∧ H a = some (.ins C dx (chF tr tc (prodU l))) ∧ SqT K H tr ys ∧ Rats CR H l ys ∧ SqT K H tc ((countsOf l).map V.int) ∧ 1 ≤ l.length ∧ l.length ≤ 8 ∧ ∀ r ∈ l, chanceOk r.1 r.2 = true
/-- what is passed for a chance: terms of a ratio, or none -/
def ChOf (K : PySem.W.Frag) (CR : Addr) (H : Hp) (o : Option (Int × Int)) (y : V) : Prop := match o with
  | some r => Rat CR H y r.1 r.2 ∧ Sz 200 r.1 r.2
  | none => ∀ H' : Hp, ∃ t, TyX K H' y t ∧ PySem.W.kitOne K t (.ref CR) = some false
def okOf : Option (Int × Int) → Bool
  | some r => chanceOk r.1 r.2
  | none => false
def spCh0 (K : PySem.W.Frag) (C CR CB : Addr) : Sp := fun vs H Q E => ∃ (a dx p : Addr) (ys : List V) (xs : List (Option (Int × Int))), vs = [.ref a, .ref p] ∧ H a = some (.ins C dx []) ∧ SqT K H p ys ∧ Paired (ChOf K CR H) xs ys ∧
  (xs.length = 0 ∨ 8 < xs.length → Err CB H E "copies" (.int xs.length)) ∧
  (1 ≤ xs.length → xs.length ≤ 8 → (∀ (i : Nat) (y : V), ys[i]? = some y → (∀ o ∈ xs.take i, okOf o = true) → (xs[i]?.map okOf) = some false → Err CB H E "chance" y) ∧
    ∀ l : List (Int × Int), xs = l.map some → (∀ r ∈ l, chanceOk r.1 r.2 = true) → ∀ H', (∀ b o, H b = some o → b ≠ a → H' b = some o) → Chs K C CR H' (.ref a) l → Q .non H')
theorem all_ok : ∀ (xs : List (Option (Int × Int))), (∀ o ∈ xs, okOf o = true) → ∃ l : List (Int × Int), xs = l.map some ∧ ∀ r ∈ l, chanceOk r.1 r.2 = true
  | [], _ => ⟨[], rfl, fun _ h => by cases h⟩
  | none :: _, h => by
    have := h none List.mem_cons_self
    cases this
  | some r :: xs, h => by
    obtain ⟨l, rfl, k⟩ := all_ok xs fun o ho => h o (List.mem_cons_of_mem _ ho)
    refine ⟨r :: l, rfl, fun q hq => ?_⟩
    rcases List.mem_cons.mp hq with rfl | hq
    · exact h (some q) List.mem_cons_self
    · exact k q hq
theorem ok_terms {p q : Int} (h : chanceOk p q = true) : 0 ≤ p ∧ p ≤ q ∧ q ≤ 1000 := by
  unfold chanceOk at h
  simp at h
  omega
theorem rat_exc {H H' : Hp} {a C CR dx : Addr} {fs : List (Str × V)} {v : V} {p q : Int} (hn : fs.lookup ("over" : Str) = none) (ha : H a = some (.ins C dx fs)) (e : Exc a H H') (R : Rat CR H v p q) : Rat CR H' v p q := by
  obtain ⟨⟨b, db, rfl, h⟩, h1, h2⟩ := R
  refine ⟨⟨b, db, rfl, e b _ (fun z => ?_) h⟩, h1, h2⟩
  rw [z, ha] at h
  have e2 : fs = rfR p q := by
    injection h with h
    injection h
  rw [e2, rfR_over] at hn
  cases hn
/-! ### pairs of lists -/
theorem prTake {α β : Type} {F : α → β → Prop} : ∀ {xs : List α} {ys : List β} (k : Nat), Paired F xs ys → Paired F (xs.take k) (ys.take k)
  | _, _, 0, _ => by rw [List.take_zero, List.take_zero]; exact .nil
  | _, _, _ + 1, .nil => by rw [List.take_nil, List.take_nil]; exact .nil
  | _, _, k + 1, .cons a t => by rw [List.take_succ_cons, List.take_succ_cons]; exact .cons a (prTake k t)
/-! ### chances: what == says, what the methods promise -/
def DRt (C : Addr) : Ans := fun x y b H => ∃ p q p' q', Rat C H x p q ∧ Rat C H y p' q' ∧ b = (decide (p = p') && decide (q = q'))
theorem mon_rt {C : Addr} : MonB (DRt C) := fun x y b H H' s d => by
  obtain ⟨p, q, p', q', h1, h2, h3⟩ := d
  exact ⟨p, q, p', q', h1.same s, h2.same s, h3⟩
theorem ref_rt {K : PySem.W.Frag} {C : Addr} : RefB K (DRt C) := fun x b H _ d => by
  obtain ⟨p, q, p', q', h1, h2, h3⟩ := d
  obtain ⟨rfl, rfl⟩ := h1.inj h2
  simp [h3]
/-- items: plain values, the same object, ratios -/
def DIt (C : Addr) : Ans := fun x y b H => DFl x y b H ∨ DRt C x y b H
theorem mon_it {C : Addr} : MonB (DIt C) := mon_fl.or mon_rt
theorem eqB_it {X : Cx} {CX : CXT} {n : Nat} {C f : Addr} {fd : FuncData} {ps : List Str} {E : XK} (F : FnOk X.prog X.w X.K X.mg X.base CX n f fd ps (spEqR X.K C))
    (hs : PySem.W.findIn X.K (.ref C) "__eq__" = some (some (.ref f))) (hf : PySem.W.isFn X.K (.ref f) = true) (hb : Binds X.K fd ps []) (hx : Passes CX X E) : EqB X n (DIt C) :=
  (eqB_fl.mono (Nat.zero_le _)).or ((rcB_own F hs hf hb hx fun x y b H d => by
    obtain ⟨p, q, p', q', h1, h2, h3⟩ := d
    exact ⟨h1.isC, h2.isC, x, y, p, q, rfl, h1, .inl ⟨p', q', h2, by rw [h3], Same.refl _⟩⟩).eqB (fun x y b H d => by
      obtain ⟨p, q, p', q', ⟨⟨a, dx, h1, _⟩, _⟩, ⟨⟨c, dy, h2, _⟩, _⟩, _⟩ := d
      exact ⟨a, c, h1, h2⟩) ref_rt)
theorem Rats.same {C : Addr} {H H' : Hp} {l : List (Int × Int)} {ys : List V} (h : Rats C H l ys) (e : Same H H') : Rats C H' l ys := prImp (fun _ _ z => z.same e) h
section
variable {K : PySem.W.Frag} {C CR CB : Addr} {H : Hp} {p q : Addr} {l l' : List (Int × Int)} {ys ys' : List V} {Q : VK} {g : Bool → Bool}
/-- a value that is equal to itself within a tuple -/
def itemV (x : V) : Prop := scalV x = true ∨ ∃ a, x = .ref a
end
/-! #### the objects -/
theorem ChOf.same {K : PySem.W.Frag} {CR : Addr} {H H' : Hp} {o : Option (Int × Int)} {y : V} (h : ChOf K CR H o y) (e : Same H H') : ChOf K CR H' o y := by
  cases o with
  | none => exact h
  | some r => exact ⟨h.1.same e, h.2⟩
theorem Chs.same {K : PySem.W.Frag} {C CR : Addr} {H H' : Hp} {v : V} {l : List (Int × Int)} (h : Chs K C CR H v l) (e : Same H H') : Chs K C CR H' v l := by
  obtain ⟨a, dx, tr, tc, ys, rfl, h1, h2, h3, h4, h5⟩ := h
  exact ⟨a, dx, tr, tc, ys, rfl, e _ _ h1, Same.seqT e h2, h3.same e, Same.seqT e h4, h5⟩
theorem Chs.isC {K : PySem.W.Frag} {C CR : Addr} {H : Hp} {v : V} {l : List (Int × Int)} (h : Chs K C CR H v l) : IsC C H v := by
  obtain ⟨a, dx, tr, tc, ys, rfl, h1, _⟩ := h
  exact ⟨a, dx, _, rfl, h1⟩
theorem Chs.len {K : PySem.W.Frag} {C CR : Addr} {H : Hp} {v : V} {l : List (Int × Int)} (h : Chs K C CR H v l) : 1 ≤ l.length ∧ l.length ≤ 8 ∧ ∀ r ∈ l, chanceOk r.1 r.2 = true := by
  obtain ⟨a, dx, tr, tc, ys, rfl, _, _, _, _, h⟩ := h
  exact h
theorem fc_rs : ¬ (("ratios" : Str) = "scale") := by decide +kernel
theorem fc_rc : ¬ (("ratios" : Str) = "counts") := by decide +kernel
theorem fc_sc : ¬ (("scale" : Str) = "counts") := by decide +kernel
theorem chF_counts (tr tc : Addr) (s : Int) : (chF tr tc s).lookup ("counts" : Str) = some (.ref tc) := by
  unfold chF
  rw [lookup_putF, if_pos rfl]
theorem chF_scale (tr tc : Addr) (s : Int) : (chF tr tc s).lookup ("scale" : Str) = some (.int s) := by
  unfold chF
  rw [lookup_putF, if_neg fc_sc, lookup_putF, if_pos rfl]
theorem chF_ratios (tr tc : Addr) (s : Int) : (chF tr tc s).lookup ("ratios" : Str) = some (.ref tr) := by
  unfold chF
  rw [lookup_putF, if_neg fc_rc, lookup_putF, if_neg fc_rs, lookup_putF, if_pos rfl]
theorem chF_no (tr tc : Addr) (s : Int) {x : Str} (h1 : ¬ x = "counts") (h2 : ¬ x = "scale") (h3 : ¬ x = "ratios") : (chF tr tc s).lookup x = none := by
  unfold chF
  rw [lookup_putF, if_neg h1, lookup_putF, if_neg h2, lookup_putF, if_neg h3]
  all_goals rfl
/-- what a method's call asks of the object -/
theorem Chs.meth {K : PySem.W.Frag} {C CR : Addr} {H : Hp} {v : V} {l : List (Int × Int)} (h : Chs K C CR H v l) {m : Str} (e : (m == "counts" || m == "scale" || m == "ratios") = false) {Z : Prop} (z : Z) : ∃ a dx fs, v = .ref a ∧ H a = some (.ins C dx fs) ∧ fs.lookup m = none ∧ Z := by
  obtain ⟨a, dx, tr, tc, ys, rfl, h1, _⟩ := h
  simp at e
  exact ⟨a, dx, _, rfl, h1, chF_no _ _ _ e.1.1 e.1.2 e.2, z⟩
/-- chances made of anything -/
theorem any_chs {K : PySem.W.Frag} {C CR CB : Addr} {H : Hp} {ys : List V} {xs : List (Option (Int × Int))} {Q : Addr → Hp → Prop} {E : XK} (hp : Paired (ChOf K CR H) xs ys) (hl : ys.length ≤ 1000)
    (h1 : xs.length = 0 ∨ 8 < xs.length → Err CB H E "copies" (.int xs.length))
    (h2 : 1 ≤ xs.length → xs.length ≤ 8 → (∀ (i : Nat) (y : V), ys[i]? = some y → (∀ o ∈ xs.take i, okOf o = true) → (xs[i]?.map okOf) = some false → Err CB H E "chance" y) ∧
      ∀ l : List (Int × Int), xs = l.map some → (∀ r ∈ l, chanceOk r.1 r.2 = true) → ∀ a H', Same H H' → Chs K C CR H' (.ref a) l → Q a H') :
    ∀ x dx, H x = none → H dx = none → dx ≠ x → spStar 1 (spCh0 K C CR CB) (.ref x :: ys) (upd (upd H dx (.own x)) x (.ins C dx [])) (fun v H2 => v = .non ∧ Q x H2) E := by
  intro x dx nx nd ne
  have e1000 : (1000 : Nat) ≤ sizeLine := by decide
  refine ⟨[.ref x], ys, rfl, rfl, by omega, fun p np => ?_⟩
  have s0 : Same H (upd (upd H dx (.own x)) x (.ins C dx [])) := fun b o e => by
    rw [upd_ne (ne_of_none e nx), upd_ne (ne_of_none e nd)]
    exact e
  have sp := s0.trans (same_upd (o := .tup ys) np)
  have hx : upd (upd (upd H dx (.own x)) x (.ins C dx [])) p (.tup ys) x = some (.ins C dx []) := (upd_ne (ne_of_none upd_same np)).trans upd_same
  refine ⟨x, dx, p, ys, xs, rfl, hx, .inl (.inl upd_same), prImp (fun _ _ z => z.same sp) hp, fun z => (h1 z).of sp, fun z1 z2 => ?_⟩
  obtain ⟨k1, k2⟩ := h2 z1 z2
  exact ⟨fun i y w1 w2 w3 => (k1 i y w1 w2 w3).of sp, fun l e ok H' k G => ⟨rfl, k2 l e ok x H' (fun b o e => k b o (sp b o e) (ne_of_none e nx)) G⟩⟩
theorem sz_small {p q : Int} (h : chanceOk p q = true) (h0 : 0 < q) : Sz 200 p q := by
  obtain ⟨h1, h2, h3⟩ := ok_terms h
  have e : (1001 : Nat) < 2 ^ 200 := by decide
  exact ⟨by omega, by omega⟩
/-- ratios that are right chances, as they are handed over -/
theorem rats_args {K : PySem.W.Frag} {CR : Addr} {H : Hp} : ∀ {l : List (Int × Int)} {ys : List V}, Rats CR H l ys → (∀ r ∈ l, chanceOk r.1 r.2 = true) → Paired (ChOf K CR H) (l.map some) ys
  | _, _, .nil, _ => .nil
  | _, _, .cons a t, h => .cons ⟨a, sz_small (h _ List.mem_cons_self) a.pos⟩ (rats_args t fun r hr => h r (List.mem_cons_of_mem _ hr))
theorem ok_somes {l : List (Int × Int)} (h : ∀ r ∈ l, chanceOk r.1 r.2 = true) {i : Nat} : (((l.map some)[i]?).map okOf) ≠ some false := fun z => by
  rw [List.getElem?_map] at z
  cases e : l[i]? with
  | none => rw [e] at z; cases z
  | some r =>
    rw [e] at z
    injection z with z
    have := h r (List.mem_of_getElem? e)
    rw [show okOf (some r) = chanceOk r.1 r.2 from rfl] at z
    rw [z] at this
    cases this
theorem somes_inj {l l' : List (Int × Int)} (h : l.map some = l'.map some) : l = l' := List.map_inj_right (fun _ _ e => Option.some.inj e) |>.mp h
/-- right chances -/
theorem mk_chs {K : PySem.W.Frag} {C CR CB : Addr} {H : Hp} {l : List (Int × Int)} {ys : List V} {Q : Addr → Hp → Prop} {E : XK} (h : Rats CR H l ys) (ok : ∀ r ∈ l, chanceOk r.1 r.2 = true) (n1 : 1 ≤ l.length) (n8 : l.length ≤ 8) (k : ∀ a H', Same H H' → Chs K C CR H' (.ref a) l → Q a H') :
    ∀ x dx, H x = none → H dx = none → dx ≠ x → spStar 1 (spCh0 K C CR CB) (.ref x :: ys) (upd (upd H dx (.own x)) x (.ins C dx [])) (fun v H2 => v = .non ∧ Q x H2) E :=
  any_chs (rats_args h ok) (by have := prLen h; omega) (fun z => by rw [List.length_map] at z; omega) fun _ _ => ⟨fun i y _ _ z => absurd z (ok_somes ok), fun l' e _ a H' s G => by cases somes_inj e; exact k a H' s G⟩
/-! #### the methods -/
def spChLen (K : PySem.W.Frag) (C CR : Addr) : Sp := fun vs H Q _ => ∃ x l, vs = [x] ∧ Chs K C CR H x l ∧ Q (.int (l.length : Nat)) H
def spChEq (K : PySem.W.Frag) (C CR : Addr) : Sp := fun vs H Q _ => ∃ x y l, vs = [x, y] ∧ Chs K C CR H x l ∧ ((∃ l', Chs K C CR H y l' ∧ ∀ H', Same H H' → Q (.bl (decide (l = l'))) H') ∨ (∃ t, TyX K H y t ∧ PySem.W.kitOne K t (.ref C) = some false ∧ Q (.bl false) H))
def spChAdd (K : PySem.W.Frag) (C CR CB : Addr) : Sp := fun vs H Q E => ∃ x y l l', vs = [x, y] ∧ Chs K C CR H x l ∧ Chs K C CR H y l' ∧ (l.length + l'.length ≤ 8 → ∀ r H', Same H H' → Chs K C CR H' r (l ++ l') → Q r H') ∧ (8 < l.length + l'.length → Err CB H E "copies" (.int (l.length + l'.length : Nat)))
def spChGet (K : PySem.W.Frag) (C CR CB : Addr) : Sp := fun vs H Q E => ∃ x c l, vs = [x, c] ∧ Chs K C CR H x l ∧ scalV c = true ∧ (∀ (n : Nat) r, c = .int n → l[n]? = some r → ∀ y, Rat CR H y r.1 r.2 → Q y H) ∧ (copyOk l.length c = false → Err CB H E "copy" c)
def spChWith (K : PySem.W.Frag) (C CR CB : Addr) : Sp := fun vs H Q E => ∃ x c z l o, vs = [x, c, z] ∧ Chs K C CR H x l ∧ scalV c = true ∧ ChOf K CR H o z ∧ (copyOk l.length c = false → Err CB H E "copy" c) ∧
  (∀ n : Nat, c = .int n → n < l.length → (okOf o = false → Err CB H E "chance" z) ∧ (∀ r, o = some r → chanceOk r.1 r.2 = true → ∀ v H', Same H H' → Chs K C CR H' v (l.set n r) → Q v H'))
section
variable {K : PySem.W.Frag} {C CR CB : Addr} {H : Hp} {x y : V} {l l' : List (Int × Int)} {Q : VK} {E : XK}
theorem ch_add (h : Chs K C CR H x l) (h' : Chs K C CR H y l') (n : l.length + l'.length ≤ 8) (k : ∀ r H', Same H H' → Chs K C CR H' r (l ++ l') → Q r H') : rOwnB C (spChAdd K C CR CB) E x y H Q :=
  ⟨h.isC, h'.isC, x, y, l, l', rfl, h, h', fun _ => k, fun z => by omega⟩
end
/-! ### lots within lots -/
/-- two lots with a copy in common -/
def metB (k m : Nat) : Bool := ((oneL k).map fun c => m.testBit c).any id
/-- the lots of f: their masks, least first -/
def inL (n : Nat) (f : Nat → Bool) : List Nat := (List.range (2 ^ n)).filter f
def allMet (n : Nat) (f g : Nat → Bool) : Bool := ((inL n f).map fun m => ((inL n g).map fun k => metB m k).all id).all id
/-! ### what the law's own defs tell -/
def Lots (K : PySem.W.Frag) (H : Hp) (p : Addr) (ms : List Nat) : Prop := ∃ ys, SqL K H p ys ∧ Paired (fun m y => Lot K H m y) ms ys
def spPair (K : PySem.W.Frag) (b : Nat → Nat → Bool) : Sp := fun vs H Q _ => ∃ (x y : V) (m k : Nat), vs = [x, y] ∧ Lot K H m x ∧ Lot K H k y ∧ m < 256 ∧ k < 256 ∧ ∀ H', Same H H' → Q (.bl (b m k)) H'
def spGrown (K : PySem.W.Frag) : Sp := fun vs H Q _ => ∃ (n : Nat) (p : Addr) (ms : List Nat), vs = [.int n, .ref p] ∧ n ≤ 8 ∧ Lots K H p ms ∧ ms.length ≤ 1000 ∧ (∀ m ∈ ms, m < 2 ^ n) ∧
  ∀ q H', Same H H' → H q = none → SqL K H' q (marksV n (upB ms)) → Q (.ref q) H'
def spMarksOf (K : PySem.W.Frag) (C : Addr) : Sp := fun vs H Q _ => ∃ (x : V) (n : Nat) (f : Nat → Bool), vs = [x] ∧ Fam K C H x n f ∧ ∀ q H', Same H H' → H q = none → SqL K H' q (marksV n f) → Q (.ref q) H'
def spAllMeet (K : PySem.W.Frag) : Sp := fun vs H Q _ => ∃ (p q : Addr) (n : Nat) (f g : Nat → Bool), vs = [.ref p, .ref q] ∧ Lots K H p (inL n f) ∧ Lots K H q (inL n g) ∧ n ≤ 8 ∧ ∀ H', Same H H' → Q (.bl (allMet n f g)) H'
/-! ### what a comprehension within a comprehension walks -/
/-! ### the law's masks, chosen by a list of marks -/
def spIns (K : PySem.W.Frag) (Q : Addr → Hp → Prop) (n : Nat) (f : Nat → Bool) (H : Hp) : Prop := ∀ q H', Same H H' → H q = none → Lots K H' q (inL n f) → Q q H'
theorem range_filterM {α : Type} (f : Nat → Bool) (g : Nat → α) (n : Nat) : (List.range n).filterMap (fun m => if f m = true then some (g m) else none) = ((List.range n).filter f).map g := by
  induction n with
  | zero => rfl
  | succ k ih =>
    rw [List.range_succ, List.filterMap_append, ih, List.filter_append, List.map_append]
    congr 1
    cases e : f k <;> simp [e]
section
variable {K : PySem.W.Frag} {C CU : Addr} {H : Hp} {x y : V} {n m : Nat} {f : Nat → Bool} {Q : VK} {E : XK}
end
theorem atI0 {α : Type} {xs : List α} {j : Nat} {v : α} (h : xs[j]? = some v) : atI xs (0 + (j : Int)) = some v := by
  rw [Int.zero_add]
  exact atI_nat h
/-! ### C.m(a, ..), m a static method -/
section
variable {X : Cx} {CX : CXT} {k : Nat} {f C : Addr} {fd : FuncData} {ps : List Str} {sp : Sp} {E : XK}
def tSM (C : Addr) (sp : Sp) (E : XK) (ta : TE) (ts : TA) : TE := fun σ H Q => ta σ H fun x H1 => x = .ref C ∧ ts σ H1 fun vs H2 => sp vs H2 Q E
theorem pe_smeth {o e : Expr} {es : List Expr} {m : Str} {pos apos : Pos} {ta : TE} {ts : TA} {pl : Sem Bool} (ho : PE X o ta) (M : SMet X.K C m f) (F : FnOk X.prog X.w X.K X.mg X.base CX k f fd ps sp) (kp : PySem.W.keepIn X.K (.ref f) = true) (hr : Room k X.A) (hb : Binds X.K fd ps []) (hx : Passes CX X E)
    (ha : PA X (e :: es) ts)
    (ht : eval (.Call (.Attribute o m apos) (e :: es) [] pos) X.env = (do
      let ov ← eval o X.env
      standAt apos.atName
      let (f, first) ← holding [ov] (getMethod ov m pl)
      callWith pos f first (backTo pos (starEach (e :: es) X.env)) (backToKw pos (keywordEach [] X.env))) := by rfl)
    (he : starEach (e :: es) X.env = (false, eval e X.env) :: starEach es X.env := by rfl) (hpl : (backTo pos (starEach es X.env)).any (·.1) = false := by rfl) :
    PE X (.Call (.Attribute o m apos) (e :: es) [] pos) (tSM C sp E ta ts) := by
  refine ⟨fun pins s σ H Q I h => ?_⟩
  refine PySem.W.methodCall_KW (pl := pl) (thn (ho.run pins s σ H _ I h) fun u s1 ⟨x, H1, I1, rx, ex, q⟩ => ?_) ht
  subst ex
  obtain rfl : u = Value.ref C := rx
  obtain ⟨p, rest, e, hp⟩ := M.at_
  refine PySem.W.method_cls I1.kIn M.ga ?_
  refine PySem.W.cls_bind I1.kIn M.rd e (wpAny_call (PySem.W.sm_get (s := { s1 with toks := s1.toks + 1 }) I1.kIn hp (PySem.W.handed_on rfl ?_)))
  have I2 : Inv X pins σ H1 { s1 with toks := s1.toks + 1 } := I1.tok _
  refine PySem.W.callWith_K (h₀ := X.base) I2.ok.mod.kin kp (thn (ha.run pos pins _ σ H1 _ I2 q) fun us s2 ⟨vs, H2, I3, r, q2⟩ => ⟨I3.kIn, ?_⟩) he hpl
  exact run_fn F hr hb .nil hx I3 r (by simpa using q2)
end
/-! ### own signs of which K is named -/
theorem ownCK {X : Cx} {K : PySem.W.Frag} {C : Addr} {sp : Sp} {E : XK} {f : Value → Value → Sem Value} (h : X.K = K) (o : OpR X f (rOwnC X.K C sp E)) : OpR X f (rOwnC K C sp E) := h ▸ o
/-! ### lists of marks, compared -/
def marksD (n : Nat) (f : Nat → Bool) : PyData := .list (((List.range (2 ^ n)).map f).map PyData.bool)
section
variable {K : PySem.W.Frag} {H : Hp} {p q : Addr} {n : Nat} {f g : Nat → Bool} {Q : VK}
end
/-! ### plain families, and one copy more -/
def eachL (n : Nat) : List Nat := (List.range n).map fun c => 1 <<< c
theorem plain_each : ∀ n : Nat, n < 9 → 1 ≤ n → minL n (upB (eachL n)) = eachL n ∧ sizeF n (upB (eachL n)) = 2 ^ n - 1 ∧ (∀ c, c < n → lotL (1 <<< c) = [(c : Int)]) := by decide +kernel
/-- f with a copy more, that changes nothing -/
def wideB (n : Nat) (f : Nat → Bool) : Nat → Bool := upB (minL n f)
section
variable {n : Nat} {f : Nat → Bool}
theorem half {m : Nat} (h : m < 2 ^ (n + 1)) : m < 2 ^ n ∨ ∃ k, k < 2 ^ n ∧ m = 2 ^ n + k := by
  rw [Nat.pow_succ] at h
  by_cases c : m < 2 ^ n
  · exact .inl c
  · exact .inr ⟨m - 2 ^ n, by omega, by omega⟩
end
/-! ### a family made of anything -/
/-! ### chances: pairs in lowest terms, what the law draws -/
def goodR (r : Int × Int) : Prop := 2 ≤ r.2 ∧ r.2 ≤ 12 ∧ r.1 < r.2 ∧ r.2 ≤ 2 * r.1
def lowR (r : Int × Int) : Int × Int := (r.1.fdiv ((Nat.gcd r.1.natAbs r.2.natAbs : Nat) : Int), r.2.fdiv ((Nat.gcd r.1.natAbs r.2.natAbs : Nat) : Int))
theorem low_nf {r : Int × Int} (h : 0 < r.2) : Nf r.1 r.2 (lowR r).1 (lowR r).2 := (nf_make (O := r.1) (U := r.2) (by omega) (by rw [if_neg (by omega)])).2.2
theorem low_of {r : Int × Int} {p q : Int} (h : 0 < r.2) (n : Nf r.1 r.2 p q) : p = (lowR r).1 ∧ q = (lowR r).2 := Nf.unique (by omega) n (low_nf h)
theorem low_ok {r : Int × Int} (g : goodR r) : chanceOk (lowR r).1 (lowR r).2 = true := by
  obtain ⟨g1, g2, g3, g4⟩ := g
  have n := low_nf (r := r) (by omega)
  revert n
  generalize (lowR r).1 = p
  generalize (lowR r).2 = q
  intro n
  obtain ⟨n1, n2, n3, n4, n5⟩ := n
  have k1 : 0 < r.2 := by omega
  have e1 : q ≤ 2 * p := by
    refine Int.le_of_mul_le_mul_right (a := r.2) ?_ k1
    rw [Int.mul_assoc, n3, Int.mul_comm r.1 q, ← Int.mul_assoc, Int.mul_comm 2 q, Int.mul_assoc]
    exact Int.mul_le_mul_of_nonneg_left g4 (by omega)
  have e2 : p < q := by
    refine Int.lt_of_mul_lt_mul_right (a := r.2) ?_ (by omega)
    rw [n3, Int.mul_comm r.1 q]
    exact Int.mul_lt_mul_of_pos_left g3 n1
  unfold chanceOk
  rw [decide_eq_true e1, decide_eq_true e2, decide_eq_true (by omega)]
  rfl
/-- a pair as a tuple -/
def PrT (K : PySem.W.Frag) (H : Hp) (r : Int × Int) (y : V) : Prop := ∃ p, y = .ref p ∧ SqT K H p [.int r.1, .int r.2]
theorem PrT.same {K : PySem.W.Frag} {H H' : Hp} {r : Int × Int} {y : V} (h : PrT K H r y) (e : Same H H') : PrT K H' r y := by
  obtain ⟨p, rfl, h⟩ := h
  exact ⟨p, rfl, Same.seqT e h⟩
theorem ratT {C : Addr} {H H' : Hp} {v : V} {p q : Int} (R : Rat C H v p q) (e : SameT H H') : Rat C H' v p q := by
  obtain ⟨⟨b, db, rfl, h⟩, h1, h2⟩ := R
  exact ⟨⟨b, db, rfl, e b _ h fun _ z => by cases z⟩, h1, h2⟩
def spLChance (K : PySem.W.Frag) : Sp := fun vs H Q _ => ∃ (l t : Addr) (H0 : Hp), vs = [.ref l, .ref t] ∧ Drw K H0 l t H ∧ ∀ (r : Int × Int) p H', goodR r → Exc t H H' → Drw K H0 l t H' → H p = none → H' p = some (.tup [.int r.1, .int r.2]) → Q (.ref p) H'
def spLChances (K : PySem.W.Frag) (C CR : Addr) : Sp := fun vs H Q _ => ∃ (p : Addr) (rs : List (Int × Int)) (ys : List V), vs = [.ref p] ∧ SqL K H p ys ∧ Paired (PrT K H) rs ys ∧ 1 ≤ rs.length ∧ rs.length ≤ 8 ∧ (∀ r ∈ rs, goodR r) ∧ ∀ v H', Same H H' → Chs K C CR H' v (rs.map lowR) → Q v H'
theorem PrT.sameT {K : PySem.W.Frag} {H H' : Hp} {r : Int × Int} {y : V} (h : PrT K H r y) (e : SameT H H') : PrT K H' r y := by
  obtain ⟨p, rfl, h⟩ := h
  exact ⟨p, rfl, e.seqT h⟩
theorem Rats.sameT {C : Addr} {H H' : Hp} {l : List (Int × Int)} {ys : List V} (h : Rats C H l ys) (e : SameT H H') : Rats C H' l ys := prImp (fun _ _ z => ratT z e) h
theorem Chs.sameT {K : PySem.W.Frag} {C CR : Addr} {H H' : Hp} {v : V} {l : List (Int × Int)} (h : Chs K C CR H v l) (e : SameT H H') : Chs K C CR H' v l := by
  obtain ⟨a, dx, tr, tc, ys, rfl, h1, h2, h3, h4, h5⟩ := h
  exact ⟨a, dx, tr, tc, ys, rfl, e.ins h1, e.seqT h2, h3.sameT e, e.seqT h4, h5⟩
/-! ### ratios as rational numbers -/
abbrev Qr := _root_.Rat
def qd (O U : Int) : Qr := _root_.Rat.divInt O U
def RV (C : Addr) (H : Hp) (v : V) (r : Qr) : Prop := Rat C H v r.num (r.den : Int)
def Szq (n : Nat) (r : Qr) : Prop := Sz n r.num (r.den : Int)
theorem RV.same {C : Addr} {H H' : Hp} {v : V} {r : Qr} (h : RV C H v r) (e : Same H H') : RV C H' v r := Rat.same h e
theorem RV.isC {C : Addr} {H : Hp} {v : V} {r : Qr} (h : RV C H v r) : IsC C H v := Rat.isC h
theorem RV.ty {K : PySem.W.Frag} {C : Addr} {H : Hp} {v : V} {r : Qr} (h : RV C H v r) (T : InsC K C) : TyX K H v (.ref C) := Rat.ty h T
theorem qr_self (r : Qr) : qd r.num r.den = r := _root_.Rat.num_divInt_den r
theorem qr_pos (r : Qr) : (0 : Int) < r.den := by have := r.den_pos; omega
theorem nf_q {O U p q : Int} (hU : U ≠ 0) (n : Nf O U p q) : p = (qd O U).num ∧ q = ((qd O U).den : Int) := by
  have h : (qd O U).num * U = O * ((qd O U).den : Int) := by
    have e : qd (qd O U).num (qd O U).den = qd O U := qr_self _
    exact (_root_.Rat.divInt_eq_divInt_iff (by have := qr_pos (qd O U); omega) hU).mp e
  refine cross_unique n.pos (qr_pos _) n.cop (qd O U).reduced ?_
  refine Int.eq_of_mul_eq_mul_right hU ?_
  calc p * ((qd O U).den : Int) * U = (p * U) * ((qd O U).den : Int) := by grind
    _ = (O * q) * ((qd O U).den : Int) := by rw [n.eq]
    _ = (O * ((qd O U).den : Int)) * q := by grind
    _ = ((qd O U).num * U) * q := by rw [h]
    _ = (qd O U).num * q * U := by grind
theorem rv_nf {C : Addr} {H : Hp} {v : V} {O U p q : Int} (hU : U ≠ 0) (n : Nf O U p q) (R : Rat C H v p q) : RV C H v (qd O U) := by
  obtain ⟨rfl, rfl⟩ := nf_q hU n
  exact R
theorem szq_div {O U : Int} {m : Nat} (hU : U ≠ 0) (h1 : O.natAbs < 2 ^ m) (h2 : U.natAbs < 2 ^ m) : Szq m (qd O U) := by
  obtain ⟨_, _, n⟩ := nf_make (O := O) hU rfl
  obtain ⟨e1, e2⟩ := nf_q hU n
  exact ⟨by rw [← e1]; exact Nat.lt_of_le_of_lt n.le1 h1, by rw [← e2]; exact Nat.lt_of_le_of_lt n.le2 h2⟩
theorem Szq.mono {n m : Nat} {r : Qr} (h : Szq n r) (l : n ≤ m) : Szq m r := Sz.mono h l
theorem q_add (a b : Qr) : qd (a.num * b.den + b.num * a.den) (a.den * b.den) = a + b := by
  have := _root_.Rat.divInt_add_divInt a.num b.num (d₁ := a.den) (d₂ := b.den) (by have := qr_pos a; omega) (by have := qr_pos b; omega)
  rw [_root_.Rat.num_divInt_den, _root_.Rat.num_divInt_den] at this
  exact this.symm
theorem q_sub (a b : Qr) : qd (a.num * b.den - b.num * a.den) (a.den * b.den) = a - b := by
  have := _root_.Rat.divInt_sub_divInt a.num b.num (d₁ := a.den) (d₂ := b.den) (by have := qr_pos a; omega) (by have := qr_pos b; omega)
  rw [_root_.Rat.num_divInt_den, _root_.Rat.num_divInt_den] at this
  exact this.symm
theorem q_mul (a b : Qr) : qd (a.num * b.num) (a.den * b.den) = a * b := by
  have := _root_.Rat.divInt_mul_divInt a.num b.num (d₁ := a.den) (d₂ := b.den)
  rw [_root_.Rat.num_divInt_den, _root_.Rat.num_divInt_den] at this
  exact this.symm
theorem q_den (a b : Qr) : (a.den : Int) * (b.den : Int) ≠ 0 := Int.mul_ne_zero (by have := qr_pos a; omega) (by have := qr_pos b; omega)
theorem szq_add {a b : Qr} {n : Nat} (h1 : Szq n a) (h2 : Szq n b) : Szq (n + n + 1) (a + b) := by
  rw [← q_add]
  refine szq_div (q_den _ _) (sz_add h1.1 h2.2 h2.1 h1.2) ?_
  exact Nat.lt_of_lt_of_le (wide_lt h1.2 h2.2) (Nat.pow_le_pow_right (by decide) (by omega))
theorem szq_sub {a b : Qr} {n : Nat} (h1 : Szq n a) (h2 : Szq n b) : Szq (n + n + 1) (a - b) := by
  rw [← q_sub]
  refine szq_div (q_den _ _) (sz_sub h1.1 h2.2 h2.1 h1.2) ?_
  exact Nat.lt_of_lt_of_le (wide_lt h1.2 h2.2) (Nat.pow_le_pow_right (by decide) (by omega))
theorem szq_mul {a b : Qr} {n : Nat} (h1 : Szq n a) (h2 : Szq n b) : Szq (n + n) (a * b) := by
  rw [← q_mul]
  exact szq_div (q_den _ _) (wide_lt h1.1 h2.1) (wide_lt h1.2 h2.2)
/-- a value that counts as a rational number -/
def NV (C : Addr) (H : Hp) (v : V) (r : Qr) : Prop := Num C H v r.num (r.den : Int)
theorem nv_int {C : Addr} {H : Hp} (i : Int) : NV C H (.int i) (i : Qr) := .int i
section
variable {K : PySem.W.Frag} {C : Addr} {H : Hp} {x y : V} {a b : Qr} {n : Nat} {Q : VK} {E : XK}
theorem rv_add (h : RV C H x a) (g : RV C H y b) (s1 : Szq n a) (s2 : Szq n b) (n0 : 0 < n) (n1 : n ≤ 4000) (k : ∀ r H', Same H H' → RV C H' r (a + b) → Q r H') : rOwnB C (spArith C (fun p1 q1 p2 q2 => p1 * q2 + p2 * q1) (fun p1 q1 p2 q2 => q1 * q2)) E x y H Q :=
  ⟨h.isC, g.isC, x, y, _, _, _, _, n, rfl, h, .rat g, s1, s2, n0, n1, fun r p q H' s R nf => k r H' s (by rw [← q_add]; exact rv_nf (q_den _ _) nf R)⟩
theorem rv_sub (h : RV C H x a) (g : RV C H y b) (s1 : Szq n a) (s2 : Szq n b) (n0 : 0 < n) (n1 : n ≤ 4000) (k : ∀ r H', Same H H' → RV C H' r (a - b) → Q r H') : rOwnB C (spArith C (fun p1 q1 p2 q2 => p1 * q2 - p2 * q1) (fun p1 q1 p2 q2 => q1 * q2)) E x y H Q :=
  ⟨h.isC, g.isC, x, y, _, _, _, _, n, rfl, h, .rat g, s1, s2, n0, n1, fun r p q H' s R nf => k r H' s (by rw [← q_sub]; exact rv_nf (q_den _ _) nf R)⟩
theorem rv_mul (h : RV C H x a) (g : RV C H y b) (s1 : Szq n a) (s2 : Szq n b) (n0 : 0 < n) (n1 : n ≤ 4000) (k : ∀ r H', Same H H' → RV C H' r (a * b) → Q r H') : rOwnB C (spArith C (fun p1 q1 p2 q2 => p1 * p2) (fun p1 q1 p2 q2 => q1 * q2)) E x y H Q :=
  ⟨h.isC, g.isC, x, y, _, _, _, _, n, rfl, h, .rat g, s1, s2, n0, n1, fun r p q H' s R nf => k r H' s (by rw [← q_mul]; exact rv_nf (q_den _ _) nf R)⟩
/-- an integer less a ratio -/
theorem rv_rsub {i : Int} (g : RV C H y b) (s1 : Szq n (i : Qr)) (s2 : Szq n b) (n0 : 0 < n) (n1 : n ≤ 4000) (k : ∀ r H', Same H H' → RV C H' r ((i : Qr) - b) → Q r H') : rOwnR C (spArithI C (fun p1 q1 p2 q2 => p2 * q1 - p1 * q2) (fun p1 q1 p2 q2 => q2 * q1)) E (.int i) y H Q :=
  ⟨⟨i, rfl⟩, g.isC, i, rfl, y, .int i, _, _, _, _, n, rfl, g, nv_int i, s2, s1, n0, n1, fun r p q H' s R nf => k r H' s (by rw [← q_sub]; exact rv_nf (q_den _ _) nf R)⟩
theorem rv_eq (T : InsC K C) (h : RV C H x a) (g : RV C H y b) (k : Q (.bl (decide (a = b))) H) : rOwnC K C (spEqR K C) E x y H Q :=
  ⟨h.isC, ⟨_, g.ty T, by simp [PySem.W.notFirst]⟩, x, y, _, _, rfl, h, .inl ⟨_, _, g, by
    have e : (decide (a.num = b.num) && decide ((a.den : Int) = b.den)) = decide (a = b) := by
      rw [Bool.eq_iff_iff, Bool.and_eq_true, decide_eq_true_eq, decide_eq_true_eq, decide_eq_true_eq]
      exact ⟨fun z => _root_.Rat.ext z.1 (by omega), fun z => by rw [z]; exact ⟨rfl, rfl⟩⟩
    rw [e]
    exact k⟩⟩
theorem rv_neF (T : InsC K C) (h : RV C H x a) (g : RV C H y b) (e : a = b) (k : Q (.bl false) H) : rOwnNe K C (spEqR K C) E x y H Q :=
  ⟨h.isC, ⟨_, g.ty T, by simp [PySem.W.notFirst]⟩, x, y, _, _, rfl, h, .inl ⟨_, _, g, by
    subst e
    exact ⟨_, rfl, by simpa using k⟩⟩⟩
end
/-! #### chances: what they tell of lots, of families -/
def aloneQ (l : List (Int × Int)) (m : Nat) : Qr := qd ((countsOf l).getD m 0) (prodU l)
def upS (l : List (Int × Int)) (f : Nat → Bool) : Int := ((List.range (2 ^ l.length)).filterMap fun m => if f m then some ((countsOf l).getD m 0) else none).sum
def upQ (l : List (Int × Int)) (f : Nat → Bool) : Qr := qd (upS l f) (prodU l)
def spAlone (K : PySem.W.Frag) (C CR CB : Addr) : Sp := fun vs H Q E => ∃ x y l xs, vs = [x, y] ∧ Chs K C CR H x l ∧ LotArg K H xs y ∧ (badOf l.length xs = none → ∀ r H', Same H H' → RV CR H' r (aloneQ l (maskV xs)) → Q r H') ∧ (∀ z, badOf l.length xs = some z → Err CB H E "copy" z)
def spUp (K : PySem.W.Frag) (C CR CF CU : Addr) : Sp := fun vs H Q E => ∃ x y l n f, vs = [x, y] ∧ Chs K C CR H x l ∧ Fam K CF H y n f ∧ (l.length = n → ∀ r H', Same H H' → RV CR H' r (upQ l f) → Q r H') ∧ (l.length ≠ n → E (.ref CU) none H)
/-- a right share -/
def shareOk (r : Qr) : Bool := decide (r.den ≤ 1000) && (decide (0 ≤ r) && decide (r ≤ 1))
/-- what is passed for a share: a rational number, or none -/
def ShOf (K : PySem.W.Frag) (CR : Addr) (H : Hp) (o : Option Qr) (y : V) : Prop := match o with
  | some r => RV CR H y r ∧ Szq 200 r
  | none => ∀ H' : Hp, ∃ t, TyX K H' y t ∧ PySem.W.kitOne K t (.ref CR) = some false
def shOk : Option Qr → Bool
  | some r => shareOk r
  | none => false
theorem ShOf.same {K : PySem.W.Frag} {CR : Addr} {H H' : Hp} {o : Option Qr} {y : V} (h : ShOf K CR H o y) (e : Same H H') : ShOf K CR H' o y := by
  cases o with
  | none => exact h
  | some r => exact ⟨h.1.same e, h.2⟩
def spShare (K : PySem.W.Frag) (CR CB : Addr) : Sp := fun vs H Q E => ∃ x o, vs = [x] ∧ ShOf K CR H o x ∧ (shOk o = true → ∀ H', Same H H' → Q x H') ∧ (shOk o = false → Err CB H E "share" x)
theorem prodU_pos {l : List (Int × Int)} (h : ∀ r ∈ l, 0 < r.2) : 0 < prodU l := by
  have g : ∀ (l : List (Int × Int)) (s : Int), 0 < s → (∀ r ∈ l, 0 < r.2) → 0 < l.foldl (fun s r => s * r.2) s := by
    intro l
    induction l with
    | nil => intro s hs _; exact hs
    | cons a l ih => intro s hs h; exact ih _ (Int.mul_pos hs (h a List.mem_cons_self)) fun r hr => h r (List.mem_cons_of_mem _ hr)
  exact g l 1 (by decide) h
theorem prodU_le {l : List (Int × Int)} (h : ∀ r ∈ l, 0 ≤ r.2 ∧ r.2 ≤ 1000) : 0 ≤ prodU l ∧ prodU l ≤ 1000 ^ l.length := by
  have g : ∀ (l : List (Int × Int)) (s b : Int), 0 ≤ s → s ≤ b → (∀ r ∈ l, 0 ≤ r.2 ∧ r.2 ≤ 1000) → 0 ≤ l.foldl (fun s r => s * r.2) s ∧ l.foldl (fun s r => s * r.2) s ≤ b * 1000 ^ l.length := by
    intro l
    induction l with
    | nil => intro s b h1 h2 _; exact ⟨h1, by rw [List.length_nil, Int.pow_zero, Int.mul_one]; exact h2⟩
    | cons a l ih =>
      intro s b h1 h2 h
      obtain ⟨a1, a2⟩ := h a List.mem_cons_self
      rw [List.length_cons, Int.pow_succ, Int.mul_comm (1000 ^ l.length) 1000, ← Int.mul_assoc]
      exact ih _ (b * 1000) (Int.mul_nonneg h1 a1) (Int.mul_le_mul h2 a2 a1 (by omega)) fun r hr => h r (List.mem_cons_of_mem _ hr)
  have := g l 1 1 (by decide) (by decide) h
  rw [Int.one_mul] at this
  exact this
theorem pow_k8 {n : Nat} (h : n ≤ 8) : (1000 : Int) ^ n ≤ 1000 ^ 8 := by
  rcases n with _ | _ | _ | _ | _ | _ | _ | _ | _ | n
  all_goals first | (decide) | omega
theorem Chs.terms {K : PySem.W.Frag} {C CR : Addr} {H : Hp} {v : V} {l : List (Int × Int)} (h : Chs K C CR H v l) : (∀ r ∈ l, 0 ≤ r.1 ∧ r.1 ≤ r.2 ∧ r.2 ≤ 1000) ∧ 0 < prodU l ∧ prodU l ≤ 1000 ^ 8 ∧ (prodU l).natAbs < 2 ^ 100 := by
  obtain ⟨a, dx, tr, tc, ys, rfl, h1, h2, h3, h4, n1, n8, ok⟩ := h
  have t : ∀ r ∈ l, 0 ≤ r.1 ∧ r.1 ≤ r.2 ∧ r.2 ≤ 1000 := fun r hr => ok_terms (ok r hr)
  have p : 0 < prodU l := by
    refine prodU_pos fun r hr => ?_
    obtain ⟨i, hi⟩ := List.getElem?_of_mem hr
    obtain ⟨y, _, R⟩ := prAt2 h3 hi
    exact R.pos
  have u := (prodU_le fun r hr => ⟨by have := t r hr; omega, (t r hr).2.2⟩).2
  have k8 := pow_k8 n8
  have e : (1000 : Int) ^ 8 < 2 ^ 100 := by decide
  refine ⟨t, p, by omega, ?_⟩
  have : (prodU l) < 2 ^ 100 := by omega
  omega
/-! ### families that meet, worth: the promises -/
def FamL (K : PySem.W.Frag) (C : Addr) (H : Hp) (v : V) (n : Nat) (f : Nat → Bool) (ls : List V) : Prop := ∃ a dx tl tm, v = .ref a ∧ H a = some (.ins C dx (famF n tl tm)) ∧ SqT K H tl ls ∧ Paired (fun m y => Lot K H m y) (minL n f) ls
/-- the first two lots that share no copy -/
def missR (a : Nat × V) (R : List (Nat × V)) : Option (V × V) := R.findSome? fun b => if metB a.1 b.1 = true then none else some (a.2, b.2)
def missP (P R : List (Nat × V)) : Option (V × V) := P.findSome? fun a => missR a R
def missL (fs gs : List Nat) (ls ls' : List V) : Option (V × V) := missP (fs.zip ls) (gs.zip ls')
def ErrM (C : Addr) (H : Hp) (E : XK) (a b : V) : Prop := ∀ d H', H d = none → Same H H' → H' d = some (.xd [("write", b), ("read", a)]) → E (.ref C) (some d) H'
def spMeeting (K : PySem.W.Frag) (C CM : Addr) : Sp := fun vs H Q E => ∃ x y n m f g ls ls', vs = [x, y] ∧ n ≤ 8 ∧ m ≤ 8 ∧ FamL K C H x n f ls ∧ FamL K C H y m g ls' ∧
  (missL (minL n f) (minL m g) ls ls' = none → ∀ H', Same H H' → Q .non H') ∧ (∀ a b, missL (minL n f) (minL m g) ls ls' = some (a, b) → ErrM CM H E a b)
def spMissed (K : PySem.W.Frag) (C : Addr) : Sp := fun vs H Q _ => ∃ x y n m f g ls ls', vs = [x, y] ∧ n ≤ 8 ∧ m ≤ 8 ∧ FamL K C H x n f ls ∧ FamL K C H y m g ls' ∧
  (missL (minL n f) (minL m g) ls ls' = none → ∀ H', Same H H' → Q .non H') ∧ (∀ a b, missL (minL n f) (minL m g) ls ls' = some (a, b) → ∀ p H', Same H H' → H' p = some (.tup [.str "no", a, b]) → Q (.ref p) H')
/-- worth -/
def spWorth (K : PySem.W.Frag) (C CR CF CB CU CM : Addr) : Sp := fun vs H Q E => ∃ c s x y l o n m f g ls ls', vs = [c, s, x, y] ∧ Chs K C CR H c l ∧ ShOf K CR H o s ∧ n ≤ 8 ∧ m ≤ 8 ∧ Fam K CF H x n f ∧ Fam K CF H y m g ∧ FamL K CF H x n f ls ∧ FamL K CF H y m g ls' ∧
  (shOk o = false → Err CB H E "share" s) ∧
  (∀ r, o = some r → shareOk r = true → (l.length ≠ n ∨ l.length ≠ m → ∀ H', Same H H' → E (.ref CU) none H') ∧
    (l.length = n → l.length = m → (∀ a b, missL (minL n f) (minL m g) ls ls' = some (a, b) → ErrM CM H E a b) ∧ (missL (minL n f) (minL m g) ls ls' = none → ∀ v H', Same H H' → RV CR H' v (r * upQ l f + (1 - r) * upQ l g) → Q v H')))
def gainQ (l : List (Int × Int)) (r : Qr) (m : Nat) : Qr := (1 - r) * aloneQ l m - r * aloneQ l (2 ^ l.length - 1 - m)
/-- gain -/
def spGain (K : PySem.W.Frag) (C CR CB : Addr) : Sp := fun vs H Q E => ∃ c s y l o xs, vs = [c, s, y] ∧ Chs K C CR H c l ∧ ShOf K CR H o s ∧ LotArg K H xs y ∧ (shOk o = false → Err CB H E "share" s) ∧
  (∀ r, o = some r → shareOk r = true → (∀ z, badOf l.length xs = some z → Err CB H E "copy" z) ∧ (badOf l.length xs = none → ∀ v H', Same H H' → RV CR H' v (gainQ l r (maskV xs)) → Q v H'))
/-! ### sizes of what chances tell -/
theorem q0n : (0 : Qr).num = 0 := rfl
theorem q0d : (0 : Qr).den = 1 := rfl
theorem q1n : (1 : Qr).num = 1 := rfl
theorem q1d : (1 : Qr).den = 1 := rfl
theorem sum_bound {b : Int} : ∀ {ns : List Int}, (∀ c ∈ ns, 0 ≤ c ∧ c ≤ b) → 0 ≤ ns.sum ∧ ns.sum ≤ ns.length * b
  | [], _ => by simp
  | c :: ns, h => by
    obtain ⟨h1, h2⟩ := sum_bound fun d hd => h d (List.mem_cons_of_mem _ hd)
    obtain ⟨c1, c2⟩ := h c List.mem_cons_self
    rw [List.sum_cons, List.length_cons, Int.natCast_add, Int.add_mul]
    omega
theorem Chs.count {K : PySem.W.Frag} {C CR : Addr} {H : Hp} {v : V} {l : List (Int × Int)} (h : Chs K C CR H v l) (m : Nat) : 0 ≤ (countsOf l).getD m 0 ∧ (countsOf l).getD m 0 ≤ 1000 ^ 8 := by
  have b := counts_bound h.terms.1
  have k8 := pow_k8 h.len.2.1
  rw [List.getD_eq_getElem?_getD]
  cases e : (countsOf l)[m]? with
  | none => exact ⟨by decide, by decide⟩
  | some c =>
    obtain ⟨b1, b2⟩ := b c (List.mem_of_getElem? e)
    exact ⟨b1, Int.le_trans b2 k8⟩
theorem Chs.aloneSz {K : PySem.W.Frag} {C CR : Addr} {H : Hp} {v : V} {l : List (Int × Int)} (h : Chs K C CR H v l) (m : Nat) : Szq 100 (aloneQ l m) := by
  obtain ⟨_, u0, _, ul⟩ := h.terms
  obtain ⟨c1, c2⟩ := h.count m
  have e : (1000 : Int) ^ 8 < 2 ^ 100 := by decide
  exact szq_div (by omega) (by have : (countsOf l).getD m 0 < 2 ^ 100 := by omega
                               omega) ul
theorem Chs.upSz {K : PySem.W.Frag} {C CR : Addr} {H : Hp} {v : V} {l : List (Int × Int)} (h : Chs K C CR H v l) (f : Nat → Bool) : Szq 100 (upQ l f) := by
  obtain ⟨_, u0, _, ul⟩ := h.terms
  have n8 := pow_le8 h.len.2.1
  obtain ⟨s1, s2⟩ := sum_bound (b := 1000 ^ 8) (ns := (List.range (2 ^ l.length)).filterMap fun m => if f m then some ((countsOf l).getD m 0) else none) fun c hc => by
    obtain ⟨m, _, e⟩ := List.mem_filterMap.mp hc
    cases z : f m with
    | false => rw [z] at e; cases e
    | true => rw [z] at e; cases e; exact h.count m
  have s0 : 0 ≤ upS l f := s1
  have s2 : upS l f ≤ _ * 1000 ^ 8 := s2
  have le : ((List.range (2 ^ l.length)).filterMap fun m => if f m then some ((countsOf l).getD m 0) else none).length ≤ 256 := by
    refine Nat.le_trans (List.length_filterMap_le _ _) ?_
    rw [List.length_range]
    exact n8
  have e : (256 : Int) * 1000 ^ 8 < 2 ^ 100 := by decide
  have s3 : upS l f < 2 ^ 100 := by
    refine Int.lt_of_le_of_lt (Int.le_trans s2 (Int.mul_le_mul_of_nonneg_right ?_ (by decide))) e
    omega
  exact szq_div (by omega) (by omega) ul
theorem badOf_lotV {n m : Nat} (h : m < 2 ^ n) (_ : n ≤ 8) : badOf n (lotV m) = none := badOf_ok fun _ hx => lotV_ok h hx
theorem z200 (i : Int) (h : i.natAbs < 2 ^ 200) : Szq 200 (i : Qr) := ⟨h, by show (1 : Nat) < 2 ^ 200; decide⟩
/-! ### what chances tell of a lot is a product; sums over lots -/
def facQ (r : Int × Int) (b : Bool) : Qr := if b = true then qd r.1 r.2 else 1 - qd r.1 r.2
def prodQ : List (Int × Int) → Nat → Qr
  | [], _ => 1
  | r :: l, m => facQ r (m.testBit 0) * prodQ l (m / 2)
def cA (l : List (Int × Int)) (cs : List Int) : List Int := l.foldl (fun cs r => cs.map (· * (r.2 - r.1)) ++ cs.map (· * r.1)) cs
theorem getD_map {f : Int → Int} {cs : List Int} {m : Nat} (h : m < cs.length) : (cs.map f).getD m 0 = f (cs.getD m 0) := by
  rw [List.getD_eq_getElem?_getD, List.getD_eq_getElem?_getD, List.getElem?_map, List.getElem?_eq_getElem h]
  rfl
theorem getD_left {cs ds : List Int} {m : Nat} (h : m < cs.length) : (cs ++ ds).getD m 0 = cs.getD m 0 := by
  rw [List.getD_eq_getElem?_getD, List.getD_eq_getElem?_getD, List.getElem?_append_left h]
theorem getD_right {cs ds : List Int} {m : Nat} : (cs ++ ds).getD (m + cs.length) 0 = ds.getD m 0 := by
  rw [List.getD_eq_getElem?_getD, List.getD_eq_getElem?_getD, List.getElem?_append_right (by omega), Nat.add_sub_cancel]
theorem cA_at : ∀ (l : List (Int × Int)) (cs : List Int) (m k : Nat), m < cs.length → k < 2 ^ l.length → (cA l cs).getD (m + cs.length * k) 0 = cs.getD m 0 * (cA l [1]).getD k 0
  | [], cs, m, k, hm, hk => by
    have hk : k = 0 := by
      rw [List.length_nil, Nat.pow_zero] at hk
      omega
    subst hk
    show cs.getD (m + cs.length * 0) 0 = cs.getD m 0 * ([1] : List Int).getD 0 0
    rw [Nat.mul_zero, Nat.add_zero]
    show _ = _ * 1
    rw [Int.mul_one]
  | r :: l, cs, m, k, hm, hk => by
    have hk2 : k / 2 < 2 ^ l.length := by
      rw [List.length_cons, Nat.pow_succ] at hk
      omega
    have step : ∀ (ds : List Int) (j : Nat), j < ds.length → (cA (r :: l) ds).getD (j + ds.length * k) 0 = (ds.getD j 0 * (if k % 2 = 1 then r.1 else r.2 - r.1)) * (cA l [1]).getD (k / 2) 0 := fun ds j hj => by
      have hl : (ds.map (· * (r.2 - r.1)) ++ ds.map (· * r.1)).length = 2 * ds.length := by
        rw [List.length_append, List.length_map, List.length_map]
        omega
      have ih := cA_at l (ds.map (· * (r.2 - r.1)) ++ ds.map (· * r.1)) (j + ds.length * (k % 2)) (k / 2) (by
        rw [hl]
        rcases Nat.mod_two_eq_zero_or_one k with e | e <;> rw [e] <;> omega) hk2
      rw [hl] at ih
      have ei : j + ds.length * (k % 2) + 2 * ds.length * (k / 2) = j + ds.length * k := by
        have : k = k % 2 + 2 * (k / 2) := by omega
        conv => rhs; rw [this]
        grind
      rw [ei] at ih
      show (cA l (ds.map (· * (r.2 - r.1)) ++ ds.map (· * r.1))).getD _ 0 = _
      rw [ih]
      congr 1
      rcases Nat.mod_two_eq_zero_or_one k with e | e
      · rw [e, if_neg (by omega), Nat.mul_zero, Nat.add_zero, getD_left (by rw [List.length_map]; exact hj), getD_map hj]
      · rw [e, if_pos rfl, Nat.mul_one]
        have := getD_right (cs := ds.map (· * (r.2 - r.1))) (ds := ds.map (· * r.1)) (m := j)
        rw [List.length_map] at this
        rw [this, getD_map hj]
    rw [step cs m hm]
    have s1 := step [1] 0 (by decide)
    rw [show 0 + ([1] : List Int).length * k = k by simp] at s1
    rw [s1]
    show _ = _ * ((1 : Int) * _ * _)
    grind
theorem prodU_cons (r : Int × Int) (l : List (Int × Int)) : prodU (r :: l) = r.2 * prodU l := by
  have g : ∀ (l : List (Int × Int)) (s t : Int), l.foldl (fun s r => s * r.2) (s * t) = s * l.foldl (fun s r => s * r.2) t := by
    intro l
    induction l with
    | nil => intro s t; rfl
    | cons a l ih => intro s t; rw [List.foldl_cons, List.foldl_cons, Int.mul_assoc]; exact ih s (t * a.2)
  have := g l r.2 1
  unfold prodU
  rw [List.foldl_cons, Int.one_mul]
  rw [Int.mul_one] at this
  exact this
theorem qd_mul (a b c d : Int) : qd a b * qd c d = qd (a * c) (b * d) := _root_.Rat.divInt_mul_divInt a c
/-- the chance of a lot is the product over the copies -/
theorem alone_prod : ∀ (l : List (Int × Int)) (m : Nat), (∀ r ∈ l, 0 < r.2) → m < 2 ^ l.length → aloneQ l m = prodQ l m
  | [], m, _, hm => by
    have hm : m = 0 := by
      rw [List.length_nil, Nat.pow_zero] at hm
      omega
    subst hm
    rfl
  | r :: l, m, h, hm => by
    have hm2 : m / 2 < 2 ^ l.length := by
      rw [List.length_cons, Nat.pow_succ] at hm
      omega
    have ih := alone_prod l (m / 2) (fun r hr => h r (List.mem_cons_of_mem _ hr)) hm2
    have r2 := h r List.mem_cons_self
    have e : (countsOf (r :: l)).getD m 0 = (if m.testBit 0 = true then r.1 else r.2 - r.1) * (countsOf l).getD (m / 2) 0 := by
      have z := cA_at l [1 * (r.2 - r.1), 1 * r.1] (m % 2) (m / 2) (by show m % 2 < 2; omega) hm2
      have ei : m % 2 + ([1 * (r.2 - r.1), 1 * r.1] : List Int).length * (m / 2) = m := by
        show m % 2 + 2 * (m / 2) = m
        omega
      rw [ei] at z
      show (cA l [1 * (r.2 - r.1), 1 * r.1]).getD m 0 = _ * (cA l [1]).getD (m / 2) 0
      rw [z]
      congr 1
      rw [Nat.testBit_zero]
      rcases Nat.mod_two_eq_zero_or_one m with e | e
      · rw [e]
        show 1 * (r.2 - r.1) = _
        rw [Int.one_mul]
        simp
      · rw [e]
        show 1 * r.1 = _
        rw [Int.one_mul]
        simp
    show qd _ _ = facQ r (m.testBit 0) * prodQ l (m / 2)
    rw [e, prodU_cons, ← qd_mul]
    show _ * aloneQ l (m / 2) = _
    rw [ih]
    congr 1
    unfold facQ
    cases m.testBit 0 with
    | true => rfl
    | false =>
      show qd (r.2 - r.1) r.2 = 1 - qd r.1 r.2
      have := _root_.Rat.divInt_sub_divInt 1 r.1 (d₁ := 1) (d₂ := r.2) (by decide) (by omega)
      rw [Int.one_mul, Int.mul_one] at this
      exact this.symm
/-- sums -/
def sumQ : Nat → (Nat → Qr) → Qr
  | 0, _ => 0
  | n + 1, f => sumQ n f + f n
theorem sumQ_congr {f g : Nat → Qr} : ∀ (n : Nat), (∀ m, m < n → f m = g m) → sumQ n f = sumQ n g
  | 0, _ => rfl
  | n + 1, h => by
    show sumQ n f + f n = sumQ n g + g n
    rw [sumQ_congr n fun m hm => h m (by omega), h n (by omega)]
theorem sumQ_two (f : Nat → Qr) : ∀ n : Nat, sumQ (2 * n) f = sumQ n fun k => f (2 * k) + f (2 * k + 1)
  | 0 => rfl
  | n + 1 => by
    have := sumQ_two f n
    show sumQ (2 * n + 1 + 1) f = sumQ n (fun k => f (2 * k) + f (2 * k + 1)) + (f (2 * n) + f (2 * n + 1))
    rw [← this]
    show sumQ (2 * n) f + f (2 * n) + f (2 * n + 1) = _
    grind
theorem sumQ_mul (c : Qr) (f : Nat → Qr) : ∀ n : Nat, sumQ n (fun m => c * f m) = c * sumQ n f
  | 0 => by show (0 : Qr) = c * 0; grind
  | n + 1 => by
    show sumQ n (fun m => c * f m) + c * f n = c * (sumQ n f + f n)
    rw [sumQ_mul c f n]
    grind
theorem sumQ_add (f g : Nat → Qr) : ∀ n : Nat, sumQ n (fun m => f m + g m) = sumQ n f + sumQ n g
  | 0 => by show (0 : Qr) = 0 + 0; grind
  | n + 1 => by
    show sumQ n (fun m => f m + g m) + (f n + g n) = sumQ n f + f n + (sumQ n g + g n)
    rw [sumQ_add f g n]
    grind
/-- the chances of all lots are together 1 -/
theorem prod_one : ∀ l : List (Int × Int), sumQ (2 ^ l.length) (prodQ l) = 1
  | [] => by show (0 : Qr) + 1 = 1; grind
  | r :: l => by
    rw [List.length_cons, Nat.pow_succ, Nat.mul_comm, sumQ_two]
    have e : ∀ k, prodQ (r :: l) (2 * k) + prodQ (r :: l) (2 * k + 1) = prodQ l k := fun k => by
      show facQ r ((2 * k).testBit 0) * prodQ l (2 * k / 2) + facQ r ((2 * k + 1).testBit 0) * prodQ l ((2 * k + 1) / 2) = _
      have b0 : (2 * k).testBit 0 = false := by rw [Nat.testBit_zero]; simp
      have b1 : (2 * k + 1).testBit 0 = true := by rw [Nat.testBit_zero]; simp
      rw [b0, b1, show 2 * k / 2 = k by omega, show (2 * k + 1) / 2 = k by omega]
      show (1 - qd r.1 r.2) * prodQ l k + qd r.1 r.2 * prodQ l k = _
      grind
    rw [sumQ_congr _ fun k _ => e k]
    exact prod_one l
theorem qd_add {a b c : Int} (h : c ≠ 0) : qd a c + qd b c = qd (a + b) c := by
  have := _root_.Rat.divInt_add_divInt a b (d₁ := c) (d₂ := c) h h
  unfold qd
  rw [this]
  refine (_root_.Rat.divInt_eq_divInt_iff (Int.mul_ne_zero h h) h).mpr ?_
  grind
theorem qd_zero (c : Int) : qd 0 c = 0 := _root_.Rat.zero_divInt c
/-- up is the sum over the lots of the family -/
theorem up_sum (l : List (Int × Int)) (f : Nat → Bool) (h : prodU l ≠ 0) : upQ l f = sumQ (2 ^ l.length) fun m => if f m = true then aloneQ l m else 0 := by
  have g : ∀ n : Nat, qd (((List.range n).filterMap fun m => if f m then some ((countsOf l).getD m 0) else none).sum) (prodU l) = sumQ n fun m => if f m = true then aloneQ l m else 0 := by
    intro n
    induction n with
    | zero => exact qd_zero _
    | succ n ih =>
      rw [List.range_succ, List.filterMap_append, List.sum_append, ← qd_add h, ih]
      show _ + _ = _ + _
      congr 1
      cases e : f n with
      | true =>
        simp [e]
        rfl
      | false =>
        simp [e]
        exact qd_zero _
  exact g _
/-! ### chances of lots: the mathematics of the whole laws -/
/-- over and under of a lot's chance -/
def ovP : List (Int × Int) → Nat → Int
  | [], _ => 1
  | r :: l, m => (if m.testBit 0 = true then r.1 else r.2 - r.1) * ovP l (m / 2)
/-- what comes of looking at one copy after the other -/
def walkQ : List (Int × Int) → Nat → (Nat → Bool) → Nat → Qr
  | [], _, f, m => if f m = true then 1 else 0
  | r :: l, i, f, m => qd r.1 r.2 * walkQ l (i + 1) f (m + 2 ^ i) + (1 - qd r.1 r.2) * walkQ l (i + 1) f m
theorem q_one_sub {O U : Int} (h : U ≠ 0) : 1 - qd O U = qd (U - O) U := by
  have := _root_.Rat.divInt_sub_divInt 1 O (d₁ := 1) (d₂ := U) (by decide) h
  rw [Int.one_mul, Int.mul_one] at this
  exact this
/-- sums of chances, one over another -/
def cSum (L : List (Int × Int)) (f : Nat → Bool) (g : Nat → Nat) : Nat → Int
  | 0 => 0
  | n + 1 => cSum L f g n + (if f n = true then (countsOf L).getD (g n) 0 else 0)
/-- a sum backwards -/
theorem sumQ_shift (f : Nat → Qr) : ∀ n : Nat, sumQ (n + 1) f = f 0 + sumQ n fun m => f (m + 1)
  | 0 => by show (0 : Qr) + f 0 = f 0 + 0; grind
  | n + 1 => by
    have := sumQ_shift f n
    show sumQ (n + 1) f + f (n + 1) = f 0 + (sumQ n (fun m => f (m + 1)) + f (n + 1))
    rw [this]
    grind
theorem sumQ_rev : ∀ (n : Nat) (f : Nat → Qr), sumQ n f = sumQ n fun m => f (n - 1 - m)
  | 0, _ => rfl
  | n + 1, f => by
    rw [sumQ_shift (fun m => f (n + 1 - 1 - m)) n]
    show sumQ n f + f n = f (n - 0) + sumQ n fun m => f (n - (m + 1))
    rw [sumQ_rev n f, Nat.sub_zero, sumQ_congr (f := fun m => f (n - 1 - m)) (g := fun m => f (n - (m + 1))) n fun m _ => by show f (n - 1 - m) = f (n - (m + 1)); congr 1; omega]
    grind
/-- up of the dual -/
theorem up_dual (L : List (Int × Int)) (f : Nat → Bool) (h : ∀ r ∈ L, 0 < r.2) : upQ L (dualB L.length f) = 1 - sumQ (2 ^ L.length) fun m => if f m = true then aloneQ L (2 ^ L.length - 1 - m) else 0 := by
  have hp : prodU L ≠ 0 := by have := prodU_pos h; omega
  rw [up_sum L _ hp, sumQ_rev (2 ^ L.length) fun m => if f m = true then aloneQ L (2 ^ L.length - 1 - m) else 0]
  have one : sumQ (2 ^ L.length) (aloneQ L) = 1 := by
    rw [sumQ_congr _ fun m hm => alone_prod L m h hm]
    exact prod_one L
  have e : sumQ (2 ^ L.length) (fun m => if dualB L.length f m = true then aloneQ L m else 0) + sumQ (2 ^ L.length) (fun m => if f (2 ^ L.length - 1 - m) = true then aloneQ L (2 ^ L.length - 1 - (2 ^ L.length - 1 - m)) else 0) = sumQ (2 ^ L.length) (aloneQ L) := by
    rw [← sumQ_add]
    refine sumQ_congr _ fun m hm => ?_
    have eo : 2 ^ L.length - 1 - (2 ^ L.length - 1 - m) = m := by omega
    rw [eo]
    unfold dualB oth
    cases f (2 ^ L.length - 1 - m) <;> simp <;> grind
  rw [one] at e
  grind
/-! ### copies that decide: the promise -/
def decB (f : Nat → Bool) (c m : Nat) : Bool := f (m ||| 2 ^ c) && !f (cl m c)
def spDecides (K : PySem.W.Frag) (C CR CF CB CU : Addr) : Sp := fun vs H Q E => ∃ x y z l n f, vs = [x, y, z] ∧ Chs K C CR H x l ∧ Fam K CF H y n f ∧ scalV z = true ∧ (l.length ≠ n → E (.ref CU) none H) ∧
  (l.length = n → (copyOk n z = false → Err CB H E "copy" z) ∧ (∀ c : Nat, z = .int c → c < n → ∀ r H', Same H H' → RV CR H' r (qd (cSum l (decB f c) (fun m => m) (2 ^ n)) (prodU l)) → Q r H'))
/-! ### copies that decide: the mathematics -/
def lowB (f : Nat → Bool) (c m : Nat) : Bool := !m.testBit c && (f (m + 2 ^ c) && !f m)
section
variable {n c m : Nat} {f : Nat → Bool}
end
/-- the chance that a copy decides -/
def decQ (l : List (Int × Int)) (f : Nat → Bool) (c : Nat) : Qr := qd (cSum l (decB f c) (fun m => m) (2 ^ l.length)) (prodU l)
/-- the product without one copy -/
def restQ : List (Int × Int) → Nat → Nat → Qr
  | [], _, _ => 1
  | _ :: l, 0, m => prodQ l (m / 2)
  | r :: l, c + 1, m => facQ r (m.testBit 0) * restQ l c (m / 2)
section
variable {l : List (Int × Int)} {f : Nat → Bool} {c : Nat}
end
/-! #### a copy more -/
section
variable {l : List (Int × Int)} {r : Int × Int} {F G : Nat → Bool}
end
section
variable {l : List (Int × Int)} {r : Int × Int} {f g : Nat → Bool} {c : Nat}
end
/-! #### positive chances -/
theorem qd_mul_den {O U : Int} (h : U ≠ 0) : qd O U * (U : Qr) = (O : Qr) := by
  unfold qd
  rw [_root_.Rat.divInt_eq_div]
  refine _root_.Rat.div_mul_cancel ?_
  intro z
  exact h (by exact_mod_cast z)
theorem qd_bounds {r : Int × Int} (h : chanceOk r.1 r.2 = true) : 0 < qd r.1 r.2 ∧ 0 < 1 - qd r.1 r.2 := by
  unfold chanceOk at h
  simp only [Bool.and_eq_true, decide_eq_true_eq] at h
  obtain ⟨h1, h2, h3⟩ := h
  have e := qd_mul_den (O := r.1) (U := r.2) (by omega)
  have u : (0 : Qr) < (r.2 : Qr) := _root_.Rat.intCast_pos.mpr (by omega)
  have p : (0 : Qr) < (r.1 : Qr) := _root_.Rat.intCast_pos.mpr (by omega)
  have w : (r.1 : Qr) < (r.2 : Qr) := _root_.Rat.intCast_lt_intCast.mpr h3
  refine ⟨(_root_.Rat.mul_pos_iff_of_pos_right u).mp (by rw [e]; exact p), (_root_.Rat.mul_pos_iff_of_pos_right u).mp ?_⟩
  have : (1 - qd r.1 r.2) * (r.2 : Qr) = r.2 - qd r.1 r.2 * r.2 := by grind
  rw [this, e]
  grind
theorem prodQ_pos : ∀ (l : List (Int × Int)) (m : Nat), (∀ r ∈ l, chanceOk r.1 r.2 = true) → 0 < prodQ l m
  | [], _, _ => by show (0 : Qr) < 1; decide
  | r :: l, m, h => by
    obtain ⟨h1, h2⟩ := qd_bounds (h r List.mem_cons_self)
    refine _root_.Rat.mul_pos ?_ (prodQ_pos l (m / 2) fun x hx => h x (List.mem_cons_of_mem _ hx))
    unfold facQ
    split
    · exact h1
    · exact h2
section
variable {l : List (Int × Int)} {f : Nat → Bool} {c : Nat}
end
/-! ### sum of instances: the first by the reflected method, the others by the own one -/
section
variable {X : Cx} {k : Nat} {f C : Addr} {fd : FuncData} {ps : List Str} {sp : Sp} {pins : List (Addr × Obj)} {σ : L2.St} {H : Hp} {s : Shared}
/-- a def that never raises, run at whatever depth -/
theorem run_deep0 {A : Around} {Q : VK} {E : XK} {us : List Value} {vs : List V} (F : FnOk X.prog X.w X.K X.mg X.base CX0 k f fd ps sp) (sb : L2.Sub X k A) (hb : Binds X.K fd ps [])
    (I : Inv X pins σ H s) (r : Vals vs us) (h : sp vs H Q E) : wpAny (model X.prog X.w) A (call (.ref f) us) (EP X pins σ Q) (fun _ _ => False) s := by
  have env1 : Env0 X.prog X.w X.K X.mg X.base A X.stack s H := by
    have z := I.env0
    exact ⟨by rw [sb.fr]; exact z.frames, z.mod, z.bs, z.bsz, z.funs, z.frf, z.hok, z.bare⟩
  have hl : (us ++ []).length = ps.length := by rw [List.append_nil, ← r.length]; exact F.len _ _ _ _ h
  have hbind := hb s us I.kIn hl
  rw [List.append_nil] at hbind
  refine wpAny_call (codeAny_mono (F.run A X.stack s H ⟨us, []⟩ us vs Q E sb.room env1 hbind r h) fun r s' hq => ?_)
  cases r with
  | error e => exact hq
  | ok fl =>
    cases fl with
    | ret u => exact I.after hq
    | next => exact False.elim hq
    | brk => exact False.elim hq
    | cont => exact False.elim hq
/-- what a sum asks of the class -/
structure SumC (X : Cx) (n : Nat) (C : Addr) (spR spA : Sp) : Prop where
  r : ∀ (A : Around) (pins : List (Addr × Obj)) (σ : L2.St) (H : Hp) (s : Shared) (Q : VK) (E : XK) (x : V) (u : Value) (t : Tok), L2.Sub X n A → Inv X pins σ H s → RelV x u → IsC C H x → spR [x, .int 0] H Q E →
    wpAny (model X.prog X.w) A (binaryOp .Add (.int 0 t) u) (EP X pins σ Q) (fun _ _ => False) s
  a : ∀ (A : Around) (pins : List (Addr × Obj)) (σ : L2.St) (H : Hp) (s : Shared) (Q : VK) (E : XK) (x y : V) (u v : Value), L2.Sub X n A → Inv X pins σ H s → RelV x u → RelV y v → IsC C H x → IsC C H y → spA [x, y] H Q E →
    wpAny (model X.prog X.w) A (binaryOp .Add u v) (EP X pins σ Q) (fun _ _ => False) s
theorem sumC {k2 n : Nat} (l1 : k ≤ n) (l2 : k2 ≤ n) {f2 : Addr} {fd2 : FuncData} {ps2 : List Str} {sp2 : Sp} (T : OpC X.K C) (hs : PySem.W.findIn X.K (.ref C) (PySem.dunder Operator.Add.info.2) = some (some (.ref f))) (hf : PySem.W.isFn X.K (.ref f) = true)
    (hs2 : PySem.W.findIn X.K (.ref C) (dunderR Operator.Add.info.2) = some (some (.ref f2))) (hf2 : PySem.W.isFn X.K (.ref f2) = true)
    (F : FnOk X.prog X.w X.K X.mg X.base CX0 k f fd ps sp) (hb : Binds X.K fd ps []) (F2 : FnOk X.prog X.w X.K X.mg X.base CX0 k2 f2 fd2 ps2 sp2) (hb2 : Binds X.K fd2 ps2 []) : SumC X n C sp2 sp where
  r := by
    intro A pins σ H s Q E x u t sb I rx hx q
    obtain ⟨a, dx, fs, rfl, ha⟩ := hx
    cases (show u = Value.ref a from rx)
    obtain ⟨oa, J⟩ := inst_of I ha
    obtain ⟨cd, rest, hcd, hm⟩ := T.cls
    refine refl_bin I.kIn J PySem.F.slot_int_add PySem.F.entry_int_add (PySem.F.args_int_add_2 _ _) (slotargs_add 0 t a) (fun v z => nomatch z) PySem.F.fills_int_add hcd hm hs T.noInt hs2 hf2 (wpAny_mono (run_deep0 (vs := [.ref a, .int 0]) (F2.mono l2) sb hb2 I (.cons rfl (.cons ⟨t, rfl⟩ .nil)) q) (fun w s' z => ?_) fun _ _ x => x)
    obtain ⟨z', H', I', rz, qz⟩ := z
    exact back_of rz ⟨z', H', I', rz, qz⟩
  a := by
    intro A pins σ H s Q E x y u v sb I rx ry hx hy q
    obtain ⟨a, dx, fs, rfl, ha⟩ := hx
    obtain ⟨b, dy, gs, rfl, hb'⟩ := hy
    cases (show u = Value.ref a from rx)
    cases (show v = Value.ref b from ry)
    obtain ⟨oa, J⟩ := inst_of I ha
    obtain ⟨ob, J'⟩ := inst_of I hb'
    obtain ⟨m, hF⟩ := I.fr
    refine PySem.W.binop_K hF I.ok.mod.kin J J'.type T.first hs hf (wpAny_mono (run_deep0 (vs := [.ref a, .ref b]) (F.mono l1) sb hb I (.cons rfl (.cons rfl .nil)) q) (fun w s' z => ?_) fun _ _ x => x)
    obtain ⟨z', H', I', rz, qz⟩ := z
    exact back_of rz ⟨z', H', I', rz, qz⟩
/-- the running total -/
def sumO (v : Value) (c : Nat) : Obj := { cls := .type "list", dict := none, data := .seq #[v] c, slots := #[] }
theorem sum_loopO {n : Nat} {A : Around} {R : Result → Shared → Prop} {a I S : Addr} {xs : List V} {Acc : Nat → V → Hp → Prop} {spR spA : Sp} {E : XK} (ad : SumC X n C spR spA) (sb : L2.Sub X n A.in1) (hh : A.in1.handled = none) (ne : I ≠ S)
    (hl : ∀ i tot H, Acc i tot H → SqL X.K H a xs) (hr : ∀ x H, xs[0]? = some x → Acc 0 (.int 0) H → IsC C H x ∧ spR [x, .int 0] H (Acc 1) E)
    (ha : ∀ i tot x H, 0 < i → xs[i]? = some x → Acc i tot H → IsC C H tot ∧ IsC C H x ∧ spA [tot, x] H (Acc (i + 1)) E) (href : ∀ i tot H, 0 < i → Acc i tot H → ∃ b, tot = .ref b) (hend : ∀ v s', EP X pins σ (Acc xs.length) v s' → R (.ok (.ret v)) s') :
    ∀ (m i : Nat) (s : Shared) (H : Hp) (tot : V) (v : Value) (c : Nat) (st : Int), ((i = 0 ∧ st = 0 ∧ tot = .int 0) ∨ (0 < i ∧ st = 2 ∧ ∃ b, tot = .ref b)) → xs.length - i = m → i ≤ xs.length → Inv X pins σ H s → FpOk X pins H I → FpOk X pins H S → s.heap.IsListIter I a i → s.heap.get? S = some (sumO v c) → RelV tot v → Acc i tot H →
    codeAny (model X.prog X.w) A (.builtin "sum.loop" ⟨[.ref I, .ref S, rawInt st, rawInt 0], []⟩) R s := by
  intro m
  induction m with
  | zero =>
    intro i s H tot v c st kind hm hi Iv fI fS it hS rt acc
    have ei : i = xs.length := by omega
    subst ei
    refine codeAny_builtin F.entry_sum_loop ?_
    rw [Around.under_plainId F.plain_sum_loop _]
    show wpAny _ A.in1 (seqItems? (.ref S) >>= _) _ _ s
    refine wpAny_bind (wpAny_seqItems hS rfl ?_)
    show wpAny _ A.in1 (tryCatch (pyNext (.ref I)) _ >>= _) _ _ s
    obtain ⟨its, rv, p, hz⟩ := Iv.list (hl _ _ _ acc)
    have hlen := rv.length
    obtain ⟨f0, f1, f2, f3, f4, f5⟩ := fI
    refine wpAny_bind (wpAny_tryCatch (wpAny_pyNext_list_end hh it p.isList (by simp; omega) fun h' eb => ?_))
    have I1 : Inv X pins σ H { s with heap := h' } := Iv.turned (t' := s.toks) (fun b o hb e => eb b o hb e) f0 f1 f3 f4 f5
    have fin := hend v _ ⟨tot, H, I1, rt, acc⟩
    rcases kind with ⟨_, rfl, rfl⟩ | ⟨_, rfl, b, rfl⟩
    · obtain ⟨t, rfl⟩ := (show ∃ t, v = Value.int 0 t from rt)
      exact wpAny_pure fin
    · cases (show v = Value.ref b from rt)
      exact wpAny_pure fin
  | succ m ih =>
    intro i s H tot v c st kind hm hi Iv fI fS it hS rt acc
    have hlt : i < xs.length := by omega
    refine codeAny_builtin F.entry_sum_loop ?_
    rw [Around.under_plainId F.plain_sum_loop _]
    show wpAny _ A.in1 (seqItems? (.ref S) >>= _) _ _ s
    refine wpAny_bind (wpAny_seqItems hS rfl ?_)
    show wpAny _ A.in1 (tryCatch (pyNext (.ref I)) _ >>= _) _ _ s
    obtain ⟨its, rv, p, hz⟩ := Iv.list (hl _ _ _ acc)
    obtain ⟨u, hu, ru⟩ := rv.get (List.getElem?_eq_getElem hlt)
    obtain ⟨f0, f1, f2, f3, f4, f5⟩ := id fI
    refine wpAny_bind (wpAny_tryCatch (wpAny_pyNext_list_item it p.isList (x := u) (by simpa using hu) fun h' it' hk => ?_))
    have I1 : Inv X pins σ H { s with heap := h' } := Iv.turned (t' := s.toks) (fun b o hb e => (hk.2 b hb).trans e) f0 f1 f3 f4 f5
    have hS1 : h'.get? S = some (sumO v c) := (hk.2 S ne.symm).trans hS
    have obj : ∀ b ∈ [I, S], ∃ o, h'.get? b = some o ∧ ∀ w, o.data ≠ .cell w := fun b hb => by
      simp only [List.mem_cons, List.not_mem_nil, or_false] at hb
      rcases hb with rfl | rfl
      · obtain ⟨o, e, c1, d⟩ := it'
        exact ⟨o, e, fun w z => by rw [d] at z; cases z⟩
      · exact ⟨_, hS1, fun w z => by
          have z' : Data.seq _ _ = Data.cell w := z
          cases z'⟩
    have fp : ∀ b ∈ [I, S], FpOk X pins H b := fun b hb => by
      simp only [List.mem_cons, List.not_mem_nil, or_false] at hb
      rcases hb with rfl | rfl
      · exact fI
      · exact fS
    have I2 := I1.pinned fp obj
    have go : ∀ (y : Value) (s2 : Shared), EP X (pins ++ pinsAt [I, S] h') σ (Acc (i + 1)) y s2 →
        wpAny (model X.prog X.w) A.in1 (do updateSeq S fun _ => #[y]; letGo [v, u]; (updateSeq S (fun _ => #[y]) >>= fun _ => again (.builtin "sum.loop" ⟨[.ref I, .ref S, rawInt 2, rawInt 0], []⟩)))
          (fun fin s'' => match fin with | .done f => R (.ok f) s'' | .again c' => c'.quiet = true ∧ codeAny (model X.prog X.w) A c' R s'') (fun e s'' => R (.error e) s'') s2 := fun y s2 hz => by
      obtain ⟨z, H2, I3, rz, acc2⟩ := hz
      obtain ⟨b, rfl⟩ := href _ _ _ (Nat.succ_pos i) acc2
      have pin : ∀ b ∈ [I, S], ∀ o, h'.get? b = some o → s2.heap.get? b = some o ∧ H2 b = none := fun b hb o e => by
        have := I3.pin (b, o) (List.mem_append_right _ (List.mem_append_right _ (mem_pinsAt hb e)))
        exact ⟨this.1, this.2.1⟩
      have hS2 := (pin S (by simp) _ hS1)
      have it2 : s2.heap.IsListIter I a (i + 1) := it'.at fun o e => (pin I (by simp) o e).1
      have hI2 : H2 I = none := by
        obtain ⟨o, e, _⟩ := it'
        exact (pin I (by simp) o e).2
      have I4 : Inv X pins σ H2 s2 := I3.unpinned
      refine wpAny_bind (wpAny_updateSeq hS2.1 rfl ?_)
      have hS3 := Heap.get?_update_self (Obj.mapSeq fun _ => #[y]) hS2.1 rfl
      refine wpAny_bind (wpAny_letGo ?_)
      have keep : ∀ (h : Heap) (g : Obj → Obj) (b : Addr) (o : Obj), b ≠ S → h.get? b = some o → (h.update S g).get? b = some o := fun h g b o hb e => (Heap.get?_update_other _ _ (Ne.symm hb)).trans e
      refine wpAny_bind (wpAny_updateSeq hS3 rfl (wpAny_pure ⟨plainId_quiet F.plain_sum_loop _, ?_⟩))
      have hS4 := Heap.get?_update_self (Obj.mapSeq fun _ => #[y]) hS3 rfl
      obtain ⟨_, g1, g2, g3, g4, g5⟩ := id fS
      have I5 : Inv X pins σ H2 { s2 with heap := (s2.heap.update S (Obj.mapSeq fun _ => #[y])).update S (Obj.mapSeq fun _ => #[y]) } := I4.turned (t' := s2.toks) (fun b o hb e => keep _ _ b o hb (keep _ _ b o hb e)) hS2.2 g1 g3 g4 g5
      exact ih (i + 1) _ H2 _ y _ 2 (.inr ⟨by omega, rfl, b, rfl⟩) (by omega) hlt I5 ⟨hI2, fI.2⟩ ⟨hS2.2, fS.2⟩ (it2.at fun o e => keep _ _ I o ne (keep _ _ I o ne e)) hS4 rz acc2
    rcases kind with ⟨rfl, rfl, rfl⟩ | ⟨h0, rfl, b, rfl⟩
    · obtain ⟨hx, q⟩ := hr _ H (List.getElem?_eq_getElem hlt) acc
      obtain ⟨t, rfl⟩ := (show ∃ t, v = Value.int 0 t from rt)
      obtain ⟨xa, dx, fs, ex, hxa⟩ := id hx
      rw [ex] at ru
      cases (show u = Value.ref xa from ru)
      refine wpAny_bind (wpAny_rule ?_)
      refine wpAny_bind (wpAny_attempt (wpAny_holding (wpAny_mono (ad.r A.in1 _ σ H _ (Acc 1) E _ _ t sb I2 (by rw [ex]; rfl) hx q) (fun y s2 hz => ?_) fun _ _ z => z.elim)))
      obtain ⟨z, H2, I3, rz, acc2⟩ := id hz
      obtain ⟨b2, rfl⟩ := href _ _ _ (Nat.succ_pos 0) acc2
      cases (show y = Value.ref b2 from rz)
      exact go _ s2 hz
    · obtain ⟨ht, hx, q⟩ := ha i _ _ H h0 (List.getElem?_eq_getElem hlt) acc
      cases (show v = Value.ref b from rt)
      refine wpAny_bind (wpAny_attempt (wpAny_holding (wpAny_mono (ad.a A.in1 _ σ H _ (Acc (i + 1)) E (.ref b) _ (.ref b) u sb I2 rfl ru ht hx q) (fun y s2 hz => ?_) fun _ _ z => z.elim)))
      exact go y s2 hz
/-- sum of a list of instances -/
def rSumO (K : PySem.W.Frag) (C : Addr) (spR spA : Sp) : List V → Hp → VK → Prop := fun vs H Q => ∃ (a : Addr) (xs : List V) (Acc : Nat → V → Hp → Prop) (E : XK), vs = [V.ref a] ∧ (∀ i tot H, Acc i tot H → SqL K H a xs) ∧ Acc 0 (.int 0) H ∧
  (∀ x H, xs[0]? = some x → Acc 0 (.int 0) H → IsC C H x ∧ spR [x, .int 0] H (Acc 1) E) ∧ (∀ i tot x H, 0 < i → xs[i]? = some x → Acc i tot H → IsC C H tot ∧ IsC C H x ∧ spA [tot, x] H (Acc (i + 1)) E) ∧ (∀ i tot H, 0 < i → Acc i tot H → ∃ b, tot = .ref b) ∧ ∀ z H', Acc xs.length z H' → Q z H'
theorem cr_sumO {n : Nat} {spR spA : Sp} (hc : X.calm = true) (ad : SumC X n C spR spA) (hr : Room (n + 2) X.A) : CallR X (.builtin "sum") (rSumO X.K C spR spA) := by
  intro pins s σ H vs us Q Iv r h
  obtain ⟨a, xs, Acc, E, rfl, hl, h0, h1, h2, h3, q⟩ := h
  obtain ⟨its, rv, p, hz⟩ := Iv.list (hl _ _ _ h0)
  rw [Vals.ref1 r]
  refine call_function_tree F.kind_sum F.plain_sum F.entry_sum (F.args_sum1 _) ?_
  unfold Builtin.«sum»
  simp only [List.length_cons, List.length_nil]
  rw [if_neg (by decide)]
  refine wpAny_bind (wpAny_of_eq (show Builtin.Builtins.bindParams "sum" ["start"] 0 { } = pure [none] from rfl) ?_)
  refine wpAny_bind (wpAny_pyIter_list p.isList ?_)
  refine wpAny_bind (wpAny_mkInt ?_)
  refine wpAny_bind (wpAny_pure ?_)
  simp only [List.forIn_cons, List.forIn_nil]
  refine wpAny_bind (wpAny_bind (wpAny_bind (wpAny_isInstance (T := "int") (b := false) (typeIs_int _ _ _) PySem.sub_int_str ?_)))
  simp only [Bool.false_eq_true, if_false]
  refine wpAny_pure (wpAny_bind (wpAny_bind (wpAny_isInstance (T := "int") (b := false) (typeIs_int _ _ _) PySem.sub_int_bytes ?_)))
  simp only [Bool.false_eq_true, if_false]
  refine wpAny_pure (wpAny_bind (wpAny_bind (wpAny_isInstance (T := "int") (b := false) (typeIs_int _ _ _) PySem.sub_int_bytearray ?_)))
  simp only [Bool.false_eq_true, if_false]
  refine wpAny_pure (wpAny_pure ?_)
  refine wpAny_bind (wpAny_newObj_type ?_)
  have n1 : (s.heap.push { cls := .type "list_iterator", data := .fields #[.ref a, .int 0 0] }).objs.size = s.heap.objs.size + 1 := Heap.size_push ..
  have hI : ∀ {b : Addr}, s.heap.objs.size ≤ b → FpOk X pins H b := fun {b} hb => Iv.fpOk hb (Iv.hok.fresh hb)
  have ne : s.heap.objs.size ≠ (s.heap.push { cls := .type "list_iterator", data := .fields #[.ref a, .int 0 0] }).objs.size := by rw [n1]; omega
  refine wpAny_pure ⟨plainId_quiet F.plain_sum_loop _, sum_loopO (A := X.A) (σ := σ) (pins := pins) (E := E) ad ⟨(hr.mono (Nat.le_succ _)).in1, rfl⟩ (Iv.ok.hd hc) ne hl h1 h2 h3 (fun v s' hz => ?_) xs.length 0 _ H (.int 0) _ _ 0 (.inl ⟨rfl, rfl, rfl⟩) rfl (Nat.zero_le _) ?_ (hI (Nat.le_refl _)) (hI (by rw [n1]; omega)) ?_ (Heap.get?_push_size _ rfl) ⟨_, rfl⟩ h0⟩
  · obtain ⟨z, H', I', rz, qz⟩ := hz
    exact ⟨z, H', I', rz, q z H' qz⟩
  · exact Iv.kept (t' := s.toks + 1) fun b o e => Heap.get?_push_of_some _ (Heap.get?_push_of_some _ e)
  · exact ⟨_, Heap.get?_push_of_some _ (Heap.get?_push_size _ rfl), rfl, rfl⟩
end
/-! ### gains: the mathematics -/
/-- the lots that are neither empty nor whole -/
def midL (n : Nat) : List Nat := ((List.range (2 ^ n)).drop 1).take (2 ^ n - 2)
theorem midL_at {n i : Nat} (h : i < 2 ^ n - 2) : (midL n)[i]? = some (i + 1) := by
  unfold midL
  rw [List.getElem?_take_of_lt h, List.getElem?_drop, List.getElem?_range (by omega), Nat.add_comm]
theorem midL_len (n : Nat) : (midL n).length = 2 ^ n - 2 := by
  unfold midL
  rw [List.length_take, List.length_drop, List.length_range]
  omega
theorem midL_iff {n m : Nat} : m ∈ midL n ↔ 0 < m ∧ m < 2 ^ n - 1 := by
  constructor
  · intro h
    obtain ⟨i, hi⟩ := List.getElem?_of_mem h
    have l := (List.getElem?_eq_some_iff.mp hi).1
    rw [midL_len] at l
    rw [midL_at l] at hi
    injection hi with hi
    omega
  · intro h
    exact List.mem_of_getElem? (i := m - 1) (by rw [midL_at (by omega)]; congr 1; omega)
theorem q_half {r : Int × Int} (h : chanceOk r.1 r.2 = true) : 1 - qd r.1 r.2 ≤ qd r.1 r.2 := by
  unfold chanceOk at h
  simp only [Bool.and_eq_true, decide_eq_true_eq] at h
  obtain ⟨h1, h2, h3⟩ := h
  have e := qd_mul_den (O := r.1) (U := r.2) (by omega)
  have u : (0 : Qr) < (r.2 : Qr) := _root_.Rat.intCast_pos.mpr (by omega)
  have w : (r.2 : Qr) ≤ 2 * (r.1 : Qr) := by
    have := _root_.Rat.intCast_le_intCast.mpr h2
    rw [_root_.Rat.intCast_mul] at this
    exact this
  have z : 0 ≤ (2 * qd r.1 r.2 - 1) * (r.2 : Qr) := by
    have : (2 * qd r.1 r.2 - 1) * (r.2 : Qr) = 2 * (qd r.1 r.2 * r.2) - r.2 := by grind
    rw [this, e]
    grind
  have : 0 ≤ 2 * qd r.1 r.2 - 1 := by
    rcases _root_.Rat.le_total (a := 0) (b := 2 * qd r.1 r.2 - 1) with y | y
    · exact y
    · by_cases y0 : 2 * qd r.1 r.2 - 1 = 0
      · rw [y0]
        decide
      · exfalso
        have yn : 0 < 1 - 2 * qd r.1 r.2 := by grind
        have := _root_.Rat.mul_pos yn u
        grind
  grind
theorem Sub.half {k m : Nat} (h : Sub k m) : Sub (k / 2) (m / 2) := fun i hi => by
  rw [← Nat.testBit_succ] at hi ⊢
  exact h _ hi
theorem q_mul_le {a b c d : Qr} (h1 : a ≤ b) (h2 : c ≤ d) (a0 : 0 < b) (c0 : 0 < c) : a * c ≤ b * d := by
  have x1 := _root_.Rat.mul_le_mul_of_nonneg_right h1 (c := c) (by grind)
  have x2 := _root_.Rat.mul_le_mul_of_nonneg_left h2 (c := b) (by grind)
  grind
/-- a greater lot has a greater chance -/
theorem prodQ_mono : ∀ (l : List (Int × Int)) (k m : Nat), (∀ r ∈ l, chanceOk r.1 r.2 = true) → Sub k m → prodQ l k ≤ prodQ l m
  | [], _, _, _, _ => by show (1 : Qr) ≤ 1; decide
  | r :: l, k, m, h, s => by
    have ih := prodQ_mono l (k / 2) (m / 2) (fun x hx => h x (List.mem_cons_of_mem _ hx)) s.half
    obtain ⟨p1, p2⟩ := qd_bounds (h r List.mem_cons_self)
    have hh := q_half (h r List.mem_cons_self)
    have pos := prodQ_pos l (k / 2) fun x hx => h x (List.mem_cons_of_mem _ hx)
    show facQ r (k.testBit 0) * prodQ l (k / 2) ≤ facQ r (m.testBit 0) * prodQ l (m / 2)
    have f0 : 0 < facQ r (m.testBit 0) := by
      unfold facQ
      split
      · exact p1
      · exact p2
    refine q_mul_le ?_ ih f0 pos
    have z := s 0
    unfold facQ
    cases e1 : k.testBit 0 with
    | true =>
      rw [z e1, if_pos rfl]
      grind
    | false =>
      cases m.testBit 0 with
      | true => exact hh
      | false => grind
section
variable {l : List (Int × Int)} {r : Qr} {f g : Nat → Bool}
theorem alone_mono (h : ∀ x ∈ l, 0 < x.2) (ok : ∀ x ∈ l, chanceOk x.1 x.2 = true) {k m : Nat} (s : Sub k m) (hm : m < 2 ^ l.length) : aloneQ l k ≤ aloneQ l m := by
  rw [alone_prod l k h (Nat.lt_of_le_of_lt s.le hm), alone_prod l m h hm]
  exact prodQ_mono l k m ok s
theorem gain_mono (h : ∀ x ∈ l, 0 < x.2) (ok : ∀ x ∈ l, chanceOk x.1 x.2 = true) (r0 : 0 ≤ r) (r1 : r ≤ 1) {k m : Nat} (s : Sub k m) (hm : m < 2 ^ l.length) : gainQ l r k ≤ gainQ l r m := by
  have hk := Nat.lt_of_le_of_lt s.le hm
  have a1 := alone_mono h ok s hm
  have a2 : aloneQ l (2 ^ l.length - 1 - m) ≤ aloneQ l (2 ^ l.length - 1 - k) := alone_mono h ok (oth_sub hk hm s) (by omega)
  have x1 := _root_.Rat.mul_le_mul_of_nonneg_left a1 (c := 1 - r) (by grind)
  have x2 := _root_.Rat.mul_le_mul_of_nonneg_left a2 (c := r) r0
  unfold gainQ
  grind
/-- the lots of positive gain (b: of no loss), and the whole one -/
def upper (l : List (Int × Int)) (r : Qr) (b : Bool) (m : Nat) : Bool := if b = true then decide (0 ≤ gainQ l r m) else decide (0 < gainQ l r m)
def bestL (l : List (Int × Int)) (r : Qr) (b : Bool) : List Nat := (2 ^ l.length - 1) :: (midL l.length).filter (upper l r b)
theorem bestL_mem {b : Bool} (n1 : 1 ≤ l.length) : ∀ m ∈ bestL l r b, m < 2 ^ l.length ∧ m ≠ 0 := fun m hm => by
  have p : 2 ≤ 2 ^ l.length := Nat.pow_le_pow_right (n := 2) (i := 1) (by decide) n1
  rcases List.mem_cons.mp hm with rfl | z
  · omega
  · have := midL_iff.mp (List.mem_filter.mp z).1
    omega
theorem fm_best {b : Bool} (n1 : 1 ≤ l.length) (n8 : l.length ≤ 8) : Fm l.length (upB (bestL l r b)) := fm_upB n1 n8 (by unfold bestL; simp) (bestL_mem n1)
theorem best_iff {b : Bool} (h : ∀ x ∈ l, 0 < x.2) (ok : ∀ x ∈ l, chanceOk x.1 x.2 = true) (r0 : 0 ≤ r) (r1 : r ≤ 1) (n1 : 1 ≤ l.length) {m : Nat} (m0 : 0 < m) (hm : m < 2 ^ l.length - 1) : upB (bestL l r b) m = upper l r b m := by
  rw [Bool.eq_iff_iff, upB_iff]
  constructor
  · rintro ⟨k, hk, s⟩
    have sl := s.le
    rcases List.mem_cons.mp hk with rfl | z
    · omega
    · have u := (List.mem_filter.mp z).2
      have gm := gain_mono h ok r0 r1 s (by omega)
      unfold upper at u ⊢
      cases b with
      | true =>
        rw [if_pos rfl] at u ⊢
        have := of_decide_eq_true u
        exact decide_eq_true (by grind)
      | false =>
        rw [if_neg (by decide)] at u ⊢
        have := of_decide_eq_true u
        exact decide_eq_true (by grind)
  · intro u
    exact ⟨m, List.mem_cons_of_mem _ (List.mem_filter.mpr ⟨midL_iff.mpr ⟨m0, hm⟩, u⟩), Sub.refl m⟩
/-- what reads and writes are worth is the share and the gains -/
theorem worth_gains (h : ∀ x ∈ l, 0 < x.2) : r * upQ l (dualB l.length f) + (1 - r) * upQ l f = r + sumQ (2 ^ l.length) fun m => if f m = true then gainQ l r m else 0 := by
  rw [up_dual l f h, up_sum l f (by have := prodU_pos h; omega)]
  have e : (sumQ (2 ^ l.length) fun m => if f m = true then gainQ l r m else 0) = sumQ (2 ^ l.length) (fun m => (1 - r) * (if f m = true then aloneQ l m else 0)) + sumQ (2 ^ l.length) (fun m => (-r) * (if f m = true then aloneQ l (2 ^ l.length - 1 - m) else 0)) := by
    rw [← sumQ_add]
    refine sumQ_congr _ fun m _ => ?_
    cases f m with
    | true =>
      show gainQ l r m = (1 - r) * aloneQ l m + (-r) * aloneQ l (2 ^ l.length - 1 - m)
      unfold gainQ
      grind
    | false =>
      show (0 : Qr) = (1 - r) * 0 + (-r) * 0
      grind
  rw [e, sumQ_mul, sumQ_mul]
  grind
/-- the most that is possible -/
def mostQ (l : List (Int × Int)) (r : Qr) : Qr := r + sumQ (2 ^ l.length) fun m => if upB (bestL l r false) m = true then gainQ l r m else 0
theorem sum_le {F G : Nat → Qr} : ∀ n : Nat, (∀ m, m < n → F m ≤ G m) → sumQ n F ≤ sumQ n G ∧ (sumQ n F = sumQ n G ↔ ∀ m, m < n → F m = G m)
  | 0, _ => ⟨by show (0 : Qr) ≤ 0; decide, ⟨fun _ m h => by omega, fun _ => rfl⟩⟩
  | n + 1, h => by
    obtain ⟨i1, i2⟩ := sum_le n fun m hm => h m (by omega)
    have hn := h n (by omega)
    show sumQ n F + F n ≤ sumQ n G + G n ∧ (sumQ n F + F n = sumQ n G + G n ↔ _)
    refine ⟨by grind, fun z m hm => ?_, fun z => ?_⟩
    · have e1 : sumQ n F = sumQ n G := by grind
      have e2 : F n = G n := by grind
      rcases Nat.lt_or_ge m n with y | y
      · exact i2.mp e1 m y
      · obtain rfl : m = n := by omega
        exact e2
    · rw [i2.mpr fun m hm => z m (by omega), z n (by omega)]
section
variable (h : ∀ x ∈ l, 0 < x.2) (ok : ∀ x ∈ l, chanceOk x.1 x.2 = true) (r0 : 0 ≤ r) (r1 : r ≤ 1)
include h ok r0 r1
theorem gain_step (F : Fm l.length f) {m : Nat} (hm : m < 2 ^ l.length) : (if f m = true then gainQ l r m else 0) ≤ (if upB (bestL l r false) m = true then gainQ l r m else 0) ∧
    ((if f m = true then gainQ l r m else 0) = (if upB (bestL l r false) m = true then gainQ l r m else 0) ↔ ((upB (bestL l r false) m = true → f m = true) ∧ (f m = true → upB (bestL l r true) m = true))) := by
  have B := fm_best (l := l) (r := r) (b := false) F.n1 F.n8
  have B' := fm_best (l := l) (r := r) (b := true) F.n1 F.n8
  have le0 : ∀ x : Qr, x ≤ x := fun x => by grind
  by_cases m0 : m = 0
  · subst m0
    rw [F.bot, B.bot]
    exact ⟨le0 _, by simp⟩
  · by_cases mt : m = 2 ^ l.length - 1
    · subst mt
      rw [F.top, B.top, B'.top]
      exact ⟨le0 _, by simp⟩
    · have e1 := best_iff (b := false) h ok r0 r1 F.n1 (m := m) (by omega) (by omega)
      have e2 := best_iff (b := true) h ok r0 r1 F.n1 (m := m) (by omega) (by omega)
      rw [e1, e2]
      unfold upper
      rw [if_neg (by decide : ¬ (false = true)), if_pos rfl]
      simp only [decide_eq_true_eq]
      by_cases g0 : 0 < gainQ l r m
      · rw [if_pos g0]
        cases f m with
        | true => exact ⟨le0 _, by simp; grind⟩
        | false =>
          simp only [Bool.false_eq_true, if_false]
          refine ⟨by grind, ⟨fun z => by exfalso; grind, fun z => absurd (z.1 g0) (by simp)⟩⟩
      · rw [if_neg g0]
        cases f m with
        | false => exact ⟨le0 _, by simp; grind⟩
        | true =>
          simp only [if_true]
          refine ⟨by grind, ⟨fun z => ⟨fun y => absurd y g0, fun _ => by grind⟩, fun z => ?_⟩⟩
          have := z.2 trivial
          grind
/-- families with their duals are never worth more, and as much exactly between the least and the greatest -/
theorem worth_most (F : Fm l.length f) : r * upQ l (dualB l.length f) + (1 - r) * upQ l f ≤ mostQ l r ∧ (r * upQ l (dualB l.length f) + (1 - r) * upQ l f = mostQ l r ↔ (leB l.length (upB (bestL l r false)) f = true ∧ leB l.length f (upB (bestL l r true)) = true)) := by
  rw [worth_gains h]
  obtain ⟨s1, s2⟩ := sum_le (F := fun m => if f m = true then gainQ l r m else 0) (G := fun m => if upB (bestL l r false) m = true then gainQ l r m else 0) (2 ^ l.length) fun m hm => (gain_step h ok r0 r1 F hm).1
  unfold mostQ
  refine ⟨by grind, ?_⟩
  rw [leB_iff, leB_iff]
  constructor
  · intro z
    have z := s2.mp (by grind)
    exact ⟨fun m hm => ((gain_step h ok r0 r1 F hm).2.mp (z m hm)).1, fun m hm => ((gain_step h ok r0 r1 F hm).2.mp (z m hm)).2⟩
  · intro z
    rw [s2.mpr fun m hm => (gain_step h ok r0 r1 F hm).2.mpr ⟨z.1 m hm, z.2 m hm⟩]
end
end
/-- sums of numbers that stand in a list -/
def sumL (F : Nat → Qr) : List Nat → Qr
  | [] => 0
  | m :: r => F m + sumL F r
theorem sumL_snoc (F : Nat → Qr) (m : Nat) : ∀ ms : List Nat, sumL F (ms ++ [m]) = sumL F ms + F m
  | [] => by show F m + 0 = 0 + F m; grind
  | k :: ms => by
    show F k + sumL F (ms ++ [m]) = F k + sumL F ms + F m
    rw [sumL_snoc F m ms]
    grind
theorem sumL_filter (F : Nat → Qr) (b : Nat → Bool) : ∀ (k a : Nat), sumL F ((List.range' a k).filter b) = sumQ k fun i => if b (a + i) = true then F (a + i) else 0
  | 0, _ => rfl
  | k + 1, a => by
    show _ = sumQ k _ + (if b (a + k) = true then F (a + k) else 0)
    rw [← sumL_filter F b k a, List.range'_concat, List.filter_append, Nat.one_mul]
    cases e : b (a + k) with
    | true =>
      rw [show [a + k].filter b = [a + k] by simp [e], if_pos rfl]
      rw [sumL_snoc]
    | false =>
      rw [show [a + k].filter b = [] by simp [e], if_neg (by decide)]
      rw [List.append_nil]
      grind
theorem midL_range (n : Nat) : midL n = List.range' 1 (2 ^ n - 2) := by
  refine List.ext_getElem? fun i => ?_
  rcases Nat.lt_or_ge i (2 ^ n - 2) with h | h
  · rw [midL_at h, List.getElem?_range' h]
    congr 1
    omega
  · rw [List.getElem?_eq_none (by rw [midL_len]; exact h), List.getElem?_eq_none (by rw [List.length_range']; exact h)]
theorem most_sum {l : List (Int × Int)} {r : Qr} (h : ∀ x ∈ l, 0 < x.2) (ok : ∀ x ∈ l, chanceOk x.1 x.2 = true) (r0 : 0 ≤ r) (r1 : r ≤ 1) (n1 : 1 ≤ l.length) (n8 : l.length ≤ 8) :
    r + gainQ l r (2 ^ l.length - 1) + sumL (gainQ l r) ((midL l.length).filter (upper l r false)) = mostQ l r := by
  have B := fm_best (l := l) (r := r) (b := false) n1 n8
  have p : 2 ≤ 2 ^ l.length := Nat.pow_le_pow_right (n := 2) (i := 1) (by decide) n1
  unfold mostQ
  obtain ⟨k, hk⟩ : ∃ k, 2 ^ l.length = k + 2 := ⟨2 ^ l.length - 2, by omega⟩
  have e1 : sumQ (2 ^ l.length) (fun m => if upB (bestL l r false) m = true then gainQ l r m else 0) = sumQ (k + 1) (fun m => if upB (bestL l r false) m = true then gainQ l r m else 0) + gainQ l r (2 ^ l.length - 1) := by
    have t : upB (bestL l r false) (k + 1) = true := by
      have := B.top
      rwa [show 2 ^ l.length - 1 = k + 1 by omega] at this
    rw [hk]
    show sumQ (k + 1) _ + (if upB (bestL l r false) (k + 1) = true then gainQ l r (k + 1) else 0) = _
    rw [t, if_pos rfl]
    rfl
  rw [e1, sumQ_shift, B.bot, midL_range, sumL_filter, show 2 ^ l.length - 2 = k by omega]
  rw [sumQ_congr (f := fun i => if upper l r false (1 + i) = true then gainQ l r (1 + i) else 0) (g := fun m => if upB (bestL l r false) (m + 1) = true then gainQ l r (m + 1) else 0) k fun m hm => by
    show (if upper l r false (1 + m) = true then gainQ l r (1 + m) else 0) = if upB (bestL l r false) (m + 1) = true then gainQ l r (m + 1) else 0
    rw [best_iff h ok r0 r1 n1 (by omega) (by omega), Nat.add_comm]]
  show _ = r + ((0 : Qr) + _ + _)
  grind
/-! ### the most that is possible: promises -/
def spMiddle (K : PySem.W.Frag) : Sp := fun vs H Q _ => ∃ n : Nat, vs = [.int n] ∧ 1 ≤ n ∧ n ≤ 8 ∧ ∀ p ys H', Same H H' → H' p = some (.lst ys) → Paired (fun m y => Lot K H' m y) (midL n) ys → Q (.ref p) H'
def spWithWhole (K : PySem.W.Frag) (CF : Addr) : Sp := fun vs H Q _ => ∃ (n : Nat) (p : Addr) (ms : List Nat) (ys : List V), vs = [.int n, .ref p] ∧ 1 ≤ n ∧ n ≤ 8 ∧ SqL K H p ys ∧ Paired (fun m y => Lot K H m y) ms ys ∧ ms.length ≤ 300 ∧ (∀ m ∈ ms, 0 < m ∧ m < 2 ^ n) ∧
  ∀ r H', Same H H' → Fam K CF H' r n (upB ((2 ^ n - 1) :: ms)) → Q r H'
def spBestF (K : PySem.W.Frag) (b : Bool) (C CR CF CB : Addr) : Sp := fun vs H Q E => ∃ c s l o, vs = [c, s] ∧ Chs K C CR H c l ∧ ShOf K CR H o s ∧ (shOk o = false → Err CB H E "share" s) ∧
  ∀ r, o = some r → shareOk r = true → ∀ v H', Same H H' → Fam K CF H' v l.length (upB (bestL l r b)) → Q v H'
def spMost (K : PySem.W.Frag) (C CR CB : Addr) : Sp := fun vs H Q E => ∃ c s l o, vs = [c, s] ∧ Chs K C CR H c l ∧ ShOf K CR H o s ∧ (shOk o = false → Err CB H E "share" s) ∧
  ∀ r, o = some r → shareOk r = true → ∀ v H', Same H H' → RV CR H' v (mostQ l r) → Q v H'
def spIsBest (K : PySem.W.Frag) (C CR CF CB CU : Addr) : Sp := fun vs H Q E => ∃ c s w l o n f, vs = [c, s, w] ∧ Chs K C CR H c l ∧ ShOf K CR H o s ∧ Fam K CF H w n f ∧ (shOk o = false → Err CB H E "share" s) ∧
  ∀ r, o = some r → shareOk r = true → (l.length ≠ n → ∀ H', Same H H' → E (.ref CU) none H') ∧ (l.length = n → ∀ H', Same H H' → Q (.bl (leB l.length (upB (bestL l r false)) f && leB l.length f (upB (bestL l r true)))) H')
theorem share_num {r : Qr} (h : shareOk r = true) : 0 ≤ r ∧ r ≤ 1 ∧ 0 ≤ r.num ∧ r.num ≤ r.den ∧ r.den ≤ 1000 := by
  unfold shareOk at h
  simp only [Bool.and_eq_true, decide_eq_true_eq] at h
  obtain ⟨h1, h2, h3⟩ := h
  refine ⟨h2, h3, _root_.Rat.num_nonneg.mpr h2, ?_, h1⟩
  have := (_root_.Rat.le_iff r 1).mp h3
  show r.num ≤ r.den
  have e1 : (1 : Qr).num = 1 := rfl
  have e2 : (1 : Qr).den = 1 := rfl
  rw [e1, e2] at this
  omega
/-- gains as fractions over one and the same number -/
def gInt (l : List (Int × Int)) (r : Qr) (m : Nat) : Int := ((r.den : Int) - r.num) * (countsOf l).getD m 0 - r.num * (countsOf l).getD (2 ^ l.length - 1 - m) 0
theorem gain_q {l : List (Int × Int)} {r : Qr} (h : prodU l ≠ 0) (m : Nat) : gainQ l r m = qd (gInt l r m) ((r.den : Int) * prodU l) := by
  have d0 : (r.den : Int) ≠ 0 := by have := qr_pos r; omega
  have e1 : (1 - r) = qd ((r.den : Int) - r.num) r.den := by rw [← q_one_sub d0, qr_self]
  have e2 : gainQ l r m = qd (((r.den : Int) - r.num) * (countsOf l).getD m 0) ((r.den : Int) * prodU l) - qd (r.num * (countsOf l).getD (2 ^ l.length - 1 - m) 0) ((r.den : Int) * prodU l) := by
    unfold gainQ aloneQ
    rw [e1, qd_mul, show r * qd ((countsOf l).getD (2 ^ l.length - 1 - m) 0) (prodU l) = qd r.num r.den * qd ((countsOf l).getD (2 ^ l.length - 1 - m) 0) (prodU l) by rw [qr_self], qd_mul]
  rw [e2]
  unfold gInt
  have hn := Int.mul_ne_zero d0 h
  have z := qd_add (a := ((r.den : Int) - r.num) * (countsOf l).getD m 0) (b := -(r.num * (countsOf l).getD (2 ^ l.length - 1 - m) 0)) hn
  rw [← Int.sub_eq_add_neg] at z
  rw [← z]
  have : qd (-(r.num * (countsOf l).getD (2 ^ l.length - 1 - m) 0)) ((r.den : Int) * prodU l) = -qd (r.num * (countsOf l).getD (2 ^ l.length - 1 - m) 0) ((r.den : Int) * prodU l) := by
    unfold qd
    exact (_root_.Rat.neg_divInt _ _).symm
  rw [this]
  grind
theorem gInt_le {K : PySem.W.Frag} {C CR : Addr} {H : Hp} {v : V} {l : List (Int × Int)} {r : Qr} (G : Chs K C CR H v l) (hr : shareOk r = true) (m : Nat) : (gInt l r m).natAbs ≤ 1000 * 1000 ^ 8 := by
  obtain ⟨_, _, n0, n1, d1⟩ := share_num hr
  obtain ⟨a0, a1⟩ := G.count m
  obtain ⟨b0, b1⟩ := G.count (2 ^ l.length - 1 - m)
  have x1 : ((r.den : Int) - r.num) * (countsOf l).getD m 0 ≤ 1000 * 1000 ^ 8 := Int.mul_le_mul (by omega) a1 a0 (by decide)
  have x0 : 0 ≤ ((r.den : Int) - r.num) * (countsOf l).getD m 0 := Int.mul_nonneg (by omega) a0
  have y1 : r.num * (countsOf l).getD (2 ^ l.length - 1 - m) 0 ≤ 1000 * 1000 ^ 8 := Int.mul_le_mul (by omega) b1 b0 (by decide)
  have y0 : 0 ≤ r.num * (countsOf l).getD (2 ^ l.length - 1 - m) 0 := Int.mul_nonneg n0 b0
  unfold gInt
  omega
theorem den_sz {K : PySem.W.Frag} {C CR : Addr} {H : Hp} {v : V} {l : List (Int × Int)} {r : Qr} (G : Chs K C CR H v l) (hr : shareOk r = true) : (r.den : Int) * prodU l ≠ 0 ∧ ((r.den : Int) * prodU l).natAbs < 2 ^ 100 := by
  obtain ⟨_, u0, u1, _⟩ := G.terms
  obtain ⟨_, _, _, _, d1⟩ := share_num hr
  have d0 := qr_pos r
  have x1 : (r.den : Int) * prodU l ≤ 1000 * 1000 ^ 8 := Int.mul_le_mul (by omega) u1 (by omega) (by decide)
  have x0 : 0 < (r.den : Int) * prodU l := Int.mul_pos d0 u0
  have e : (1000 : Int) * 1000 ^ 8 < 2 ^ 100 := by decide
  exact ⟨by omega, by omega⟩
theorem gain_sz {K : PySem.W.Frag} {C CR : Addr} {H : Hp} {v : V} {l : List (Int × Int)} {r : Qr} (G : Chs K C CR H v l) (hr : shareOk r = true) (m : Nat) : Szq 100 (gainQ l r m) := by
  obtain ⟨_, u0, _, _⟩ := G.terms
  obtain ⟨d0, d1⟩ := den_sz G hr
  have := gInt_le G hr m
  have e : (1000 : Nat) * 1000 ^ 8 < 2 ^ 100 := by decide
  rw [gain_q (by omega)]
  exact szq_div d0 (by omega) d1
def gSum (l : List (Int × Int)) (r : Qr) : List Nat → Int
  | [] => 0
  | m :: ms => gInt l r m + gSum l r ms
theorem sumL_q {l : List (Int × Int)} {r : Qr} (h : prodU l ≠ 0) : ∀ ms : List Nat, sumL (gainQ l r) ms = qd (gSum l r ms) ((r.den : Int) * prodU l)
  | [] => (qd_zero _).symm
  | m :: ms => by
    show gainQ l r m + sumL (gainQ l r) ms = qd (gInt l r m + gSum l r ms) _
    rw [gain_q h, sumL_q h ms, qd_add (Int.mul_ne_zero (by have := qr_pos r; omega) h)]
theorem gSum_le {K : PySem.W.Frag} {C CR : Addr} {H : Hp} {v : V} {l : List (Int × Int)} {r : Qr} (G : Chs K C CR H v l) (hr : shareOk r = true) : ∀ ms : List Nat, (gSum l r ms).natAbs ≤ ms.length * (1000 * 1000 ^ 8)
  | [] => by simp [gSum]
  | m :: ms => by
    have h1 := gSum_le G hr ms
    have h2 := gInt_le G hr m
    show (gInt l r m + gSum l r ms).natAbs ≤ (ms.length + 1) * _
    rw [Nat.add_mul, Nat.one_mul]
    omega
theorem sumL_sz {K : PySem.W.Frag} {C CR : Addr} {H : Hp} {v : V} {l : List (Int × Int)} {r : Qr} (G : Chs K C CR H v l) (hr : shareOk r = true) {ms : List Nat} (hm : ms.length ≤ 256) : Szq 100 (sumL (gainQ l r) ms) := by
  obtain ⟨_, u0, _, _⟩ := G.terms
  obtain ⟨d0, d1⟩ := den_sz G hr
  have h1 := gSum_le G hr ms
  have h2 : ms.length * (1000 * 1000 ^ 8) ≤ 256 * (1000 * 1000 ^ 8) := Nat.mul_le_mul_right _ hm
  have e : (256 : Nat) * (1000 * 1000 ^ 8) < 2 ^ 100 := by decide
  rw [sumL_q (by omega)]
  exact szq_div d0 (by omega) d1
theorem share_sz {r : Qr} (h : shareOk r = true) : Szq 100 r := by
  obtain ⟨_, _, n0, n1, d1⟩ := share_num h
  have e : (1000 : Nat) < 2 ^ 100 := by decide
  exact ⟨by omega, by omega⟩
theorem mid_filter (b : Nat → Bool) (n : Nat) : (List.range (2 ^ n - 2)).filterMap (fun i => if b (i + 1) = true then some (i + 1) else none) = (midL n).filter b := by
  rw [midL_range]
  have g : ∀ k : Nat, (List.range k).filterMap (fun i => if b (i + 1) = true then some (i + 1) else none) = (List.range' 1 k).filter b := by
    intro k
    induction k with
    | zero => rfl
    | succ k ih =>
      rw [List.range_succ, List.filterMap_append, ih, List.range'_concat, List.filter_append, Nat.one_mul, Nat.add_comm 1 k]
      congr 1
      cases e : b (k + 1) <;> simp [e]
  exact g _
theorem prDrop {α β : Type} {F : α → β → Prop} : ∀ {xs : List α} {ys : List β} (k : Nat), Paired F xs ys → Paired F (xs.drop k) (ys.drop k)
  | _, _, 0, h => h
  | _, _, _ + 1, .nil => .nil
  | _, _, k + 1, .cons _ t => prDrop k t
theorem Chs.pos {K : PySem.W.Frag} {C CR : Addr} {H : Hp} {v : V} {l : List (Int × Int)} (h : Chs K C CR H v l) : ∀ r ∈ l, 0 < r.2 := fun r hr => by
  have := h.len.2.2 r hr
  unfold chanceOk at this
  simp only [Bool.and_eq_true, decide_eq_true_eq] at this
  omega
theorem pos_iff (q : Qr) : ((0 : Int) * (q.den : Int) < q.num * 1) ↔ 0 < q := by
  have := _root_.Rat.lt_iff 0 q
  rw [q0n, q0d] at this
  exact this.symm
theorem nn_iff (q : Qr) : ((0 : Int) * (q.den : Int) ≤ q.num * 1) ↔ 0 ≤ q := by
  have := _root_.Rat.le_iff 0 q
  rw [q0n, q0d] at this
  exact this.symm
section
variable {K : PySem.W.Frag} {C : Addr} {H : Hp} {x y : V} {a b : Qr} {n : Nat} {Q : VK} {E : XK}
theorem sp_add (h : RV C H x a) (g : RV C H y b) (s1 : Szq n a) (s2 : Szq n b) (n0 : 0 < n) (n1 : n ≤ 4000) (k : ∀ r H', Same H H' → RV C H' r (a + b) → Q r H') : spArith C (fun p1 q1 p2 q2 => p1 * q2 + p2 * q1) (fun p1 q1 p2 q2 => q1 * q2) [x, y] H Q E :=
  ⟨x, y, _, _, _, _, n, rfl, h, .rat g, s1, s2, n0, n1, fun r p q H' s R nf => k r H' s (by rw [← q_add]; exact rv_nf (q_den _ _) nf R)⟩
theorem sp_add0 (h : RV C H x a) (s1 : Szq n a) (n0 : 0 < n) (n1 : n ≤ 4000) (k : ∀ r H', Same H H' → RV C H' r a → Q r H') : spArith C (fun p1 q1 p2 q2 => p1 * q2 + p2 * q1) (fun p1 q1 p2 q2 => q1 * q2) [x, .int 0] H Q E :=
  ⟨x, .int 0, _, _, _, _, n, rfl, h, nv_int 0, s1, ⟨Nat.two_pow_pos _, Nat.one_lt_two_pow (by omega)⟩, n0, n1, fun r p q H' s R nf => k r H' s (by
    have e : a = a + ((0 : Int) : Qr) := by
      have : ((0 : Int) : Qr) = 0 := rfl
      rw [this]
      grind
    rw [e, ← q_add]
    exact rv_nf (q_den _ _) nf R)⟩
/-- x > 0, x >= 0 -/
theorem rv_gt0 (T : OpC K C) (h : RV C H x a) (s1 : Szq n a) (n0 : 0 < n) (n1 : n ≤ 4000) (k : ∀ H', Same H H' → Q (.bl (decide (0 < a))) H') : rOwnC K C (spOrd C fun x y => decide (y < x)) E x (.int 0) H Q :=
  ⟨h.isC, ⟨_, .base (.int _), notFirst_of T.intNo⟩, x, .int 0, _, _, 0, 1, n, rfl, h, .int 0, s1, ⟨Nat.two_pow_pos _, Nat.one_lt_two_pow (by omega)⟩, n0, n1, fun H' s => by
    show Q (.bl (decide ((0 : Int) * (a.den : Int) < a.num * 1))) H'
    rw [show decide ((0 : Int) * (a.den : Int) < a.num * 1) = decide (0 < a) from decide_eq_decide.mpr (pos_iff a)]
    exact k H' s⟩
theorem rv_ge0 (T : OpC K C) (h : RV C H x a) (s1 : Szq n a) (n0 : 0 < n) (n1 : n ≤ 4000) (k : ∀ H', Same H H' → Q (.bl (decide (0 ≤ a))) H') : rOwnC K C (spOrd C fun x y => decide (y ≤ x)) E x (.int 0) H Q :=
  ⟨h.isC, ⟨_, .base (.int _), notFirst_of T.intNo⟩, x, .int 0, _, _, 0, 1, n, rfl, h, .int 0, s1, ⟨Nat.two_pow_pos _, Nat.one_lt_two_pow (by omega)⟩, n0, n1, fun H' s => by
    show Q (.bl (decide ((0 : Int) * (a.den : Int) ≤ a.num * 1))) H'
    rw [show decide ((0 : Int) * (a.den : Int) ≤ a.num * 1) = decide (0 ≤ a) from decide_eq_decide.mpr (nn_iff a)]
    exact k H' s⟩
theorem gain_of {CR CB : Addr} {c s : V} {l : List (Int × Int)} {r : Qr} {m : Nat} (G : Chs K C CR H c l) (S : ShOf K CR H (some r) s) (okr : shareOk r = true) (hm : m < 2 ^ l.length) (hy : LotArg K H (lotV m) y) (q : ∀ v H2, Same H H2 → RV CR H2 v (gainQ l r m) → Q v H2) : spGain K C CR CB [c, s, y] H Q E := by
  obtain ⟨n1, n8, _⟩ := G.len
  have n256 := pow_le8 n8
  exact ⟨c, s, y, l, some r, lotV m, rfl, G, S, hy, fun e => absurd (okr.symm.trans e) (by decide), fun r' er _ => ⟨fun z e => (by rw [badOf_lotV hm n8] at e; cases e), fun _ v H2 s2 R => q v H2 s2 (by cases er; rw [mask_lotV (by omega)] at R; exact R)⟩⟩
theorem some_of {o : Option Qr} (ok : shOk o = true) : ∃ r, o = some r ∧ shareOk r = true := by
  cases o with
  | none => cases ok
  | some r => exact ⟨r, rfl, ok⟩
end
/-! ### shares that a law draws -/
def goodS (r : Int × Int) : Prop := 1 ≤ r.2 ∧ r.2 ≤ 12 ∧ 0 ≤ r.1 ∧ r.1 ≤ r.2
theorem goodS_ok {r : Int × Int} (g : goodS r) : shareOk (qd r.1 r.2) = true ∧ Szq 10 (qd r.1 r.2) := by
  obtain ⟨g1, g2, g3, g4⟩ := g
  have hU : r.2 ≠ 0 := by omega
  obtain ⟨_, _, nf⟩ := nf_make (O := r.1) hU rfl
  obtain ⟨e1, e2⟩ := nf_q hU nf
  rw [e1, e2] at nf
  have h1 := nf.pos
  have h2 := nf.eq
  have h3 := nf.le2
  have h4 := nf.le1
  generalize qd r.1 r.2 = s at h1 h2 h3 h4
  have n0 : 0 ≤ s.num := by
    refine Int.le_of_mul_le_mul_right (a := r.2) ?_ (by omega)
    rw [h2, Int.zero_mul]
    exact Int.mul_nonneg g3 (by omega)
  have n1 : s.num ≤ s.den := by
    refine Int.le_of_mul_le_mul_right (a := r.2) ?_ (by omega)
    rw [h2, Int.mul_comm (s.den : Int)]
    exact Int.mul_le_mul_of_nonneg_right g4 (by omega)
  refine ⟨?_, ⟨by omega, by omega⟩⟩
  unfold shareOk
  rw [decide_eq_true (p := s.den ≤ 1000) (by omega), decide_eq_true (p := (0 : Qr) ≤ s) ((_root_.Rat.le_iff 0 s).mpr (by rw [q0n, q0d]; omega)), decide_eq_true (p := s ≤ (1 : Qr)) ((_root_.Rat.le_iff s 1).mpr (by rw [q1n, q1d]; omega))]
  rfl
def spLShare (K : PySem.W.Frag) : Sp := fun vs H Q _ => ∃ (l t : Addr) (H0 : Hp), vs = [.ref l, .ref t] ∧ Drw K H0 l t H ∧ ∀ (r : Int × Int) p H', goodS r → Exc t H H' → Drw K H0 l t H' → H p = none → H' p = some (.tup [.int r.1, .int r.2]) → Q (.ref p) H'
/-! ### heavy families: the mathematics -/
def heavyB (l : List (Int × Int)) (m : Nat) : Bool := decide (aloneQ l (2 ^ l.length - 1 - m) < aloneQ l m) || (decide (aloneQ l m = aloneQ l (2 ^ l.length - 1 - m)) && m.testBit 0)
def heavyL (l : List (Int × Int)) : List Nat := (List.range (2 ^ l.length)).filter (heavyB l)
section
variable {l : List (Int × Int)} (h : ∀ x ∈ l, 0 < x.2) (ok : ∀ x ∈ l, chanceOk x.1 x.2 = true) (n1 : 1 ≤ l.length) (n8 : l.length ≤ 8)
include h ok n1 n8
end
/-! #### odds -/
def prodI : List Int → Int
  | [] => 1
  | a :: l => a * prodI l
def oA (rs : List (Int × Int)) (m : Nat) : Int := prodI ((oneL m).map fun c => (rs.getD c (1, 2)).1)
def oB (rs : List (Int × Int)) (m : Nat) : Int := prodI ((oneL m).map fun c => (rs.getD c (1, 2)).2 - (rs.getD c (1, 2)).1)
/-! ### strict writes: promises -/
def spIsHeavier (K : PySem.W.Frag) (C CR : Addr) : Sp := fun vs H Q _ => ∃ (c y : V) (l : List (Int × Int)) (m : Nat), vs = [c, y] ∧ Chs K C CR H c l ∧ m < 2 ^ l.length ∧ Lot K H m y ∧ ∀ H', Same H H' → Q (.bl (heavyB l m)) H'
def spHeavy (K : PySem.W.Frag) (C CR CF : Addr) : Sp := fun vs H Q _ => ∃ (c : V) (l : List (Int × Int)), vs = [c] ∧ Chs K C CR H c l ∧ ∀ v H', Same H H' → Fam K CF H' v l.length (heavyB l) → Q v H'
def strictQ (l : List (Int × Int)) (r : Qr) : Qr := if qd 1 2 ≤ r then mostQ l r else upQ l (heavyB l)
def strictB (l : List (Int × Int)) (r : Qr) : Nat → Bool := if qd 1 2 ≤ r then upB (bestL l r false) else heavyB l
def spMostStrict (K : PySem.W.Frag) (C CR CB : Addr) : Sp := fun vs H Q E => ∃ c s l o, vs = [c, s] ∧ Chs K C CR H c l ∧ ShOf K CR H o s ∧ (shOk o = false → Err CB H E "share" s) ∧
  ∀ r, o = some r → shareOk r = true → ∀ v H', Same H H' → RV CR H' v (strictQ l r) → Q v H'
def spStrictW (K : PySem.W.Frag) (C CR CF CB : Addr) : Sp := fun vs H Q E => ∃ c s l o, vs = [c, s] ∧ Chs K C CR H c l ∧ ShOf K CR H o s ∧ (shOk o = false → Err CB H E "share" s) ∧
  ∀ r, o = some r → shareOk r = true → ∀ v H', Same H H' → Fam K CF H' v l.length (strictB l r) → Q v H'
theorem rv_gt {K : PySem.W.Frag} {C : Addr} {H : Hp} {x y : V} {a b : Qr} {n : Nat} {Q : VK} {E : XK} (T : InsC K C) (h : RV C H x a) (g : RV C H y b) (s1 : Szq n a) (s2 : Szq n b) (n0 : 0 < n) (n1 : n ≤ 4000) (k : ∀ H', Same H H' → Q (.bl (decide (b < a))) H') : rOwnC K C (spOrd C fun x y => decide (y < x)) E x y H Q :=
  ⟨h.isC, ⟨_, g.ty T, by simp [PySem.W.notFirst]⟩, x, y, _, _, _, _, n, rfl, h, .rat g, s1, s2, n0, n1, fun H' s => by
    show Q (.bl (decide (b.num * (a.den : Int) < a.num * (b.den : Int)))) H'
    rw [show decide (b.num * (a.den : Int) < a.num * (b.den : Int)) = decide (b < a) from decide_eq_decide.mpr (_root_.Rat.lt_iff b a).symm]
    exact k H' s⟩
theorem rv_lt {K : PySem.W.Frag} {C : Addr} {H : Hp} {x y : V} {a b : Qr} {n : Nat} {Q : VK} {E : XK} (T : InsC K C) (h : RV C H x a) (g : RV C H y b) (s1 : Szq n a) (s2 : Szq n b) (n0 : 0 < n) (n1 : n ≤ 4000) (k : ∀ H', Same H H' → Q (.bl (decide (a < b))) H') : rOwnC K C (spOrd C fun x y => decide (x < y)) E x y H Q :=
  ⟨h.isC, ⟨_, g.ty T, by simp [PySem.W.notFirst]⟩, x, y, _, _, _, _, n, rfl, h, .rat g, s1, s2, n0, n1, fun H' s => by
    show Q (.bl (decide (a.num * (b.den : Int) < b.num * (a.den : Int)))) H'
    rw [show decide (a.num * (b.den : Int) < b.num * (a.den : Int)) = decide (a < b) from decide_eq_decide.mpr (_root_.Rat.lt_iff a b).symm]
    exact k H' s⟩
/-! ### x in a list, not in a list, by the items' own == -/
section
open SeqAt MeetsSeq MeetsSeq2 MeetsSeq3 SeqRoads2
open AutoSeq1 (wpAny_loadPart')
variable {prog : Program} {w : World} {A : Around} {R : Result → Shared → Prop}
/-- at each turn the list is read: N items, the i-th with the answer e i -/
def HasStep (prog : Program) (w : World) (A : Around) (F : Value → Shared → Prop) (p : Addr) (x : Value) (N : Nat) (e : Nat → Bool) (J : Nat → Shared → Prop) : Prop :=
  ∀ i s, J i s → ∃ (xs : Array Value) (k1 : Nat), s.heap.get? p = some { cls := .type "list", data := .seq xs k1 } ∧ xs.size = N ∧
    ∀ (h1 : i < xs.size), wpAny (model prog w) A.in1 (eqBool xs[i] x) (fun r s' => r = e i ∧ J (i + 1) s') F s
end
section
open SeqAt MeetsSeq MeetsSeq2 MeetsSeq3 SeqRoads2
variable {X : Cx} {n : Nat} {D : Ans}
def rInB (D : Ans) (g : Bool → Bool) : R2 := fun x y H Q => ∃ p xs e, y = .ref p ∧ H p = some (.lst xs) ∧ (∀ (i : Nat) z, xs[i]? = some z → D z x (e i) H) ∧ ∀ H', Same H H' → Q (.bl (g ((List.range xs.length).any e))) H'
end
/-! ### breaks: the shares at which the gains of lots turn -/
def breakQ (l : List (Int × Int)) (m : Nat) : Qr := aloneQ l m / (aloneQ l m + aloneQ l (2 ^ l.length - 1 - m))
/-- one more, at its place, if it isn't there -/
def insB (xs : List Qr) (t : Qr) : List Qr :=
  let k := (xs.filter fun x => decide (x < t)).length
  if k = xs.length ∨ xs[k]? ≠ some t then xs.take k ++ [t] ++ xs.drop k else xs
def breaksL (l : List (Int × Int)) : List Qr := ((midL l.length).map (breakQ l)).foldl insB []
/-- strictly ascending -/
def Asc (xs : List Qr) : Prop := xs.Pairwise (· < ·)
theorem asc_cut {xs : List Qr} (h : Asc xs) (t : Qr) : (∀ x ∈ xs.take (xs.filter fun x => decide (x < t)).length, x < t) ∧ (∀ x ∈ xs.drop (xs.filter fun x => decide (x < t)).length, t ≤ x) := by
  induction xs with
  | nil => exact ⟨fun x h => by simp at h, fun x h => by simp at h⟩
  | cons a xs ih =>
    obtain ⟨h1, h2⟩ := List.pairwise_cons.mp h
    obtain ⟨i1, i2⟩ := ih h2
    by_cases z : a < t
    · rw [List.filter_cons_of_pos (by simpa using z)]
      refine ⟨fun x hx => ?_, fun x hx => i2 x hx⟩
      rcases List.mem_cons.mp hx with rfl | hx
      · exact z
      · exact i1 x hx
    · have none : xs.filter (fun x => decide (x < t)) = [] := by
        rw [List.filter_eq_nil_iff]
        intro x hx
        have := h1 x hx
        rw [decide_eq_true_eq]
        grind
      rw [List.filter_cons_of_neg (by simpa using z), none]
      refine ⟨fun x hx => by simp at hx, fun x hx => ?_⟩
      rcases List.mem_cons.mp hx with rfl | hx
      · grind
      · have := h1 x hx
        grind
theorem insB_spec {xs : List Qr} (h : Asc xs) (t : Qr) : Asc (insB xs t) ∧ ∀ x, x ∈ insB xs t ↔ x ∈ xs ∨ x = t := by
  obtain ⟨c1, c2⟩ := asc_cut h t
  unfold insB
  simp only
  generalize (xs.filter fun x => decide (x < t)).length = k at c1 c2
  have split : xs.take k ++ xs.drop k = xs := List.take_append_drop k xs
  have ap := List.pairwise_append.mp (show (xs.take k ++ xs.drop k).Pairwise (· < ·) by rw [split]; exact h)
  by_cases z : k = xs.length ∨ xs[k]? ≠ some t
  · rw [if_pos z]
    have c3 : ∀ x ∈ xs.drop k, t < x := fun x hx => by
      have g := c2 x hx
      rcases z with rfl | z
      · simp at hx
      · by_cases e : x = t
        · exfalso
          subst e
          obtain ⟨j, hj⟩ := List.mem_iff_getElem?.mp hx
          rw [List.getElem?_drop] at hj
          cases j with
          | zero => exact z hj
          | succ j =>
            have lt : k < xs.length := by
              have := (List.getElem?_eq_some_iff.mp hj).1
              omega
            have hk : xs[k]? = some xs[k] := List.getElem?_eq_getElem lt
            have m : xs[k] ∈ xs.drop k := List.mem_iff_getElem?.mpr ⟨0, by rw [List.getElem?_drop]; exact hk⟩
            have g2 := c2 _ m
            obtain ⟨hl, hj2⟩ := List.getElem?_eq_some_iff.mp hj
            have g3 : xs[k] < xs[k + (j + 1)] := (List.pairwise_iff_getElem.mp h) k (k + (j + 1)) lt hl (by omega)
            rw [hj2] at g3
            grind
        · grind
    refine ⟨?_, fun x => ?_⟩
    · unfold Asc
      rw [List.append_assoc]
      refine List.pairwise_append.mpr ⟨ap.1, List.pairwise_append.mpr ⟨by simp, ap.2.1, fun a ha b hb => ?_⟩, fun a ha b hb => ?_⟩
      · obtain rfl : a = t := by simpa using ha
        exact c3 b hb
      · rcases List.mem_append.mp hb with hb | hb
        · obtain rfl : b = t := by simpa using hb
          exact c1 a ha
        · exact ap.2.2 a ha b hb
    · constructor
      · intro hx
        rcases List.mem_append.mp hx with hx | hx
        · rcases List.mem_append.mp hx with hx | hx
          · exact .inl (List.mem_of_mem_take hx)
          · exact .inr (by simpa using hx)
        · exact .inl (List.mem_of_mem_drop hx)
      · rintro (hx | rfl)
        · rw [← split] at hx
          rcases List.mem_append.mp hx with hx | hx
          · exact List.mem_append_left _ (List.mem_append_left _ hx)
          · exact List.mem_append_right _ hx
        · exact List.mem_append_left _ (List.mem_append_right _ (by simp))
  · rw [if_neg z]
    refine ⟨h, fun x => ⟨fun hx => .inl hx, fun hx => ?_⟩⟩
    rcases hx with hx | rfl
    · exact hx
    · have : xs[k]? = some x := Classical.byContradiction fun q => z (.inr q)
      exact List.mem_of_getElem? this
theorem fold_insB : ∀ (ts xs : List Qr), Asc xs → Asc (ts.foldl insB xs) ∧ ∀ x, x ∈ ts.foldl insB xs ↔ x ∈ xs ∨ x ∈ ts
  | [], xs, h => ⟨h, fun x => by simp⟩
  | t :: ts, xs, h => by
    obtain ⟨a1, a2⟩ := insB_spec h t
    obtain ⟨b1, b2⟩ := fold_insB ts (insB xs t) a1
    refine ⟨b1, fun x => ?_⟩
    rw [List.foldl_cons, b2, a2, List.mem_cons]
    constructor
    · rintro ((z | z) | z)
      · exact .inl z
      · exact .inr (.inl z)
      · exact .inr (.inr z)
    · rintro (z | z | z)
      · exact .inl (.inl z)
      · exact .inl (.inr z)
      · exact .inr z
theorem breaks_asc (l : List (Int × Int)) : Asc (breaksL l) := (fold_insB _ [] List.Pairwise.nil).1
theorem breaks_mem (l : List (Int × Int)) (x : Qr) : x ∈ breaksL l ↔ ∃ m ∈ midL l.length, breakQ l m = x := by
  unfold breaksL
  rw [(fold_insB _ [] List.Pairwise.nil).2 x]
  simp
/-- two ascending lists of the same things are the same -/
theorem asc_ext : ∀ {xs ys : List Qr}, Asc xs → Asc ys → (∀ x, x ∈ xs ↔ x ∈ ys) → xs = ys
  | [], [], _, _, _ => rfl
  | [], y :: ys, _, _, h => absurd ((h y).mpr (by simp)) (by simp)
  | x :: xs, [], _, _, h => absurd ((h x).mp (by simp)) (by simp)
  | x :: xs, y :: ys, hx, hy, h => by
    obtain ⟨p1, p2⟩ := List.pairwise_cons.mp hx
    obtain ⟨q1, q2⟩ := List.pairwise_cons.mp hy
    have e : x = y := by
      rcases List.mem_cons.mp ((h x).mp (by simp)) with z | z
      · exact z
      · rcases List.mem_cons.mp ((h y).mpr (by simp)) with w | w
        · exact w.symm
        · have := q1 x z
          have := p1 y w
          grind
    subst e
    rw [asc_ext p2 q2 fun z => ?_]
    constructor
    · intro hz
      rcases List.mem_cons.mp ((h z).mp (List.mem_cons_of_mem _ hz)) with w | w
      · have := p1 z hz
        grind
      · exact w
    · intro hz
      rcases List.mem_cons.mp ((h z).mpr (List.mem_cons_of_mem _ hz)) with w | w
      · have := q1 z hz
        grind
      · exact w
section
variable {l : List (Int × Int)}
theorem alone_pos (h : ∀ x ∈ l, 0 < x.2) (ok : ∀ x ∈ l, chanceOk x.1 x.2 = true) {m : Nat} (hm : m < 2 ^ l.length) : 0 < aloneQ l m := by
  rw [alone_prod l m h hm]
  exact prodQ_pos l m ok
theorem break_bounds (h : ∀ x ∈ l, 0 < x.2) (ok : ∀ x ∈ l, chanceOk x.1 x.2 = true) {m : Nat} (hm : m < 2 ^ l.length) : 0 < breakQ l m ∧ breakQ l m < 1 ∧ breakQ l (2 ^ l.length - 1 - m) = 1 - breakQ l m := by
  have a := alone_pos h ok hm
  have b := alone_pos h ok (m := 2 ^ l.length - 1 - m) (by omega)
  unfold breakQ
  rw [show 2 ^ l.length - 1 - (2 ^ l.length - 1 - m) = m by omega]
  generalize aloneQ l m = x at *
  generalize aloneQ l (2 ^ l.length - 1 - m) = y at *
  have s : 0 < x + y := by grind
  have e : x / (x + y) * (x + y) = x := by rw [_root_.Rat.div_mul_cancel (by grind)]
  have e2 : y / (y + x) * (x + y) = y := by rw [_root_.Rat.add_comm y x, _root_.Rat.div_mul_cancel (by grind)]
  refine ⟨?_, ?_, ?_⟩
  · rw [_root_.Rat.lt_div_iff s]
    grind
  · rw [_root_.Rat.div_lt_iff s]
    grind
  · rw [_root_.Rat.add_comm y x, _root_.Rat.div_def, _root_.Rat.div_def]
    have := _root_.Rat.mul_inv_cancel (x + y) (by grind)
    grind
/-- the gain is above, at or below 0 as the share is below, at or above the break -/
theorem gain_break (h : ∀ x ∈ l, 0 < x.2) (ok : ∀ x ∈ l, chanceOk x.1 x.2 = true) {m : Nat} (hm : m < 2 ^ l.length) (r : Qr) : gainQ l r m = (breakQ l m - r) * (aloneQ l m + aloneQ l (2 ^ l.length - 1 - m)) := by
  have a := alone_pos h ok hm
  have b := alone_pos h ok (m := 2 ^ l.length - 1 - m) (by omega)
  unfold gainQ breakQ
  generalize aloneQ l m = x at *
  generalize aloneQ l (2 ^ l.length - 1 - m) = y at *
  have e : x / (x + y) * (x + y) = x := by rw [_root_.Rat.div_mul_cancel (by grind)]
  grind
end
theorem q_div (a b : Qr) : qd (a.num * b.den) (a.den * b.num) = a / b := by
  have e : b⁻¹ = _root_.Rat.divInt b.den b.num := _root_.Rat.inv_def b
  have := _root_.Rat.divInt_mul_divInt a.num b.den (d₁ := a.den) (d₂ := b.num)
  rw [_root_.Rat.num_divInt_den, ← e] at this
  rw [_root_.Rat.div_def]
  exact this.symm
theorem q_num {b : Qr} (h : b ≠ 0) : b.num ≠ 0 := fun z => h (_root_.Rat.num_eq_zero.mp z)
theorem szq_quo {a b : Qr} {n m : Nat} (h1 : Szq n a) (h2 : Szq m b) (nz : b ≠ 0) : Szq (n + m) (a / b) := by
  rw [← q_div]
  refine szq_div (Int.mul_ne_zero (by have := qr_pos a; omega) (q_num nz)) ?_ ?_
  · rw [Int.natAbs_mul, Nat.pow_add]
    exact Nat.mul_lt_mul'' h1.1 h2.2
  · rw [Int.natAbs_mul, Nat.pow_add]
    exact Nat.mul_lt_mul'' h1.2 h2.1
theorem rv_div {C CB : Addr} {H : Hp} {x y : V} {a b : Qr} {n : Nat} {Q : VK} {E : XK} (h : RV C H x a) (g : RV C H y b) (s1 : Szq n a) (s2 : Szq n b) (nz : b ≠ 0) (n0 : 0 < n) (n1 : n ≤ 4000) (k : ∀ r H', Same H H' → RV C H' r (a / b) → Q r H') : spDiv C CB [x, y] H Q E :=
  ⟨x, y, _, _, _, _, n, rfl, h, .rat g, s1, s2, n0, n1, fun _ r p q H' s R nf => k r H' s (by rw [← q_div]; exact rv_nf (Int.mul_ne_zero (by have := qr_pos a; omega) (q_num nz)) nf R), fun z => absurd z (q_num nz)⟩
theorem break_sz {K : PySem.W.Frag} {C CR : Addr} {H : Hp} {v : V} {l : List (Int × Int)} (G : Chs K C CR H v l) {m : Nat} (hm : m < 2 ^ l.length) : Szq 400 (breakQ l m) := by
  have a := alone_pos G.pos G.len.2.2 hm
  have b := alone_pos G.pos G.len.2.2 (m := 2 ^ l.length - 1 - m) (by omega)
  exact (szq_quo (G.aloneSz m) (szq_add (G.aloneSz m) (G.aloneSz (2 ^ l.length - 1 - m))) (by grind)).mono (by decide)
/-! promises of the curve -/
def spBreak (K : PySem.W.Frag) (C CR : Addr) : Sp := fun vs H Q _ => ∃ c y l m, vs = [c, y] ∧ Chs K C CR H c l ∧ m < 2 ^ l.length ∧ Lot K H m y ∧ ∀ r H', Same H H' → RV CR H' r (breakQ l m) → Q r H'
/-- a lot with its break -/
def BrT (K : PySem.W.Frag) (CR : Addr) (l : List (Int × Int)) (H : Hp) (m : Nat) (v : V) : Prop := ∃ t y r, v = .ref t ∧ SqT K H t [y, r] ∧ Lot K H m y ∧ RV CR H r (breakQ l m)
def spBreaks0 (K : PySem.W.Frag) (C CR : Addr) : Sp := fun vs H Q _ => ∃ c l, vs = [c] ∧ Chs K C CR H c l ∧ ∀ p ys H', Same H H' → H' p = some (.lst ys) → Paired (fun m y => BrT K CR l H' m y) (midL l.length) ys → Q (.ref p) H'
def spBreaks (K : PySem.W.Frag) (C CR : Addr) : Sp := fun vs H Q _ => ∃ c l, vs = [c] ∧ Chs K C CR H c l ∧ ∀ p ys H', Same H H' → H' p = some (.lst ys) → Paired (fun t y => RV CR H' y t) (breaksL l) ys → Q (.ref p) H'
theorem BrT.sameT {K : PySem.W.Frag} {CR : Addr} {l : List (Int × Int)} {H H' : Hp} {m : Nat} {v : V} (h : BrT K CR l H m v) (e : SameT H H') : BrT K CR l H' m v := by
  obtain ⟨t, y, r, rfl, hT, hL, R⟩ := h
  exact ⟨t, y, r, rfl, e.seqT hT, hL.sameT e, ratT R e⟩
theorem dvd_no1 : ¬ (("divided" : Str) = "under") := by decide +kernel
theorem dvd_no2 : ¬ (("divided" : Str) = "over") := by decide +kernel
theorem filt_le {xs : List Qr} (t : Qr) : (xs.filter fun x => decide (x < t)).length ≤ xs.length := List.length_filter_le _ _
theorem insB_len (xs : List Qr) (t : Qr) : (insB xs t).length ≤ xs.length + 1 := by
  unfold insB
  simp only
  split
  · simp
    omega
  · omega
theorem midL_map (n : Nat) : midL n = (List.range (2 ^ n - 2)).map fun i => i + 1 := by
  refine List.ext_getElem? fun i => ?_
  by_cases h : i < 2 ^ n - 2
  · rw [midL_at h, List.getElem?_map, List.getElem?_range h]
    rfl
  · rw [List.getElem?_eq_none (by rw [midL_len]; omega), List.getElem?_eq_none (by simp; omega)]
theorem rv_neD {K : PySem.W.Frag} {C : Addr} {H : Hp} {x y : V} {a b : Qr} {Q : VK} {E : XK} (T : InsC K C) (h : RV C H x a) (g : RV C H y b) (k : Q (.bl (!decide (a = b))) H) : rOwnNe K C (spEqR K C) E x y H Q :=
  ⟨h.isC, ⟨_, g.ty T, by simp [PySem.W.notFirst]⟩, x, y, _, _, rfl, h, .inl ⟨_, _, g, by
    have e : (decide (a.num = b.num) && decide ((a.den : Int) = b.den)) = decide (a = b) := by
      rw [Bool.eq_iff_iff, Bool.and_eq_true, decide_eq_true_eq, decide_eq_true_eq, decide_eq_true_eq]
      exact ⟨fun z => _root_.Rat.ext z.1 (by omega), fun z => by rw [z]; exact ⟨rfl, rfl⟩⟩
    rw [e]
    exact ⟨_, rfl, k⟩⟩⟩
theorem fold_len : ∀ (ts xs : List Qr), (ts.foldl insB xs).length ≤ xs.length + ts.length
  | [], xs => by simp
  | t :: ts, xs => by
    have h1 := fold_len ts (insB xs t)
    have h2 := insB_len xs t
    rw [List.foldl_cons, List.length_cons]
    omega
theorem rng_filter (ts : List Qr) (t : Qr) : (List.range ts.length).filterMap (fun i => if decide (ts.getD i 0 < t) = true then some (ts.getD i 0) else none) = ts.filter fun x => decide (x < t) := by
  have e : (List.range ts.length).map (fun i => ts.getD i 0) = ts := by
    refine List.ext_getElem? fun i => ?_
    by_cases h : i < ts.length
    · rw [List.getElem?_map, List.getElem?_range h, Option.map_some, List.getD_eq_getElem?_getD, List.getElem?_eq_getElem h]
      rfl
    · rw [List.getElem?_eq_none (by simp; omega), List.getElem?_eq_none (by omega)]
  have f : ∀ xs : List Qr, xs.filterMap (fun x => if decide (x < t) = true then some x else none) = xs.filter fun x => decide (x < t) := fun xs => by
    induction xs with
    | nil => rfl
    | cons a xs ih =>
      rw [List.filterMap_cons, List.filter_cons, ih]
      cases decide (a < t) <;> rfl
  have g := f ((List.range ts.length).map fun i => ts.getD i 0)
  rw [List.filterMap_map, e] at g
  exact g
/-! ### strict writes, mirrored shares, alike copies: the mathematics -/
section
variable {l : List (Int × Int)} {r : Qr} (h : ∀ x ∈ l, 0 < x.2) (ok : ∀ x ∈ l, chanceOk x.1 x.2 = true) (r0 : 0 ≤ r) (r1 : r ≤ 1) (n1 : 1 ≤ l.length) (n8 : l.length ≤ 8)
include h ok n1 n8
include r0 r1
theorem least_dual : r * upQ l (dualB l.length (upB (bestL l r false))) + (1 - r) * upQ l (upB (bestL l r false)) = mostQ l r :=
  (worth_most h ok r0 r1 (fm_best n1 n8)).2.mpr ⟨leB_iff.mpr fun _ _ x => x, leB_iff.mpr fun m hm x => by
    rw [upB_iff] at x ⊢
    obtain ⟨k, hk, s⟩ := x
    refine ⟨k, ?_, s⟩
    rcases List.mem_cons.mp hk with rfl | z
    · exact List.mem_cons_self
    · obtain ⟨z1, z2⟩ := List.mem_filter.mp z
      refine List.mem_cons_of_mem _ (List.mem_filter.mpr ⟨z1, ?_⟩)
      unfold upper at z2 ⊢
      rw [if_neg (by decide)] at z2
      rw [if_pos rfl]
      have := of_decide_eq_true z2
      exact decide_eq_true (by grind)⟩
theorem most_le_mirror : mostQ l r ≤ mostQ l (1 - r) := by
  have e := least_dual h ok r0 r1 n1 n8
  have F := fm_best (l := l) (r := r) (b := false) n1 n8
  have z := (worth_most (r := 1 - r) h ok (by grind) (by grind) F.dual).1
  have dd : upQ l (dualB l.length (dualB l.length (upB (bestL l r false)))) = upQ l (upB (bestL l r false)) := by
    rw [up_sum l _ (by have := prodU_pos h; omega), up_sum l _ (by have := prodU_pos h; omega)]
    exact sumQ_congr _ fun m hm => by rw [dd hm]
  rw [dd] at z
  grind
end
theorem most_mirror {l : List (Int × Int)} {r : Qr} (h : ∀ x ∈ l, 0 < x.2) (ok : ∀ x ∈ l, chanceOk x.1 x.2 = true) (r0 : 0 ≤ r) (r1 : r ≤ 1) (n1 : 1 ≤ l.length) (n8 : l.length ≤ 8) : mostQ l r = mostQ l (1 - r) := by
  have a := most_le_mirror h ok r0 r1 n1 n8
  have b := most_le_mirror (r := 1 - r) h ok (by grind) (by grind) n1 n8
  rw [show 1 - (1 - r) = r by grind] at b
  grind
/-! #### alike copies -/
def pop (m : Nat) : Nat := (oneL m).length
def pQ (r : Int × Int) : Nat → Nat → Qr
  | 0, _ => 1
  | n + 1, 0 => facQ r false * pQ r n 0
  | n + 1, k + 1 => facQ r true * pQ r n k
section
variable {n : Nat} {x : Int × Int} {r : Qr}
end
/-! ### laws of the most that is possible: helpers -/
theorem ratS {K : PySem.W.Frag} {CR : Addr} {H H' : Hp} {r : Qr} {y : V} (h : ShOf K CR H (some r) y) (e : SameT H H') : ShOf K CR H' (some r) y := ⟨ratT h.1 e, h.2⟩
/-! ### an own thing called: x(e, ..) -/
theorem callWith_I {M : Model} {A : Around} {E : Value → Shared → Prop} {s : Shared} {pos : Pos} {x C : Addr} {Q : Value → Shared → Prop} {args : List (Bool × Sem Value)} (hst : (args.any (·.1)) = false)
    (h : wpAny M A (spliced args) (fun vs s1 => (∃ ox od, PySem.W.InstAt s1.heap x ox C od ∧ ox.data = .plain) ∧ wpAny M A (call (.ref x) vs) Q E s1) E s) : wpAny M A (callWith pos (.ref x) [] args []) Q E s := by
  unfold callWith
  refine wpAny_bind (wpAny_holding (FK.evalArgs_any hst (thn h fun vs s1 ⟨⟨ox, od, J, hp⟩, hc⟩ => ?_)))
  refine wpAny_bind (wpAny_standAt ?_)
  simp only [hst, List.any_nil, Bool.or_false, List.nil_append]
  refine wpAny_bind (PySem.W.kco_keeper (M := M) J hp A _ _ s1 (fun _ _ z => z) ?_)
  simp only []
  refine wpAny_bind (wpAny_operate' ?_)
  refine thn hc fun v s2 q => ?_
  exact wpAny_bind (wpAny_holding (wpAny_point (wpAny_pure q)))
section
variable {X : Cx} {CX : CXT} {k : Nat} {f C : Addr} {fd : FuncData} {ps : List Str} {sp : Sp} {E : XK}
/-- x(e, ..) of an own thing: its class's own __call__ -/
def tCallI (C : Addr) (sp : Sp) (E : XK) (tf : TE) (t : TA) : TE := fun σ H Q => tf σ H fun x H1 => IsC C H1 x ∧ t σ H1 fun vs H2 => IsC C H2 x ∧ sp (x :: vs) H2 Q E
theorem run_callI {pins : List (Addr × Obj)} {s : Shared} {σ : L2.St} {H : Hp} {Q : VK} {x : Addr} {pos : Pos} {e : Expr} {es : List Expr} {t : TA} (hs : PySem.W.findIn X.K (.ref C) "__call__" = some (some (.ref f))) (hf : PySem.W.isFn X.K (.ref f) = true) (hfn : PySem.W.fnIn X.K f = true) (F : FnOk X.prog X.w X.K X.mg X.base CX k f fd ps sp) (hr : Room k X.A) (hb : Binds X.K fd ps []) (hx : Passes CX X E) (ha : PA X (e :: es) t)
    (I : Inv X pins σ H s) (h : t σ H fun vs H2 => IsC C H2 (.ref x) ∧ sp (.ref x :: vs) H2 Q E) (he : ((backTo pos (starEach (e :: es) X.env)).any (·.1)) = false) :
    wpAny (model X.prog X.w) X.A (callWith pos (.ref x) [] (backTo pos (starEach (e :: es) X.env)) []) (EP X pins σ Q) X.xe s := by
  refine callWith_I (C := C) he (thn (ha.run pos pins s σ H _ I h) fun us t ⟨vs, H1, I1, r, ⟨a, dx, fs, ea, hca⟩, q⟩ => ?_)
  cases ea
  obtain ⟨oa, J⟩ := inst_of I1 hca
  refine ⟨⟨_, _, J, rfl⟩, wpAny_call ?_⟩
  refine PySem.W.kco_code I1.kIn J rfl hs hf hfn ?_
  have rv : Vals (V.ref x :: vs) (Value.ref x :: us) := .cons rfl r
  have hl : (Value.ref x :: us ++ []).length = ps.length := by rw [List.append_nil, ← rv.length]; exact F.len _ _ _ _ q
  have hbind := hb t (Value.ref x :: us) I1.kIn hl
  rw [List.append_nil] at hbind
  refine codeAny_mono (F.run X.A X.stack t H1 ⟨Value.ref x :: us, []⟩ (Value.ref x :: us) (V.ref x :: vs) Q E hr I1.env0 hbind rv q) fun r s' hq => ?_
  cases r with
  | error e => exact hx pins σ H1 t e s' I1 hq
  | ok fl =>
    cases fl with
    | ret u => exact I1.after hq
    | next => exact False.elim hq
    | brk => exact False.elim hq
    | cont => exact False.elim hq
theorem pe_callI {g : Expr} {e : Expr} {es : List Expr} {tf : TE} {t : TA} {pos : Pos} (hs : PySem.W.findIn X.K (.ref C) "__call__" = some (some (.ref f))) (hf : PySem.W.isFn X.K (.ref f) = true) (hfn : PySem.W.fnIn X.K f = true) (F : FnOk X.prog X.w X.K X.mg X.base CX k f fd ps sp) (hr : Room k X.A) (hb : Binds X.K fd ps []) (hx : Passes CX X E) (hg : PE X g tf) (ha : PA X (e :: es) t)
    (ev : eval (.Call g (e :: es) [] pos) X.env = (eval g X.env >>= fun v => callWith pos v [] (backTo pos (starEach (e :: es) X.env)) []) := by rfl) (he : ((backTo pos (starEach (e :: es) X.env)).any (·.1)) = false := by rfl) : PE X (.Call g (e :: es) [] pos) (tCallI C sp E tf t) := by
  refine ⟨fun pins s σ H Q I h => ?_⟩
  rw [ev]
  refine wpAny_bind (thn (hg.run pins s σ H _ I h) fun v s1 ⟨y, H1, I1, r, ⟨a, dx, fs, ey, hca⟩, q⟩ => ?_)
  subst ey
  cases (show v = Value.ref a from r)
  exact run_callI hs hf hfn F hr hb hx ha I1 q he
end
/-! ### the curve: the mathematics -/
/-- the bounds of the rows -/
def bndL (l : List (Int × Int)) : List Qr := 0 :: (breaksL l ++ [1])
def bnd (l : List (Int × Int)) (i : Nat) : Qr := (bndL l).getD i 0
/-- the writes of the row that begins at t -/
def wriB (l : List (Int × Int)) (t : Qr) : Nat → Bool := upB (bestL l t false)
def heightQ (l : List (Int × Int)) (t : Qr) : Qr := upQ l (wriB l t)
def slopeQ (l : List (Int × Int)) (t : Qr) : Qr := upQ l (dualB l.length (wriB l t)) - upQ l (wriB l t)
theorem bndL_len (l : List (Int × Int)) : (bndL l).length = (breaksL l).length + 2 := by
  unfold bndL
  simp
theorem bnd_at {l : List (Int × Int)} {i : Nat} (h : i < (breaksL l).length + 2) : (bndL l)[i]? = some (bnd l i) := by
  unfold bnd
  rw [List.getD_eq_getElem?_getD, List.getElem?_eq_getElem (by rw [bndL_len]; exact h)]
  rfl
theorem bnd_0 (l : List (Int × Int)) : bnd l 0 = 0 := rfl
theorem bnd_last (l : List (Int × Int)) : bnd l ((breaksL l).length + 1) = 1 := by
  have := bnd_at (l := l) (i := (breaksL l).length + 1) (by omega)
  unfold bndL at this
  rw [List.getElem?_cons_succ, List.getElem?_append_right (Nat.le_refl _), Nat.sub_self] at this
  exact (Option.some.inj this).symm
theorem bnd_mid {l : List (Int × Int)} {i : Nat} (h : i < (breaksL l).length) : (breaksL l)[i]? = some (bnd l (i + 1)) := by
  have := bnd_at (l := l) (i := i + 1) (by omega)
  unfold bndL at this
  rwa [List.getElem?_cons_succ, List.getElem?_append_left h] at this
section
variable {l : List (Int × Int)} (h : ∀ x ∈ l, 0 < x.2) (ok : ∀ x ∈ l, chanceOk x.1 x.2 = true)
include h ok
theorem bnd_asc : Asc (bndL l) := by
  have in01 : ∀ x ∈ breaksL l, 0 < x ∧ x < 1 := fun x hx => by
    obtain ⟨m, hm, rfl⟩ := (breaks_mem l x).mp hx
    have := midL_iff.mp hm
    have z := break_bounds h ok (m := m) (by omega)
    exact ⟨z.1, z.2.1⟩
  unfold bndL Asc
  refine List.pairwise_cons.mpr ⟨fun a ha => ?_, List.pairwise_append.mpr ⟨breaks_asc l, by simp, fun a ha b hb => ?_⟩⟩
  · rcases List.mem_append.mp ha with z | z
    · exact (in01 a z).1
    · obtain rfl : a = 1 := by simpa using z
      decide
  · obtain rfl : b = 1 := by simpa using hb
    exact (in01 a ha).2
theorem bnd_lt {i j : Nat} (ij : i < j) (hj : j < (breaksL l).length + 2) : bnd l i < bnd l j := by
  obtain ⟨h1, h2⟩ := List.getElem?_eq_some_iff.mp (bnd_at (l := l) (i := i) (by omega))
  obtain ⟨h3, h4⟩ := List.getElem?_eq_some_iff.mp (bnd_at hj)
  have := (List.pairwise_iff_getElem.mp (bnd_asc h ok)) i j h1 h3 ij
  rwa [h2, h4] at this
theorem bnd_range {i : Nat} (hi : i < (breaksL l).length + 2) : 0 ≤ bnd l i ∧ bnd l i ≤ 1 := by
  constructor
  · cases i with
    | zero => rw [bnd_0]; decide
    | succ i =>
      have := bnd_lt h ok (i := 0) (j := i + 1) (by omega) hi
      rw [bnd_0] at this
      grind
  · by_cases e : i = (breaksL l).length + 1
    · rw [e, bnd_last]; decide
    · have := bnd_lt h ok (i := i) (j := (breaksL l).length + 1) (by omega) (by omega)
      rw [bnd_last] at this
      grind
omit h ok in
theorem bnd_break {m : Nat} (hm : m ∈ midL l.length) : ∃ j, 0 < j ∧ j ≤ (breaksL l).length ∧ bnd l j = breakQ l m := by
  obtain ⟨i, hi⟩ := List.mem_iff_getElem?.mp ((breaks_mem l (breakQ l m)).mpr ⟨m, hm, rfl⟩)
  have lt := (List.getElem?_eq_some_iff.mp hi).1
  rw [bnd_mid lt] at hi
  exact ⟨i + 1, by omega, by omega, Option.some.inj hi⟩
omit h ok in
theorem break_bnd {i : Nat} (h0 : 0 < i) (hi : i ≤ (breaksL l).length) : ∃ m ∈ midL l.length, breakQ l m = bnd l i := by
  have := bnd_mid (l := l) (i := i - 1) (by omega)
  rw [show i - 1 + 1 = i by omega] at this
  exact (breaks_mem l _).mp (List.mem_of_getElem? this)
theorem bnd_next {i m : Nat} (hi : i ≤ (breaksL l).length) (hm : m ∈ midL l.length) (z : bnd l i < breakQ l m) : bnd l (i + 1) ≤ breakQ l m := by
  obtain ⟨j, j0, j1, e⟩ := bnd_break hm
  rw [← e] at z ⊢
  rcases Nat.lt_trichotomy i j with q | q | q
  · rcases Nat.eq_or_lt_of_le (show i + 1 ≤ j by omega) with w | w
    · rw [w]
      grind
    · have := bnd_lt h ok w (by omega)
      grind
  · subst q
    grind
  · have := bnd_lt h ok q (by omega)
    grind
theorem upper_break {m : Nat} (hm : m < 2 ^ l.length) (r : Qr) : upper l r false m = decide (r < breakQ l m) ∧ upper l r true m = decide (r ≤ breakQ l m) := by
  have g := gain_break h ok hm r
  have a := alone_pos h ok hm
  have b := alone_pos h ok (m := 2 ^ l.length - 1 - m) (by omega)
  have s : 0 < aloneQ l m + aloneQ l (2 ^ l.length - 1 - m) := by grind
  unfold upper
  rw [if_neg (by decide : ¬ (false = true)), if_pos rfl, g]
  generalize aloneQ l m + aloneQ l (2 ^ l.length - 1 - m) = y at *
  generalize breakQ l m = x at *
  constructor
  · refine decide_eq_decide.mpr ⟨fun z => ?_, fun z => _root_.Rat.mul_pos (by grind) s⟩
    rcases _root_.Rat.le_total (a := x) (b := r) with w | w
    · have := _root_.Rat.mul_le_mul_of_nonneg_right (show x - r ≤ 0 by grind) (c := y) (by grind)
      grind
    · by_cases e : x = r
      · rw [e] at z
        grind
      · grind
  · refine decide_eq_decide.mpr ⟨fun z => ?_, fun z => _root_.Rat.mul_nonneg (by grind) (by grind)⟩
    rcases _root_.Rat.le_total (a := r) (b := x) with w | w
    · exact w
    · by_cases e : x = r
      · grind
      · have := _root_.Rat.mul_pos (show 0 < r - x by grind) s
        grind
theorem wri_iff {t : Qr} (t0 : 0 ≤ t) (t1 : t ≤ 1) (n1 : 1 ≤ l.length) {m : Nat} (m0 : 0 < m) (hm : m < 2 ^ l.length - 1) : wriB l t m = decide (t < breakQ l m) := by
  unfold wriB
  rw [best_iff h ok t0 t1 n1 m0 hm, (upper_break h ok (by omega) t).1]
omit h ok in
theorem wri_fm (t : Qr) (n1 : 1 ≤ l.length) (n8 : l.length ≤ 8) : Fm l.length (wriB l t) := fm_best n1 n8
/-- two families that agree on the middle lots agree -/
theorem leB_mid {n : Nat} {f g : Nat → Bool} (F : Fm n f) (G : Fm n g) (k : ∀ m, 0 < m → m < 2 ^ n - 1 → f m = true → g m = true) : leB n f g = true := by
  rw [leB_iff]
  intro m hm z
  by_cases m0 : m = 0
  · subst m0
    rw [F.bot] at z
    cases z
  by_cases mt : m = 2 ^ n - 1
  · subst mt
    exact G.top
  exact k m (by omega) (by omega) z
theorem cur_most {i : Nat} (hi : i ≤ (breaksL l).length) {r : Qr} (r0 : bnd l i ≤ r) (r1 : r ≤ bnd l (i + 1)) (n1 : 1 ≤ l.length) (n8 : l.length ≤ 8) : heightQ l (bnd l i) + slopeQ l (bnd l i) * r = mostQ l r := by
  have ra := bnd_range h ok (i := i) (by omega)
  have rb := bnd_range h ok (i := i + 1) (by omega)
  have W := wri_fm (l := l) (bnd l i) n1 n8
  have z := (worth_most (r := r) h ok (by grind) (by grind) W).2.mpr ⟨?_, ?_⟩
  · unfold heightQ slopeQ
    rw [← z]
    grind
  · refine leB_mid h ok (fm_best n1 n8) W fun m m0 mt z => ?_
    rw [best_iff h ok (by grind) (by grind) n1 m0 mt, (upper_break h ok (by omega) r).1] at z
    rw [wri_iff h ok ra.1 ra.2 n1 m0 mt]
    have := of_decide_eq_true z
    exact decide_eq_true (by grind)
  · refine leB_mid h ok W (fm_best n1 n8) fun m m0 mt z => ?_
    rw [wri_iff h ok ra.1 ra.2 n1 m0 mt] at z
    rw [best_iff h ok (by grind) (by grind) n1 m0 mt, (upper_break h ok (by omega) r).2]
    have := bnd_next h ok hi (midL_iff.mpr ⟨m0, mt⟩) (of_decide_eq_true z)
    exact decide_eq_true (by grind)
end
/-! promises of the curve -/
def RowT (K : PySem.W.Frag) (CR CF : Addr) (l : List (Int × Int)) (H : Hp) (i : Nat) (v : V) : Prop := ∃ t a b s g w, v = .ref t ∧ SqT K H t [a, b, s, g, w] ∧ RV CR H a (bnd l i) ∧ RV CR H b (bnd l (i + 1)) ∧ RV CR H s (slopeQ l (bnd l i)) ∧ RV CR H g (heightQ l (bnd l i)) ∧ Fam K CF H w l.length (wriB l (bnd l i))
theorem RowT.sameT {K : PySem.W.Frag} {CR CF : Addr} {l : List (Int × Int)} {H H' : Hp} {i : Nat} {v : V} (h : RowT K CR CF l H i v) (e : SameT H H') : RowT K CR CF l H' i v := by
  obtain ⟨t, a, b, s, g, w, rfl, hT, h1, h2, h3, h4, h5⟩ := h
  exact ⟨t, a, b, s, g, w, rfl, e.seqT hT, ratT h1 e, ratT h2 e, ratT h3 e, ratT h4 e, h5.sameT e⟩
theorem RowT.same {K : PySem.W.Frag} {CR CF : Addr} {l : List (Int × Int)} {H H' : Hp} {i : Nat} {v : V} (h : RowT K CR CF l H i v) (e : Same H H') : RowT K CR CF l H' i v := h.sameT (Same.toT e)
theorem fam_exc {K : PySem.W.Frag} {C CC : Addr} {H H' : Hp} {v : V} {n : Nat} {f : Nat → Bool} {a dx : Addr} {fs : List (Str × V)} (lo : fs.lookup ("lots" : Str) = none) (ha : H a = some (.ins CC dx fs)) (e : Exc a H H') (F : Fam K C H v n f) : Fam K C H' v n f := by
  obtain ⟨⟨b, dy, tl, tm, ls, rfl, h1, h2, h3, ob, h4, h6⟩, h5⟩ := F
  refine ⟨⟨b, dy, tl, tm, ls, rfl, e b _ (fun z => ?_) h1, seqT_exc ha e h2, prImp (fun _ _ h => h.exc ha e) h3, ob, e tm _ (fun z => by rw [z, ha] at h4; cases h4) h4, h6⟩, h5⟩
  rw [z, ha] at h1
  injection h1 with h1
  injection h1 with _ _ h1
  rw [h1] at lo
  unfold famF at lo
  rw [lookup_putF, if_neg (by decide +kernel), lookup_putF, if_pos rfl] at lo
  cases lo
theorem RowT.exc {K : PySem.W.Frag} {CR CF CC : Addr} {l : List (Int × Int)} {H H' : Hp} {i : Nat} {v : V} {a dx : Addr} (h : RowT K CR CF l H i v) (ha : H a = some (.ins CC dx [])) (e : Exc a H H') : RowT K CR CF l H' i v := by
  obtain ⟨t, x, b, s, g, w, rfl, hT, h1, h2, h3, h4, h5⟩ := h
  exact ⟨t, x, b, s, g, w, rfl, seqT_exc ha e hT, rat_exc rfl ha e h1, rat_exc rfl ha e h2, rat_exc rfl ha e h3, rat_exc rfl ha e h4, fam_exc rfl ha e h5⟩
def curF (tr : Addr) : List (Str × V) := putF "rows" (.ref tr) []
theorem curF_rows (tr : Addr) : (curF tr).lookup ("rows" : Str) = some (.ref tr) := by
  unfold curF
  rw [lookup_putF, if_pos rfl]
def Cur (K : PySem.W.Frag) (CC C CR CF : Addr) (H : Hp) (v : V) (l : List (Int × Int)) : Prop := ∃ a dx tr ys, v = .ref a ∧ H a = some (.ins CC dx (curF tr)) ∧ SqT K H tr ys ∧ Paired (fun i y => RowT K CR CF l H i y) (List.range ((breaksL l).length + 1)) ys ∧ ∃ H0 c, Chs K C CR H0 c l
section
variable {K : PySem.W.Frag} {CC C CR CF : Addr} {H H' : Hp} {v : V} {l : List (Int × Int)}
theorem Cur.sameT (h : Cur K CC C CR CF H v l) (e : SameT H H') : Cur K CC C CR CF H' v l := by
  obtain ⟨a, dx, tr, ys, rfl, ha, h2, h3, h4⟩ := h
  exact ⟨a, dx, tr, ys, rfl, e.ins ha, e.seqT h2, prImp (fun _ _ z => z.sameT e) h3, h4⟩
theorem Cur.same (h : Cur K CC C CR CF H v l) (e : Same H H') : Cur K CC C CR CF H' v l := h.sameT (Same.toT e)
theorem Cur.isC (h : Cur K CC C CR CF H v l) : IsC CC H v := by
  obtain ⟨a, dx, tr, ys, rfl, ha, _⟩ := h
  exact ⟨a, dx, _, rfl, ha⟩
theorem breaks_le (G : Chs K C CR H v l) : (breaksL l).length ≤ 254 := by
  obtain ⟨n1, n8, ok⟩ := G.len
  have n256 := pow_le8 n8
  unfold breaksL
  have := fold_len ((midL l.length).map (breakQ l)) []
  rw [List.length_map, midL_len, List.length_nil] at this
  omega
theorem bnd_sz (G : Chs K C CR H v l) {i : Nat} (hi : i < (breaksL l).length + 2) : Szq 400 (bnd l i) := by
  by_cases i0 : i = 0
  · rw [i0, bnd_0]
    exact ⟨by decide +kernel, by decide +kernel⟩
  by_cases il : i = (breaksL l).length + 1
  · rw [il, bnd_last]
    exact ⟨by decide +kernel, by decide +kernel⟩
  obtain ⟨m, hm, e⟩ := break_bnd (l := l) (i := i) (by omega) (by omega)
  rw [← e]
  have := midL_iff.mp hm
  exact break_sz G (by omega)
theorem height_sz (G : Chs K C CR H v l) (t : Qr) : Szq 100 (heightQ l t) := G.upSz _
theorem slope_sz (G : Chs K C CR H v l) (t : Qr) : Szq 201 (slopeQ l t) := szq_sub (G.upSz _) (G.upSz _)
end
def spPiece (K : PySem.W.Frag) (C CR CF : Addr) : Sp := fun vs H Q _ => ∃ c p a b l ys i, vs = [c, .ref p, a, b] ∧ Chs K C CR H c l ∧ SqL K H p ys ∧ Paired (fun m y => BrT K CR l H m y) (midL l.length) ys ∧ i ≤ (breaksL l).length ∧ RV CR H a (bnd l i) ∧ RV CR H b (bnd l (i + 1)) ∧
  ∀ r H', Same H H' → RowT K CR CF l H' i r → Q r H'
def spCurve0 (K : PySem.W.Frag) (CC C CR CF : Addr) : Sp := fun vs H Q _ => ∃ a dx c l, vs = [.ref a, c] ∧ H a = some (.ins CC dx []) ∧ Chs K C CR H c l ∧ ∀ H', (∀ b o, H b = some o → b ≠ a → H' b = some o) → Cur K CC C CR CF H' (.ref a) l → Q .non H'
theorem mk_curve {K : PySem.W.Frag} {CC C CR CF : Addr} {H : Hp} {c : V} {l : List (Int × Int)} {Q : Addr → Hp → Prop} {E : XK} (G : Chs K C CR H c l) (k : ∀ a H', Same H H' → Cur K CC C CR CF H' (.ref a) l → Q a H') :
    ∀ x dx, H x = none → H dx = none → dx ≠ x → spCurve0 K CC C CR CF [.ref x, c] (upd (upd H dx (.own x)) x (.ins CC dx [])) (fun v H2 => v = .non ∧ Q x H2) E := by
  intro x dx nx nd ne
  have s0 : Same H (upd (upd H dx (.own x)) x (.ins CC dx [])) := fun b o e => by
    rw [upd_ne (ne_of_none e nx), upd_ne (ne_of_none e nd)]
    exact e
  exact ⟨x, dx, c, l, rfl, upd_same, G.same s0, fun H' k0 U => ⟨rfl, k x H' (fun b o e => k0 b o (s0 b o e) (ne_of_none e nx)) U⟩⟩
def spCurCall (K : PySem.W.Frag) (CC C CR CF CB : Addr) : Sp := fun vs H Q E => ∃ x s l o, vs = [x, s] ∧ Cur K CC C CR CF H x l ∧ ShOf K CR H o s ∧ (shOk o = false → Err CB H E "share" s) ∧
  ∀ r, o = some r → shareOk r = true → ∀ v H', Same H H' → RV CR H' v (mostQ l r) → Q v H'
def spCurLeast (K : PySem.W.Frag) (CC C CR CF CB : Addr) : Sp := fun vs H Q E => ∃ x s l o, vs = [x, s] ∧ Cur K CC C CR CF H x l ∧ ShOf K CR H o s ∧ (shOk o = false → Err CB H E "share" s) ∧
  ∀ r, o = some r → shareOk r = true → ∀ v H', Same H H' → Fam K CF H' v l.length (upB (bestL l r false)) → Q v H'
def spCurLen (K : PySem.W.Frag) (CC C CR CF : Addr) : Sp := fun vs H Q _ => ∃ x l, vs = [x] ∧ Cur K CC C CR CF H x l ∧ Q (.int ((breaksL l).length + 1 : Nat)) H
/-- a curve whose rows are these -/
def CurR (K : PySem.W.Frag) (CC C CR CF : Addr) (H : Hp) (v : V) (l : List (Int × Int)) (ys : List V) : Prop := ∃ a dx tr, v = .ref a ∧ H a = some (.ins CC dx (curF tr)) ∧ SqT K H tr ys ∧ Paired (fun i y => RowT K CR CF l H i y) (List.range ((breaksL l).length + 1)) ys ∧ ∃ H0 c, Chs K C CR H0 c l
def spCurGet (K : PySem.W.Frag) (CC C CR CF CB : Addr) : Sp := fun vs H Q E => ∃ x c l ys, vs = [x, c] ∧ CurR K CC C CR CF H x l ys ∧ scalV c = true ∧ (∀ n : Nat, c = .int n → ∀ y, ys[n]? = some y → Q y H) ∧ (copyOk ((breaksL l).length + 1) c = false → Err CB H E "place" c)
theorem fit_ex {l : List (Int × Int)} {r : Qr} (r0 : 0 ≤ r) : ∀ k : Nat, r ≤ bnd l (k + 1) → ∃ i, i ≤ k ∧ bnd l i ≤ r ∧ r ≤ bnd l (i + 1)
  | 0, h => ⟨0, Nat.le_refl _, by rw [bnd_0]; exact r0, h⟩
  | k + 1, h => by
    rcases _root_.Rat.le_total (a := r) (b := bnd l (k + 1)) with z | z
    · obtain ⟨i, h1, h2⟩ := fit_ex r0 k z
      exact ⟨i, by omega, h2⟩
    · exact ⟨k + 1, Nat.le_refl _, z, h⟩
theorem filt_map (b : Nat → Bool) (n : Nat) : (List.range n).filterMap (fun i => if b i = true then some i else none) = (List.range n).filter b := by
  induction n with
  | zero => rfl
  | succ k ih =>
    rw [List.range_succ, List.filterMap_append, ih, List.filter_append]
    congr 1
    cases e : b k <;> simp [e]
theorem rv_le {K : PySem.W.Frag} {C : Addr} {H : Hp} {x y : V} {a b : Qr} {n : Nat} {Q : VK} {E : XK} (T : InsC K C) (h : RV C H x a) (g : RV C H y b) (s1 : Szq n a) (s2 : Szq n b) (n0 : 0 < n) (n1 : n ≤ 4000) (k : ∀ H', Same H H' → Q (.bl (decide (a ≤ b))) H') : rOwnC K C (spOrd C fun x y => decide (x ≤ y)) E x y H Q :=
  ⟨h.isC, ⟨_, g.ty T, by simp [PySem.W.notFirst]⟩, x, y, _, _, _, _, n, rfl, h, .rat g, s1, s2, n0, n1, fun H' s => by
    show Q (.bl (decide (a.num * (b.den : Int) ≤ b.num * (a.den : Int)))) H'
    rw [show decide (a.num * (b.den : Int) ≤ b.num * (a.den : Int)) = decide (a ≤ b) from decide_eq_decide.mpr (_root_.Rat.le_iff a b).symm]
    exact k H' s⟩
/-- a share's other side is a share -/
theorem share_of {o u : Int} (h1 : 1 ≤ u) (h2 : u ≤ 1000) (h3 : 0 ≤ o) (h4 : o ≤ u) : shareOk (qd o u) = true := by
  have hU : u ≠ 0 := by omega
  obtain ⟨_, _, nf⟩ := nf_make (O := o) hU rfl
  obtain ⟨e1, e2⟩ := nf_q hU nf
  rw [e1, e2] at nf
  have h1' := nf.pos
  have h2' := nf.eq
  have h3' := nf.le2
  generalize qd o u = s at h1' h2' h3'
  have n0 : 0 ≤ s.num := by
    refine Int.le_of_mul_le_mul_right (a := u) ?_ (by omega)
    rw [h2', Int.zero_mul]
    exact Int.mul_nonneg h3 (by omega)
  have n1 : s.num ≤ s.den := by
    refine Int.le_of_mul_le_mul_right (a := u) ?_ (by omega)
    rw [h2', Int.mul_comm (s.den : Int)]
    exact Int.mul_le_mul_of_nonneg_right h4 (by omega)
  unfold shareOk
  rw [decide_eq_true (p := s.den ≤ 1000) (by omega), decide_eq_true (p := (0 : Qr) ≤ s) ((_root_.Rat.le_iff 0 s).mpr (by rw [q0n, q0d]; omega)), decide_eq_true (p := s ≤ (1 : Qr)) ((_root_.Rat.le_iff s 1).mpr (by rw [q1n, q1d]; omega))]
  rfl
theorem share_oth {r : Qr} (h : shareOk r = true) : shareOk (1 - r) = true := by
  obtain ⟨_, _, h1, h2, h3⟩ := share_num h
  have d := qr_pos r
  rw [← qr_self r, q_one_sub (by omega)]
  exact share_of (by omega) (by omega) (by omega) (by omega)
theorem shOf {K : PySem.W.Frag} {C : Addr} {H : Hp} {v : V} {r : Qr} (R : RV C H v r) (ok : shareOk r = true) : ShOf K C H (some r) v := ⟨R, (share_sz ok).mono (by decide)⟩
theorem call_of {K : PySem.W.Frag} {CC C CR CF CB : Addr} {H : Hp} {x s : V} {l : List (Int × Int)} {r : Qr} {Q : VK} {E : XK} (U : Cur K CC C CR CF H x l) (S : ShOf K CR H (some r) s) (okr : shareOk r = true) (q : ∀ v H', Same H H' → RV CR H' v (mostQ l r) → Q v H') : spCurCall K CC C CR CF CB [x, s] H Q E :=
  ⟨x, s, l, some r, rfl, U, S, fun e => absurd (okr.symm.trans e) (by decide), fun r' er _ v H' s' R => by cases er; exact q v H' s' R⟩
theorem most_of {K : PySem.W.Frag} {C CR CB : Addr} {H : Hp} {x s : V} {l : List (Int × Int)} {r : Qr} {Q : VK} {E : XK} (U : Chs K C CR H x l) (S : ShOf K CR H (some r) s) (okr : shareOk r = true) (q : ∀ v H', Same H H' → RV CR H' v (mostQ l r) → Q v H') : spMost K C CR CB [x, s] H Q E :=
  ⟨x, s, l, some r, rfl, U, S, fun e => absurd (okr.symm.trans e) (by decide), fun r' er _ v H' s' R => by cases er; exact q v H' s' R⟩
theorem bestF_of {K : PySem.W.Frag} {b : Bool} {C CR CF CB : Addr} {H : Hp} {x s : V} {l : List (Int × Int)} {r : Qr} {Q : VK} {E : XK} (U : Chs K C CR H x l) (S : ShOf K CR H (some r) s) (okr : shareOk r = true) (q : ∀ v H', Same H H' → Fam K CF H' v l.length (upB (bestL l r b)) → Q v H') : spBestF K b C CR CF CB [x, s] H Q E :=
  ⟨x, s, l, some r, rfl, U, S, fun e => absurd (okr.symm.trans e) (by decide), fun r' er _ v H' s' R => by cases er; exact q v H' s' R⟩
/-! ### chances that rise: the mathematics -/
section
variable {l : List (Int × Int)} {f : Nat → Bool} {c : Nat} {x : Int × Int} (h : ∀ y ∈ l, 0 < y.2) (ok : ∀ y ∈ l, chanceOk y.1 y.2 = true) (hx : 0 < x.2) (okx : chanceOk x.1 x.2 = true) (n1 : 1 ≤ l.length) (n8 : l.length ≤ 8) (hc : c < l.length) (hq : qd l[c].1 l[c].2 ≤ qd x.1 x.2)
include h ok hx hq
omit hq in
include okx in
include okx n1 n8
end
/-! ### the helpers of the laws that draw chances as pairs (k65 to k80) -/
def spRaw (K : PySem.W.Frag) : Sp := fun vs H Q _ => ∃ (l t : Addr) (M : Nat) (H0 : Hp), vs = [.ref l, .ref t, .int M] ∧ Drw K H0 l t H ∧ 1 ≤ M ∧ M ≤ 8 ∧
  ∀ (rs : List (Int × Int)) (ys : List V) p H', Exc t H H' → Drw K H0 l t H' → H p = none → H' p = some (.lst ys) → Paired (PrT K H') rs ys → 1 ≤ rs.length → rs.length ≤ M → (∀ r ∈ rs, goodR r) → Q (.ref p) H'
def spRatios (K : PySem.W.Frag) (CR : Addr) : Sp := fun vs H Q _ => ∃ (p : Addr) (rs : List (Int × Int)) (ys : List V), vs = [.ref p] ∧ SqL K H p ys ∧ Paired (PrT K H) rs ys ∧ rs.length ≤ 8 ∧ (∀ r ∈ rs, goodR r) ∧
  ∀ q zs H', Same H H' → H' q = some (.lst zs) → Paired (fun r y => Rat CR H' y r.1 r.2) (rs.map lowR) zs → Q (.ref q) H'
def spPower : Sp := fun vs H Q _ => ∃ n : Nat, vs = [.int n] ∧ n ≤ 8 ∧ Q (.int ((2 ^ n : Nat) : Int)) H
def spHas : Sp := fun vs H Q _ => ∃ m c : Nat, vs = [.int m, .int c] ∧ m < 256 ∧ c ≤ 8 ∧ Q (.bl (m.testBit c)) H
def spALot (K : PySem.W.Frag) : Sp := fun vs H Q _ => ∃ n m : Nat, vs = [.int n, .int m] ∧ n ≤ 8 ∧ m < 2 ^ n ∧ ∀ p H', Same H H' → SqT K H' p (lotV m) → Q (.ref p) H'
def spMade (K : PySem.W.Frag) (C CR : Addr) : Sp := fun vs H Q _ => ∃ (p : Addr) (rs : List (Int × Int)) (ys : List V), vs = [.ref p] ∧ SqL K H p ys ∧ Paired (PrT K H) rs ys ∧ 1 ≤ rs.length ∧ rs.length ≤ 8 ∧ (∀ r ∈ rs, goodR r) ∧ ∀ v H', Same H H' → Chs K C CR H' v (rs.map lowR) → Q v H'
def spSomeF (K : PySem.W.Frag) (CF : Addr) : Sp := fun vs H Q _ => ∃ (l t : Addr) (n : Nat) (H0 : Hp), vs = [.ref l, .ref t, .int n] ∧ Drw K H0 l t H ∧ 1 ≤ n ∧ n ≤ 8 ∧ ∀ v f H', Exc t H H' → Drw K H0 l t H' → Fam K CF H' v n f → Q v H'
/-! ### the other side of a share -/
section
variable {l : List (Int × Int)} {r : Qr}
theorem gain_oth {m : Nat} (hm : m < 2 ^ l.length) : gainQ l (1 - r) (2 ^ l.length - 1 - m) = - gainQ l r m := by
  unfold gainQ
  rw [show 2 ^ l.length - 1 - (2 ^ l.length - 1 - m) = m by omega]
  grind
variable (h : ∀ x ∈ l, 0 < x.2) (ok : ∀ x ∈ l, chanceOk x.1 x.2 = true) (r0 : 0 ≤ r) (r1 : r ≤ 1) (n1 : 1 ≤ l.length) (n8 : l.length ≤ 8)
include h ok r0 r1 n1 n8
theorem best_oth (b : Bool) {m : Nat} (hm : m < 2 ^ l.length) : dualB l.length (upB (bestL l r b)) m = upB (bestL l (1 - r) (!b)) m := by
  have F := fm_best (l := l) (r := r) (b := b) n1 n8
  have G := fm_best (l := l) (r := 1 - r) (b := !b) n1 n8
  have F' := F.dual
  have p2 : 2 ≤ 2 ^ l.length := Nat.pow_le_pow_right (n := 2) (i := 1) (by decide) n1
  by_cases m0 : m = 0
  · subst m0
    rw [F'.bot, G.bot]
  by_cases mt : m = 2 ^ l.length - 1
  · subst mt
    rw [F'.top, G.top]
  have e := gain_oth (l := l) (r := r) (m := 2 ^ l.length - 1 - m) (by omega)
  rw [show 2 ^ l.length - 1 - (2 ^ l.length - 1 - m) = m by omega] at e
  rw [best_iff h ok (by grind) (by grind) n1 (by omega) (by omega)]
  show (!upB (bestL l r b) (2 ^ l.length - 1 - m)) = _
  rw [best_iff h ok r0 r1 n1 (by omega) (by omega)]
  unfold upper
  rw [e]
  generalize gainQ l r (2 ^ l.length - 1 - m) = g
  cases b with
  | true =>
    simp only [Bool.not_true, if_true, if_false, Bool.false_eq_true]
    rw [Bool.eq_iff_iff, Bool.not_eq_true', decide_eq_false_iff_not, decide_eq_true_eq]
    constructor <;> intro z <;> grind
  | false =>
    simp only [Bool.not_false, if_true, if_false, Bool.false_eq_true]
    rw [Bool.eq_iff_iff, Bool.not_eq_true', decide_eq_false_iff_not, decide_eq_true_eq]
    constructor <;> intro z <;> grind
theorem isbest_oth {f : Nat → Bool} : (leB l.length (upB (bestL l (1 - r) false)) (dualB l.length f) && leB l.length (dualB l.length f) (upB (bestL l (1 - r) true))) = (leB l.length (upB (bestL l r false)) f && leB l.length f (upB (bestL l r true))) := by
  have e1 : leB l.length (upB (bestL l (1 - r) false)) (dualB l.length f) = leB l.length f (upB (bestL l r true)) := by
    rw [← le_dual l.length f (upB (bestL l r true))]
    exact leB_congr (fun m hm => (best_oth h ok r0 r1 n1 n8 true hm).symm) fun _ _ => rfl
  have e2 : leB l.length (dualB l.length f) (upB (bestL l (1 - r) true)) = leB l.length (upB (bestL l r false)) f := by
    rw [← le_dual l.length (upB (bestL l r false)) f]
    exact leB_congr (fun _ _ => rfl) fun m hm => (best_oth h ok r0 r1 n1 n8 false hm).symm
  rw [e1, e2, Bool.and_comm]
omit r0 r1 n1 n8 in
theorem breaks_oth : (breaksL l).reverse.map (fun b => 1 - b) = breaksL l := by
  refine asc_ext ?_ (breaks_asc l) fun x => ?_
  · unfold Asc
    rw [List.pairwise_map, List.pairwise_reverse]
    exact (breaks_asc l).imp fun z => by grind
  · rw [List.mem_map]
    have other : ∀ y, y ∈ breaksL l → 1 - y ∈ breaksL l := fun y hy => by
      obtain ⟨m, hm, rfl⟩ := (breaks_mem l y).mp hy
      have hm' := midL_iff.mp hm
      have := break_bounds h ok (m := m) (by omega)
      exact (breaks_mem l _).mpr ⟨2 ^ l.length - 1 - m, midL_iff.mpr (by omega), this.2.2⟩
    constructor
    · rintro ⟨y, hy, rfl⟩
      exact other y (List.mem_reverse.mp hy)
    · intro hx
      exact ⟨1 - x, List.mem_reverse.mpr (other x hx), by grind⟩
end
/-- what the top has left -/
structure Ctx (K : PySem.W.Frag) (mg : Str → Option Value) where
  c_VoteError : Addr
  gc_VoteError : mg "VoteError" = some (.ref c_VoteError)
  c_BadNumber : Addr
  gc_BadNumber : mg "BadNumber" = some (.ref c_BadNumber)
  c_BadLot : Addr
  gc_BadLot : mg "BadLot" = some (.ref c_BadLot)
  c_Unlike : Addr
  gc_Unlike : mg "Unlike" = some (.ref c_Unlike)
  c_Family : Addr
  gc_Family : mg "Family" = some (.ref c_Family)
  c_Ratio : Addr
  gc_Ratio : mg "Ratio" = some (.ref c_Ratio)
  c_Chances : Addr
  gc_Chances : mg "Chances" = some (.ref c_Chances)
  c_Curve : Addr
  gc_Curve : mg "Curve" = some (.ref c_Curve)
  f_BadNumber_init : Addr
  fd_BadNumber_init : FuncData
  F_BadNumber_init : Fun K "__init__" "BadNumber.__init__" s_BadNumber_init f_BadNumber_init fd_BadNumber_init
  b_BadNumber_init : Binds K fd_BadNumber_init ["self", "what", "value"] []
  f_BadLot_init : Addr
  fd_BadLot_init : FuncData
  F_BadLot_init : Fun K "__init__" "BadLot.__init__" s_BadLot_init f_BadLot_init fd_BadLot_init
  b_BadLot_init : Binds K fd_BadLot_init ["self", "place"] []
  f_is_integer : Addr
  fd_is_integer : FuncData
  F_is_integer : Fun K "is_integer" "is_integer" s_is_integer f_is_integer fd_is_integer
  b_is_integer : Binds K fd_is_integer ["value"] []
  g_is_integer : mg "is_integer" = some (.ref f_is_integer)
  f_check_number : Addr
  fd_check_number : FuncData
  F_check_number : Fun K "check_number" "check_number" s_check_number f_check_number fd_check_number
  b_check_number : Binds K fd_check_number ["what", "value", "low", "high"] []
  g_check_number : mg "check_number" = some (.ref f_check_number)
  f_check_copies : Addr
  fd_check_copies : FuncData
  F_check_copies : Fun K "check_copies" "check_copies" s_check_copies f_check_copies fd_check_copies
  b_check_copies : Binds K fd_check_copies ["copies"] []
  g_check_copies : mg "check_copies" = some (.ref f_check_copies)
  f_check_copy : Addr
  fd_check_copy : FuncData
  F_check_copy : Fun K "check_copy" "check_copy" s_check_copy f_check_copy fd_check_copy
  b_check_copy : Binds K fd_check_copy ["copies", "copy"] []
  g_check_copy : mg "check_copy" = some (.ref f_check_copy)
  f_mask_of : Addr
  fd_mask_of : FuncData
  F_mask_of : Fun K "mask_of" "mask_of" s_mask_of f_mask_of fd_mask_of
  b_mask_of : Binds K fd_mask_of ["copies", "numbers"] []
  g_mask_of : mg "mask_of" = some (.ref f_mask_of)
  f_lot_at : Addr
  fd_lot_at : FuncData
  F_lot_at : Fun K "lot_at" "lot_at" s_lot_at f_lot_at fd_lot_at
  b_lot_at : Binds K fd_lot_at ["mask"] []
  g_lot_at : mg "lot_at" = some (.ref f_lot_at)
  f_check_alike : Addr
  fd_check_alike : FuncData
  F_check_alike : Fun K "check_alike" "check_alike" s_check_alike f_check_alike fd_check_alike
  b_check_alike : Binds K fd_check_alike ["copies", "other"] []
  g_check_alike : mg "check_alike" = some (.ref f_check_alike)
  f_is_within : Addr
  fd_is_within : FuncData
  F_is_within : Fun K "is_within" "is_within" s_is_within f_is_within fd_is_within
  b_is_within : Binds K fd_is_within ["marks", "more"] []
  g_is_within : mg "is_within" = some (.ref f_is_within)
  f_masks_of : Addr
  fd_masks_of : FuncData
  F_masks_of : Fun K "masks_of" "masks_of" s_masks_of f_masks_of fd_masks_of
  b_masks_of : Binds K fd_masks_of ["copies", "lots"] []
  g_masks_of : mg "masks_of" = some (.ref f_masks_of)
  f_marks_above : Addr
  fd_marks_above : FuncData
  F_marks_above : Fun K "marks_above" "marks_above" s_marks_above f_marks_above fd_marks_above
  b_marks_above : Binds K fd_marks_above ["copies", "masks"] []
  g_marks_above : mg "marks_above" = some (.ref f_marks_above)
  f_minimal_lots : Addr
  fd_minimal_lots : FuncData
  F_minimal_lots : Fun K "minimal_lots" "minimal_lots" s_minimal_lots f_minimal_lots fd_minimal_lots
  b_minimal_lots : Binds K fd_minimal_lots ["copies", "marks"] []
  g_minimal_lots : mg "minimal_lots" = some (.ref f_minimal_lots)
  f_Family_init : Addr
  fd_Family_init : FuncData
  F_Family_init : Fun K "__init__" "Family.__init__" s_Family_init f_Family_init fd_Family_init
  f_marked : Addr
  fd_marked : FuncData
  F_marked : Fun K "marked" "marked" s_marked f_marked fd_marked
  b_marked : Binds K fd_marked ["copies", "marks"] []
  g_marked : mg "marked" = some (.ref f_marked)
  f_others : Addr
  fd_others : FuncData
  F_others : Fun K "others" "others" s_others f_others fd_others
  b_others : Binds K fd_others ["copies", "lot"] []
  g_others : mg "others" = some (.ref f_others)
  f_all_lots : Addr
  fd_all_lots : FuncData
  F_all_lots : Fun K "all_lots" "all_lots" s_all_lots f_all_lots fd_all_lots
  b_all_lots : Binds K fd_all_lots ["copies"] []
  g_all_lots : mg "all_lots" = some (.ref f_all_lots)
  f_middle_lots : Addr
  fd_middle_lots : FuncData
  F_middle_lots : Fun K "middle_lots" "middle_lots" s_middle_lots f_middle_lots fd_middle_lots
  b_middle_lots : Binds K fd_middle_lots ["copies"] []
  g_middle_lots : mg "middle_lots" = some (.ref f_middle_lots)
  f_whole_lot : Addr
  fd_whole_lot : FuncData
  F_whole_lot : Fun K "whole_lot" "whole_lot" s_whole_lot f_whole_lot fd_whole_lot
  b_whole_lot : Binds K fd_whole_lot ["copies"] []
  g_whole_lot : mg "whole_lot" = some (.ref f_whole_lot)
  f_Family_or : Addr
  fd_Family_or : FuncData
  F_Family_or : Fun K "__or__" "Family.__or__" s_Family_or f_Family_or fd_Family_or
  b_Family_or : Binds K fd_Family_or ["self", "other"] []
  me_Family_or : Meth K c_Family "__or__" f_Family_or
  f_Family_le : Addr
  fd_Family_le : FuncData
  F_Family_le : Fun K "__le__" "Family.__le__" s_Family_le f_Family_le fd_Family_le
  b_Family_le : Binds K fd_Family_le ["self", "other"] []
  me_Family_le : Meth K c_Family "__le__" f_Family_le
  f_Family_eq : Addr
  fd_Family_eq : FuncData
  F_Family_eq : Fun K "__eq__" "Family.__eq__" s_Family_eq f_Family_eq fd_Family_eq
  b_Family_eq : Binds K fd_Family_eq ["self", "other"] []
  me_Family_eq : Meth K c_Family "__eq__" f_Family_eq
  f_Family_dual : Addr
  fd_Family_dual : FuncData
  F_Family_dual : Fun K "dual" "Family.dual" s_Family_dual f_Family_dual fd_Family_dual
  b_Family_dual : Binds K fd_Family_dual ["self"] []
  me_Family_dual : Meth K c_Family "dual" f_Family_dual
  f_Family_each : Addr
  fd_Family_each : FuncData
  F_Family_each : Fun K "each" "Family.each" s_Family_each f_Family_each fd_Family_each
  b_Family_each : Binds K fd_Family_each ["copies"] []
  sm_Family_each : SMet K c_Family "each" f_Family_each
  f_Ratio_init : Addr
  fd_Ratio_init : FuncData
  F_Ratio_init : FunD K "__init__" "Ratio.__init__" (defArgs s_Ratio_init) (defBody s_Ratio_init) (defScope s_Ratio_init) [.int 1] [] f_Ratio_init fd_Ratio_init
  d_Ratio_init1 : List Value
  v_Ratio_init1 : Vals (List.drop 0 [.int 1]) d_Ratio_init1
  b_Ratio_init1 : Binds K fd_Ratio_init ["self", "over", "under"] d_Ratio_init1
  d_Ratio_init2 : List Value
  v_Ratio_init2 : Vals (List.drop 1 [.int 1]) d_Ratio_init2
  b_Ratio_init2 : Binds K fd_Ratio_init ["self", "over", "under"] d_Ratio_init2
  f_ratio_of : Addr
  fd_ratio_of : FuncData
  F_ratio_of : Fun K "ratio_of" "ratio_of" s_ratio_of f_ratio_of fd_ratio_of
  b_ratio_of : Binds K fd_ratio_of ["value"] []
  g_ratio_of : mg "ratio_of" = some (.ref f_ratio_of)
  f_Ratio_eq : Addr
  fd_Ratio_eq : FuncData
  F_Ratio_eq : Fun K "__eq__" "Ratio.__eq__" s_Ratio_eq f_Ratio_eq fd_Ratio_eq
  b_Ratio_eq : Binds K fd_Ratio_eq ["self", "other"] []
  me_Ratio_eq : Meth K c_Ratio "__eq__" f_Ratio_eq
  f_Ratio_lt : Addr
  fd_Ratio_lt : FuncData
  F_Ratio_lt : Fun K "__lt__" "Ratio.__lt__" s_Ratio_lt f_Ratio_lt fd_Ratio_lt
  b_Ratio_lt : Binds K fd_Ratio_lt ["self", "other"] []
  me_Ratio_lt : Meth K c_Ratio "__lt__" f_Ratio_lt
  f_Ratio_le : Addr
  fd_Ratio_le : FuncData
  F_Ratio_le : Fun K "__le__" "Ratio.__le__" s_Ratio_le f_Ratio_le fd_Ratio_le
  b_Ratio_le : Binds K fd_Ratio_le ["self", "other"] []
  me_Ratio_le : Meth K c_Ratio "__le__" f_Ratio_le
  f_Ratio_gt : Addr
  fd_Ratio_gt : FuncData
  F_Ratio_gt : Fun K "__gt__" "Ratio.__gt__" s_Ratio_gt f_Ratio_gt fd_Ratio_gt
  b_Ratio_gt : Binds K fd_Ratio_gt ["self", "other"] []
  me_Ratio_gt : Meth K c_Ratio "__gt__" f_Ratio_gt
  f_Ratio_ge : Addr
  fd_Ratio_ge : FuncData
  F_Ratio_ge : Fun K "__ge__" "Ratio.__ge__" s_Ratio_ge f_Ratio_ge fd_Ratio_ge
  b_Ratio_ge : Binds K fd_Ratio_ge ["self", "other"] []
  me_Ratio_ge : Meth K c_Ratio "__ge__" f_Ratio_ge
  f_Ratio_add : Addr
  fd_Ratio_add : FuncData
  F_Ratio_add : Fun K "__add__" "Ratio.__add__" s_Ratio_add f_Ratio_add fd_Ratio_add
  b_Ratio_add : Binds K fd_Ratio_add ["self", "other"] []
  me_Ratio_add : Meth K c_Ratio "__add__" f_Ratio_add
  f_Ratio_radd : Addr
  fd_Ratio_radd : FuncData
  F_Ratio_radd : Fun K "__radd__" "Ratio.__radd__" s_Ratio_radd f_Ratio_radd fd_Ratio_radd
  b_Ratio_radd : Binds K fd_Ratio_radd ["self", "other"] []
  me_Ratio_radd : Meth K c_Ratio "__radd__" f_Ratio_radd
  f_Ratio_sub : Addr
  fd_Ratio_sub : FuncData
  F_Ratio_sub : Fun K "__sub__" "Ratio.__sub__" s_Ratio_sub f_Ratio_sub fd_Ratio_sub
  b_Ratio_sub : Binds K fd_Ratio_sub ["self", "other"] []
  me_Ratio_sub : Meth K c_Ratio "__sub__" f_Ratio_sub
  f_Ratio_rsub : Addr
  fd_Ratio_rsub : FuncData
  F_Ratio_rsub : Fun K "__rsub__" "Ratio.__rsub__" s_Ratio_rsub f_Ratio_rsub fd_Ratio_rsub
  b_Ratio_rsub : Binds K fd_Ratio_rsub ["self", "other"] []
  me_Ratio_rsub : Meth K c_Ratio "__rsub__" f_Ratio_rsub
  f_Ratio_mul : Addr
  fd_Ratio_mul : FuncData
  F_Ratio_mul : Fun K "__mul__" "Ratio.__mul__" s_Ratio_mul f_Ratio_mul fd_Ratio_mul
  b_Ratio_mul : Binds K fd_Ratio_mul ["self", "other"] []
  me_Ratio_mul : Meth K c_Ratio "__mul__" f_Ratio_mul
  f_Ratio_rmul : Addr
  fd_Ratio_rmul : FuncData
  F_Ratio_rmul : Fun K "__rmul__" "Ratio.__rmul__" s_Ratio_rmul f_Ratio_rmul fd_Ratio_rmul
  b_Ratio_rmul : Binds K fd_Ratio_rmul ["self", "other"] []
  me_Ratio_rmul : Meth K c_Ratio "__rmul__" f_Ratio_rmul
  f_Ratio_half : Addr
  fd_Ratio_half : FuncData
  F_Ratio_half : Fun K "half" "Ratio.half" s_Ratio_half f_Ratio_half fd_Ratio_half
  b_Ratio_half : Binds K fd_Ratio_half [] []
  sm_Ratio_half : SMet K c_Ratio "half" f_Ratio_half
  f_Ratio_divided : Addr
  fd_Ratio_divided : FuncData
  F_Ratio_divided : Fun K "divided" "Ratio.divided" s_Ratio_divided f_Ratio_divided fd_Ratio_divided
  b_Ratio_divided : Binds K fd_Ratio_divided ["self", "other"] []
  me_Ratio_divided : Meth K c_Ratio "divided" f_Ratio_divided
  f_is_short : Addr
  fd_is_short : FuncData
  F_is_short : Fun K "is_short" "is_short" s_is_short f_is_short fd_is_short
  b_is_short : Binds K fd_is_short ["value"] []
  g_is_short : mg "is_short" = some (.ref f_is_short)
  f_check_chance : Addr
  fd_check_chance : FuncData
  F_check_chance : Fun K "check_chance" "check_chance" s_check_chance f_check_chance fd_check_chance
  b_check_chance : Binds K fd_check_chance ["chance"] []
  g_check_chance : mg "check_chance" = some (.ref f_check_chance)
  f_scale_of : Addr
  fd_scale_of : FuncData
  F_scale_of : Fun K "scale_of" "scale_of" s_scale_of f_scale_of fd_scale_of
  b_scale_of : Binds K fd_scale_of ["ratios"] []
  g_scale_of : mg "scale_of" = some (.ref f_scale_of)
  f_counts_of : Addr
  fd_counts_of : FuncData
  F_counts_of : Fun K "counts_of" "counts_of" s_counts_of f_counts_of fd_counts_of
  b_counts_of : Binds K fd_counts_of ["ratios"] []
  g_counts_of : mg "counts_of" = some (.ref f_counts_of)
  f_Chances_init : Addr
  fd_Chances_init : FuncData
  F_Chances_init : Fun K "__init__" "Chances.__init__" s_Chances_init f_Chances_init fd_Chances_init
  f_Chances_add : Addr
  fd_Chances_add : FuncData
  F_Chances_add : Fun K "__add__" "Chances.__add__" s_Chances_add f_Chances_add fd_Chances_add
  b_Chances_add : Binds K fd_Chances_add ["self", "other"] []
  me_Chances_add : Meth K c_Chances "__add__" f_Chances_add
  f_Chances_len : Addr
  fd_Chances_len : FuncData
  F_Chances_len : Fun K "__len__" "Chances.__len__" s_Chances_len f_Chances_len fd_Chances_len
  b_Chances_len : Binds K fd_Chances_len ["self"] []
  me_Chances_len : Meth K c_Chances "__len__" f_Chances_len
  f_Chances_alone : Addr
  fd_Chances_alone : FuncData
  F_Chances_alone : Fun K "alone" "Chances.alone" s_Chances_alone f_Chances_alone fd_Chances_alone
  b_Chances_alone : Binds K fd_Chances_alone ["self", "lot"] []
  me_Chances_alone : Meth K c_Chances "alone" f_Chances_alone
  f_Chances_up : Addr
  fd_Chances_up : FuncData
  F_Chances_up : Fun K "up" "Chances.up" s_Chances_up f_Chances_up fd_Chances_up
  b_Chances_up : Binds K fd_Chances_up ["self", "family"] []
  me_Chances_up : Meth K c_Chances "up" f_Chances_up
  f_check_share : Addr
  fd_check_share : FuncData
  F_check_share : Fun K "check_share" "check_share" s_check_share f_check_share fd_check_share
  b_check_share : Binds K fd_check_share ["share"] []
  g_check_share : mg "check_share" = some (.ref f_check_share)
  f_gain : Addr
  fd_gain : FuncData
  F_gain : Fun K "gain" "gain" s_gain f_gain fd_gain
  b_gain : Binds K fd_gain ["chances", "share", "lot"] []
  g_gain : mg "gain" = some (.ref f_gain)
  f_with_whole : Addr
  fd_with_whole : FuncData
  F_with_whole : Fun K "with_whole" "with_whole" s_with_whole f_with_whole fd_with_whole
  b_with_whole : Binds K fd_with_whole ["copies", "lots"] []
  g_with_whole : mg "with_whole" = some (.ref f_with_whole)
  f_most_worth : Addr
  fd_most_worth : FuncData
  F_most_worth : Fun K "most_worth" "most_worth" s_most_worth f_most_worth fd_most_worth
  b_most_worth : Binds K fd_most_worth ["chances", "share"] []
  g_most_worth : mg "most_worth" = some (.ref f_most_worth)
  f_least_writes : Addr
  fd_least_writes : FuncData
  F_least_writes : Fun K "least_writes" "least_writes" s_least_writes f_least_writes fd_least_writes
  b_least_writes : Binds K fd_least_writes ["chances", "share"] []
  g_least_writes : mg "least_writes" = some (.ref f_least_writes)
  f_greatest_writes : Addr
  fd_greatest_writes : FuncData
  F_greatest_writes : Fun K "greatest_writes" "greatest_writes" s_greatest_writes f_greatest_writes fd_greatest_writes
  b_greatest_writes : Binds K fd_greatest_writes ["chances", "share"] []
  g_greatest_writes : mg "greatest_writes" = some (.ref f_greatest_writes)
  f_is_best : Addr
  fd_is_best : FuncData
  F_is_best : Fun K "is_best" "is_best" s_is_best f_is_best fd_is_best
  b_is_best : Binds K fd_is_best ["chances", "share", "writes"] []
  g_is_best : mg "is_best" = some (.ref f_is_best)
  f_lot_break : Addr
  fd_lot_break : FuncData
  F_lot_break : Fun K "lot_break" "lot_break" s_lot_break f_lot_break fd_lot_break
  b_lot_break : Binds K fd_lot_break ["chances", "lot"] []
  g_lot_break : mg "lot_break" = some (.ref f_lot_break)
  f_lot_breaks : Addr
  fd_lot_breaks : FuncData
  F_lot_breaks : Fun K "lot_breaks" "lot_breaks" s_lot_breaks f_lot_breaks fd_lot_breaks
  b_lot_breaks : Binds K fd_lot_breaks ["chances"] []
  g_lot_breaks : mg "lot_breaks" = some (.ref f_lot_breaks)
  f_breaks : Addr
  fd_breaks : FuncData
  F_breaks : Fun K "breaks" "breaks" s_breaks f_breaks fd_breaks
  b_breaks : Binds K fd_breaks ["chances"] []
  g_breaks : mg "breaks" = some (.ref f_breaks)
  f_piece : Addr
  fd_piece : FuncData
  F_piece : Fun K "piece" "piece" s_piece f_piece fd_piece
  b_piece : Binds K fd_piece ["chances", "turns", "start", "end"] []
  g_piece : mg "piece" = some (.ref f_piece)
  f_Curve_init : Addr
  fd_Curve_init : FuncData
  F_Curve_init : Fun K "__init__" "Curve.__init__" s_Curve_init f_Curve_init fd_Curve_init
  b_Curve_init : Binds K fd_Curve_init ["self", "chances"] []
  f_Curve_call : Addr
  fd_Curve_call : FuncData
  F_Curve_call : Fun K "__call__" "Curve.__call__" s_Curve_call f_Curve_call fd_Curve_call
  b_Curve_call : Binds K fd_Curve_call ["self", "share"] []
  me_Curve_call : Meth K c_Curve "__call__" f_Curve_call
  f_l_start : Addr
  fd_l_start : FuncData
  F_l_start : Fun K "_law_start" "_law_start" s_l_start f_l_start fd_l_start
  b_l_start : Binds K fd_l_start ["_law_script"] []
  g_l_start : mg "_law_start" = some (.ref f_l_start)
  f_l_draw : Addr
  fd_l_draw : FuncData
  F_l_draw : Fun K "_law_draw" "_law_draw" s_l_draw f_l_draw fd_l_draw
  b_l_draw : Binds K fd_l_draw ["_law_script", "_law_state", "_law_limit"] []
  g_l_draw : mg "_law_draw" = some (.ref f_l_draw)
  f_l_chances : Addr
  fd_l_chances : FuncData
  F_l_chances : Fun K "_law_chances" "_law_chances" s_l_chances f_l_chances fd_l_chances
  b_l_chances : Binds K fd_l_chances ["_law_script", "_law_state", "_law_most"] []
  g_l_chances : mg "_law_chances" = some (.ref f_l_chances)
  f_l_share : Addr
  fd_l_share : FuncData
  F_l_share : Fun K "_law_share" "_law_share" s_l_share f_l_share fd_l_share
  b_l_share : Binds K fd_l_share ["_law_script", "_law_state"] []
  g_l_share : mg "_law_share" = some (.ref f_l_share)
  f_l_ratios : Addr
  fd_l_ratios : FuncData
  F_l_ratios : Fun K "_law_ratios" "_law_ratios" s_l_ratios f_l_ratios fd_l_ratios
  b_l_ratios : Binds K fd_l_ratios ["_law_chances_here"] []
  g_l_ratios : mg "_law_ratios" = some (.ref f_l_ratios)
  f_l_made : Addr
  fd_l_made : FuncData
  F_l_made : Fun K "_law_made" "_law_made" s_l_made f_l_made fd_l_made
  b_l_made : Binds K fd_l_made ["_law_chances_here"] []
  g_l_made : mg "_law_made" = some (.ref f_l_made)
  f_l_power : Addr
  fd_l_power : FuncData
  F_l_power : Fun K "_law_power" "_law_power" s_l_power f_l_power fd_l_power
  b_l_power : Binds K fd_l_power ["_law_many"] []
  g_l_power : mg "_law_power" = some (.ref f_l_power)
  f_l_has : Addr
  fd_l_has : FuncData
  F_l_has : Fun K "_law_has" "_law_has" s_l_has f_l_has fd_l_has
  b_l_has : Binds K fd_l_has ["_law_code", "_law_copy"] []
  g_l_has : mg "_law_has" = some (.ref f_l_has)
  f_l_lot : Addr
  fd_l_lot : FuncData
  F_l_lot : Fun K "_law_lot" "_law_lot" s_l_lot f_l_lot fd_l_lot
  b_l_lot : Binds K fd_l_lot ["_law_many", "_law_code"] []
  g_l_lot : mg "_law_lot" = some (.ref f_l_lot)
  f_l_breaks_hold : Addr
  fd_l_breaks_hold : FuncData
  F_l_breaks_hold : Fun K "_law_breaks_hold" "_law_breaks_hold" s_l_breaks_hold f_l_breaks_hold fd_l_breaks_hold
  b_l_breaks_hold : Binds K fd_l_breaks_hold ["_law_chances_here"] []
  g_l_breaks_hold : mg "_law_breaks_hold" = some (.ref f_l_breaks_hold)
  f_l_some_family : Addr
  fd_l_some_family : FuncData
  F_l_some_family : Fun K "_law_some_family" "_law_some_family" s_l_some_family f_l_some_family fd_l_some_family
  b_l_some_family : Binds K fd_l_some_family ["_law_script", "_law_state", "_law_many"] []
  g_l_some_family : mg "_law_some_family" = some (.ref f_l_some_family)
  f_law : Addr
  fd_law : FuncData
  F_law : Fun K "law" "law" s_law f_law fd_law
  b_law : Binds K fd_law ["_law_script"] []
  g_law : mg "law" = some (.ref f_law)
  ox_BadNumber : OexC K c_BadNumber
  xn_BadNumber : PySem.W.findIn K (.ref c_BadNumber) "__init__" = some (some (.ref f_BadNumber_init))
  xt_BadNumber : PySem.W.typeIn K (.ref f_BadNumber_init) = some (.type "function")
  xf_BadNumber : XfC K c_BadNumber
  xi_BadNumber : XiC K c_BadNumber
  n_BadNumber_what : PySem.W.findIn K (.ref c_BadNumber) "what" = some none
  n_BadNumber_value : PySem.W.findIn K (.ref c_BadNumber) "value" = some none
  ox_BadLot : OexC K c_BadLot
  xn_BadLot : PySem.W.findIn K (.ref c_BadLot) "__init__" = some (some (.ref f_BadLot_init))
  xt_BadLot : PySem.W.typeIn K (.ref f_BadLot_init) = some (.type "function")
  xf_BadLot : XfC K c_BadLot
  xi_BadLot : XiC K c_BadLot
  n_BadLot_place : PySem.W.findIn K (.ref c_BadLot) "place" = some none
  e0_Unlike : Ex0C K c_Unlike
  xi_Unlike : XiC K c_Unlike
  cl_Ratio : Cls K c_Ratio
  M_Ratio : Mk K c_Ratio f_Ratio_init
  oh_Ratio_add : PySem.W.findIn K (.ref c_Ratio) (PySem.dunder "add") = some (some (.ref f_Ratio_add))
  oh_Ratio_radd : PySem.W.findIn K (.ref c_Ratio) (PySem.dunderR "add") = some (some (.ref f_Ratio_radd))
  oh_Ratio_sub : PySem.W.findIn K (.ref c_Ratio) (PySem.dunder "sub") = some (some (.ref f_Ratio_sub))
  oh_Ratio_rsub : PySem.W.findIn K (.ref c_Ratio) (PySem.dunderR "sub") = some (some (.ref f_Ratio_rsub))
  oh_Ratio_mul : PySem.W.findIn K (.ref c_Ratio) (PySem.dunder "mul") = some (some (.ref f_Ratio_mul))
  oh_Ratio_rmul : PySem.W.findIn K (.ref c_Ratio) (PySem.dunderR "mul") = some (some (.ref f_Ratio_rmul))
  oc_Ratio : OpC K c_Ratio
  ic_Ratio : InsC K c_Ratio
  n_Ratio_over : NoAttr K c_Ratio "over"
  n_Ratio_under : NoAttr K c_Ratio "under"
  cl_Chances : Cls K c_Chances
  M_Chances : Mk K c_Chances f_Chances_init
  oh_Chances_add : PySem.W.findIn K (.ref c_Chances) (PySem.dunder "add") = some (some (.ref f_Chances_add))
  oc_Chances : OpC K c_Chances
  ic_Chances : InsC K c_Chances
  n_Chances_ratios : NoAttr K c_Chances "ratios"
  n_Chances_scale : NoAttr K c_Chances "scale"
  n_Chances_counts : NoAttr K c_Chances "counts"
  cl_Family : Cls K c_Family
  M_Family : Mk K c_Family f_Family_init
  oh_Family_or : PySem.W.findIn K (.ref c_Family) (PySem.dunder "or") = some (some (.ref f_Family_or))
  oc_Family : OpC K c_Family
  ic_Family : InsC K c_Family
  n_Family_copies : NoAttr K c_Family "copies"
  n_Family_lots : NoAttr K c_Family "lots"
  n_Family_marks : NoAttr K c_Family "marks"
  cl_Curve : Cls K c_Curve
  M_Curve : Mk K c_Curve f_Curve_init
  oc_Curve : OpC K c_Curve
  ic_Curve : InsC K c_Curve
  n_Curve_rows : NoAttr K c_Curve "rows"
  ih_add : PySem.W.findIn K (.type "int") (PySem.dunder "add") = some (some (.builtin "int.__add__"))
  ihr_add : PySem.W.findIn K (.type "int") (PySem.dunderR "add") = some (some (.builtin "int.__radd__"))
  ih_sub : PySem.W.findIn K (.type "int") (PySem.dunder "sub") = some (some (.builtin "int.__sub__"))
  ihr_sub : PySem.W.findIn K (.type "int") (PySem.dunderR "sub") = some (some (.builtin "int.__rsub__"))
  ih_mul : PySem.W.findIn K (.type "int") (PySem.dunder "mul") = some (some (.builtin "int.__mul__"))
  ihr_mul : PySem.W.findIn K (.type "int") (PySem.dunderR "mul") = some (some (.builtin "int.__rmul__"))
  ki_Ratio_Ratio : PySem.W.kitOne K (.ref c_Ratio) (.ref c_Ratio) = some true
  ki_Chances_Chances : PySem.W.kitOne K (.ref c_Chances) (.ref c_Chances) = some true
  ki_Family_Family : PySem.W.kitOne K (.ref c_Family) (.ref c_Family) = some true
  ki_int_Ratio : PySem.W.kitOne K (.type "int") (.ref c_Ratio) = some false
  ki_bool_Ratio : PySem.W.kitOne K (.type "bool") (.ref c_Ratio) = some false
  ki_NoneType_Ratio : PySem.W.kitOne K (.type "NoneType") (.ref c_Ratio) = some false
  ki_str_Ratio : PySem.W.kitOne K (.type "str") (.ref c_Ratio) = some false
  gi_gcd : mg "gcd" = some (.builtin "math.gcd")
  gt_MOST_COPIES : Tok
  gk_MOST_COPIES : mg "MOST_COPIES" = some (.int 8 gt_MOST_COPIES)
  gt_MOST_UNDER : Tok
  gk_MOST_UNDER : mg "MOST_UNDER" = some (.int 1000 gt_MOST_UNDER)
  m_abs : mg "abs" = none
  m_all : mg "all" = none
  m_any : mg "any" = none
  m_bool : mg "bool" = none
  m_enumerate : mg "enumerate" = none
  m_int : mg "int" = none
  m_isinstance : mg "isinstance" = none
  m_len : mg "len" = none
  m_range : mg "range" = none
  m_sum : mg "sum" = none
  m_tuple : mg "tuple" = none
  m_zip : mg "zip" = none

section
variable {P : Program} {w : World} {K : PySem.W.Frag} {mg : Str → Option Value} {base : Heap}
theorem ok_l_start (T : Ctx K mg) : FnOk P w K mg base CX0 1 T.f_l_start T.fd_l_start ["_law_script"] (spStart K) := by
  refine T.F_l_start.ok sc_l_start (fun vs H Q E h => ?_) (fun cdv A outer s H vs Q E hr h => ?_)
  · obtain ⟨l, ns, rfl, _⟩ := h
    rfl
  · obtain ⟨l, ns, rfl, hS, q⟩ := h
    refine ⟨_, (pss_cons (ps_set (i := 1) sc_l_start.nd rfl (Or.inl rfl) pe_int)
      (Evl.pss_cut (ps_if (pt_cmpR op_gt (pe_callB call_len_seq (by rfl) T.m_len (by decide +kernel) (pa_cons (pv 0) pa_nil)) pe_int (nomark _))
        (pss_one (ps_set (i := 1) sc_l_start.nd rfl (Or.inl rfl) (pe_ix ix_list (pv 0) pe_int (fun _ _ => rfl))))
        pss_nil)
      (pss_one (ps_ret (pe_lst (pa_cons (pe_callB call_abs (by rfl) T.m_abs (by decide +kernel) (pa_cons (pe_callTy call_int1 (by rfl) T.m_int (by decide +kernel) (pa_cons (pv 1) pa_nil)) pa_nil)) (pa_cons (pe_callTy call_int1 (by rfl) T.m_int (by decide +kernel) (pa_cons (pe_cmpR op_ge (pe_callB call_abs (by rfl) T.m_abs (by decide +kernel) (pa_cons (pe_callTy call_int1 (by rfl) T.m_int (by decide +kernel) (pa_cons (pv 1) pa_nil)) pa_nil)) (pe_op op_pow pe_int pe_int) (nomark _)) pa_nil)) (pa_cons pe_int (pa_cons pe_int pa_nil))))))))), ?_⟩
    refine ⟨fun σ' H' => H' = H ∧ ∃ z : Int, σ' = [some (.ref l), some (.int z)], ?_, ?_⟩
    · refine ⟨_, rfl, l, _, rfl, .inl hS, _, _, rfl, rfl, _, rfl, ?_⟩
      refine ite2 (fun hc => ?_) fun hc => ⟨rfl, 0, rfl⟩
      have hn : 0 < ns.length := by
        have := of_decide_eq_true hc
        rw [List.length_map] at this
        omega
      refine ⟨_, rfl, l, _, _, .int ns[0], rfl, rfl, hS, at_of (j := 0) rfl (by rw [List.getElem?_map, List.getElem?_eq_getElem hn]; rfl), ?_⟩
      exact ⟨rfl, _, rfl⟩
    · rintro σ' H' ⟨rfl, z, rfl⟩
      refine ⟨_, rfl, .inl ⟨_, rfl, _, rfl, ?_⟩⟩
      refine ⟨_, rfl, .inl ⟨_, rfl, _, rfl, _, _, rfl, rfl, ⟨by decide, by decide, by decide⟩, _, _, rfl, rfl, .inr ⟨_, rfl, ?_⟩⟩⟩
      refine ⟨by show 4 ≤ sizeLine; decide, fun t ht => ?_⟩
      exact q t _ ht ⟨⟨ns, hS⟩, ht, same_upd ht, ⟨_, _, _, _, upd_same⟩⟩ (But.refl.upd)
theorem ok_l_draw (T : Ctx K mg) : FnOk P w K mg base CX0 1 T.f_l_draw T.fd_l_draw ["_law_script", "_law_state", "_law_limit"] (spDraw K) := by
  refine T.F_l_draw.ok sc_l_draw (fun vs H Q E h => ?_) (fun cdv A outer s H vs Q E hr h => ?_)
  · obtain ⟨l, t, m, H0, rfl, _⟩ := h
    rfl
  · obtain ⟨l, t, m, H0, rfl, D, hm, hm2, q⟩ := h
    obtain ⟨a, b, c, d, ht⟩ := D.st
    have fin : ∀ (z : Int) H', But t H H' → Drw K H0 l t H' → Q (.int (z.fmod m)) H' := fun z H' e1 D' =>
      q _ _ (Int.fmod_nonneg_of_pos _ hm) (Int.fmod_lt_of_pos _ hm) e1 D'
    refine ⟨_, (pss_cons (ps_asg (pe_op op_add (pe_ix ix_list (pv 1) pe_int (fun _ _ => rfl)) pe_int) (pg_sub (pv 1) pe_int set_list))
      (Evl.pss_cut (ps_if (PW.pt (pw_and (pt_cmpR op_eq (pe_ix ix_list (pv 1) pe_int (fun _ _ => rfl)) pe_int (nomark _)) (pw_and1 (pt_cmpR op_gt (pe_ix ix_list (pv 1) pe_int (fun _ _ => rfl)) pe_int (nomark _)))))
        (pss_cons (ps_set (i := 3) sc_l_draw.nd rfl (Or.inl rfl) (pe_op op_modN (pe_callTy call_int1 (by rfl) T.m_int (by decide +kernel) (pa_cons (pe_ix ix_list (pv 1) pe_int (fun _ _ => rfl)) pa_nil)) (pv 2)))
        (pss_cons (ps_asg (pe_op op_fdivN (pe_ix ix_list (pv 1) pe_int (fun _ _ => rfl)) (pv 2)) (pg_sub (pv 1) pe_int set_list))
        (pss_one (ps_ret (pv 3)))))
        pss_nil)
      (pss_cons (ps_asg pe_int (pg_sub (pv 1) pe_int set_list))
      (pss_cons (ps_set (i := 4) sc_l_draw.nd rfl (Or.inl rfl) pe_int)
      (Evl.pss_cut (ps_if (pt_cmpR op_gt (pe_callB call_len_seq (by rfl) T.m_len (by decide +kernel) (pa_cons (pv 0) pa_nil)) pe_int (nomark _))
        (pss_one (ps_set (i := 4) sc_l_draw.nd rfl (Or.inl rfl) (pe_ix ix_list (pv 0) (pe_op op_modN (pe_callTy call_int1 (by rfl) T.m_int (by decide +kernel) (pa_cons (pe_ix ix_list (pv 1) pe_int (fun _ _ => rfl)) pa_nil)) (pe_callB call_len_seq (by rfl) T.m_len (by decide +kernel) (pa_cons (pv 0) pa_nil))) (fun _ _ => rfl))))
        pss_nil)
      (pss_cons (ps_asg (pe_op op_add (pe_ix ix_list (pv 1) pe_int (fun _ _ => rfl)) pe_int) (pg_sub (pv 1) pe_int set_list))
      (pss_cons (ps_set (i := 5) sc_l_draw.nd rfl (Or.inl rfl) (pe_op op_mul (pe_op op_mod (pe_callTy call_int1 (by rfl) T.m_int (by decide +kernel) (pa_cons (pe_ix ix_list (pv 1) pe_int (fun _ _ => rfl)) pa_nil)) pe_int) pe_int))
      (pss_cons (ps_set (i := 5) sc_l_draw.nd rfl (Or.inl rfl) (pe_op op_add (pe_op op_add (pe_op op_add (pv 5) (pe_op op_mod (pe_callTy call_int1 (by rfl) T.m_int (by decide +kernel) (pa_cons (pv 4) pa_nil)) pe_int)) (pe_op op_mul pe_int (pe_ix ix_list (pv 1) pe_int (fun _ _ => rfl)))) pe_int))
      (pss_cons (ps_asg (pe_op op_mod (pe_callTy call_int1 (by rfl) T.m_int (by decide +kernel) (pa_cons (pv 5) pa_nil)) pe_int) (pg_sub (pv 1) pe_int set_list))
      (pss_cons (ps_set (i := 5) sc_l_draw.nd rfl (Or.inl rfl) (pe_op op_mod (pe_callTy call_int1 (by rfl) T.m_int (by decide +kernel) (pa_cons (pe_op op_add (pe_op op_mul (pe_ix ix_list (pv 1) pe_int (fun _ _ => rfl)) pe_int) (pe_ix ix_list (pv 1) pe_int (fun _ _ => rfl))) pa_nil)) pe_int))
      (pss_one (ps_ret (pe_op op_modN (pe_callTy call_int1 (by rfl) T.m_int (by decide +kernel) (pa_cons (pe_op op_fdiv (pv 5) pe_int) pa_nil)) (pv 2)))))))))))))), ?_⟩
    -- state[3] = state[3] + 1
    refine ⟨_, rfl, t, _, _, _, rfl, rfl, SqL.of ht, at3, _, _, rfl, rfl, _, rfl, t, _, _, 3, rfl, rfl, ht, rfl, ?_⟩
    -- the first way
    refine ⟨fun σ' H' => σ' = [some (.ref l), some (.ref t), some (.int m), none, none, none] ∧ H' = upd H t (.lst [.int a, .int b, .int c, .int (d + 1)]), ?_, ?_⟩
    · refine ⟨_, rfl, t, _, _, _, rfl, rfl, SqL.of upd_same, at1, rfl, _, rfl, ?_⟩
      refine ite2 (fun hc => ?_) fun hc => iteF ⟨rfl, rfl⟩
      refine ⟨_, rfl, t, _, _, _, rfl, rfl, SqL.of upd_same, at0, _, _, rfl, rfl, _, rfl, ?_⟩
      refine ite2 (fun hc => ?_) fun hc => ⟨rfl, rfl⟩
      refine ⟨_, rfl, t, _, _, _, rfl, rfl, SqL.of upd_same, at0, .inl ⟨_, rfl, _, rfl, _, _, rfl, rfl, by omega, ?_⟩⟩
      refine ⟨_, rfl, t, _, _, _, rfl, rfl, SqL.of upd_same, at0, _, rfl, _, _, rfl, rfl, ⟨by omega, by omega⟩, _, rfl, t, _, _, 0, rfl, rfl, upd_same, rfl, ?_⟩
      exact ⟨_, rfl, fin _ _ (But.refl.upd.upd) (D.upd.upd)⟩
    · rintro σ' H' ⟨rfl, rfl⟩
      -- state[1] = 0; cell = 0
      refine ⟨_, rfl, t, _, _, 1, rfl, rfl, upd_same, rfl, ?_⟩
      have e1 : upd (upd H t (.lst [.int a, .int b, .int c, .int (d + 1)])) t (.lst ([V.int a, .int b, .int c, .int (d + 1)].set 1 (.int 0))) = upd H t (.lst [.int a, .int 0, .int c, .int (d + 1)]) := upd_upd
      rw [e1]
      have D1 : Drw K H0 l t (upd H t (.lst [.int a, .int 0, .int c, .int (d + 1)])) := D.upd
      obtain ⟨ns, hS⟩ := D1.sc
      refine ⟨fun σ' H' => H' = upd H t (.lst [.int a, .int 0, .int c, .int (d + 1)]) ∧ ∃ z : Int, σ' = [some (.ref l), some (.ref t), some (.int m), none, some (.int z), none], ?_, ?_⟩
      · refine ⟨_, rfl, l, _, rfl, .inl hS, _, _, rfl, rfl, _, rfl, ?_⟩
        refine ite2 (fun hc => ?_) fun hc => ⟨rfl, 0, rfl⟩
        have hn : 0 < ns.length := by
          have := of_decide_eq_true hc
          rw [List.length_map] at this
          omega
        have hn' : (0 : Int) < (((ns.map V.int).length : Nat) : Int) := by
          rw [List.length_map]
          omega
        have h0 := Int.fmod_nonneg_of_pos c hn'
        have h1 := Int.fmod_lt_of_pos c hn'
        rw [List.length_map] at h1
        have hj : (c.fmod ((ns.map V.int).length : Nat)).toNat < ns.length := by
          rw [List.length_map] at h0 ⊢
          omega
        refine ⟨_, rfl, _, rfl, t, _, _, _, rfl, rfl, SqL.of upd_same, at2, .inl ⟨_, rfl, _, rfl, l, _, rfl, .inl hS, _, _, rfl, rfl, by omega, ?_⟩⟩
        refine ⟨l, _, _, .int ns[(c.fmod ((ns.map V.int).length : Nat)).toNat], rfl, rfl, hS, at_of (j := (c.fmod ((ns.map V.int).length : Nat)).toNat) (by omega) (by rw [List.getElem?_map, List.getElem?_eq_getElem hj]; rfl), ?_⟩
        exact ⟨rfl, _, rfl⟩
      · rintro σ' H' ⟨rfl, z, rfl⟩
        -- state[2] = state[2] + 1
        refine ⟨_, rfl, t, _, _, _, rfl, rfl, SqL.of upd_same, at2, _, _, rfl, rfl, _, rfl, t, _, _, 2, rfl, rfl, upd_same, rfl, ?_⟩
        have e2 : upd (upd H t (.lst [.int a, .int 0, .int c, .int (d + 1)])) t (.lst ([V.int a, .int 0, .int c, .int (d + 1)].set 2 (.int (c + 1)))) = upd H t (.lst [.int a, .int 0, .int (c + 1), .int (d + 1)]) := upd_upd
        rw [e2]
        have hb := Int.emod_nonneg a (b := 2147483647) (by decide)
        have hb2 := Int.emod_lt_of_pos a (b := 2147483647) (by decide)
        refine ⟨_, rfl, t, _, _, _, rfl, rfl, SqL.of upd_same, at0, .inl ⟨_, rfl, _, _, rfl, rfl, (show (0 : Int) < 2147483647 by decide), _, _, rfl, rfl, .inl ⟨by omega, by omega⟩, ?_⟩⟩
        refine ⟨_, rfl, _, rfl, .inl ⟨_, rfl, _, _, rfl, rfl, (show (0 : Int) < 2147483629 by decide), _, _, rfl, rfl, _, rfl, t, _, _, _, rfl, rfl, SqL.of upd_same, at3, _, _, rfl, rfl, .inl ⟨by decide, by decide⟩, _, _, rfl, rfl, _, _, rfl, rfl, ?_⟩⟩
        refine ⟨_, rfl, .inl ⟨_, rfl, _, _, rfl, rfl, (show (0 : Int) < 2147483647 by decide), _, rfl, t, _, _, 0, rfl, rfl, upd_same, rfl, ?_⟩⟩
        generalize hw : (a % 2147483647 * 48271 + z % 2147483629 + 7 * (d + 1) + 11) = w'
        have e3 : upd (upd H t (.lst [.int a, .int 0, .int (c + 1), .int (d + 1)])) t (.lst ([V.int a, .int 0, .int (c + 1), .int (d + 1)].set 0 (.int (w' % 2147483647)))) = upd H t (.lst [.int (w' % 2147483647), .int 0, .int (c + 1), .int (d + 1)]) := upd_upd
        rw [e3]
        have hc := Int.emod_nonneg w' (b := 2147483647) (by decide)
        have hc2 := Int.emod_lt_of_pos w' (b := 2147483647) (by decide)
        refine ⟨_, rfl, t, _, _, _, rfl, rfl, SqL.of upd_same, at0, _, _, rfl, rfl, .inl ⟨by omega, by omega⟩, _, rfl, t, _, _, _, rfl, rfl, SqL.of upd_same, at3, _, _, rfl, rfl, .inl ⟨_, rfl, _, _, rfl, rfl, (show (0 : Int) < 2147483629 by decide), ?_⟩⟩
        refine ⟨_, rfl, _, _, rfl, rfl, ⟨by decide, by decide⟩, .inl ⟨_, rfl, _, rfl, _, _, rfl, rfl, by omega, ?_⟩⟩
        exact fin _ _ But.refl.upd D.upd
end
section
variable {P : Program} {w : World} {K : PySem.W.Frag} {mg : Str → Option Value} {base : Heap}
theorem ok_BadNumber_init (T : Ctx K mg) : FnOk P w K mg base CX0 1 T.f_BadNumber_init T.fd_BadNumber_init ["self", "what", "value"] (spX2 T.c_BadNumber "what" "value") := by
  refine T.F_BadNumber_init.ok sc_BadNumber_init (fun vs H Q E h => ?_) (fun cdv A outer s H vs Q E hr h => ?_)
  · obtain ⟨a, x, y, rfl, _⟩ := h
    rfl
  · obtain ⟨a, x, y, rfl, ha, q⟩ := h
    refine ⟨_, (pss_cons (ps_ost (pv 0) (pv 1))
      (pss_one (ps_ost (pv 0) (pv 2)))), ?_⟩
    refine ⟨_, rfl, _, rfl, a, T.c_BadNumber, rfl, T.ox_BadNumber, T.n_BadNumber_what, .inl ⟨ha, fun d hd hda => ?_⟩⟩
    refine ⟨_, rfl, _, rfl, a, T.c_BadNumber, rfl, T.ox_BadNumber, T.n_BadNumber_value, .inr ⟨d, [("what", x)], upd_same, ?_, by show 1 ≤ 900; decide, ?_⟩⟩
    · rw [upd_ne hda, upd_same]
    · exact q d hd hda
theorem ok_is_integer (T : Ctx K mg) : FnOk P w K mg base CX0 1 T.f_is_integer T.fd_is_integer ["value"] (spIsInt K) := by
  refine T.F_is_integer.ok sc_is_integer (fun vs H Q E h => ?_) (fun cdv A outer s H vs Q E hr h => ?_)
  · obtain ⟨x, rfl, _⟩ := h
    rfl
  · obtain ⟨x, rfl, ⟨t, b1, b2, ty, k1, k2, e⟩, q⟩ := h
    refine ⟨_, (pss_one (ps_ret (pe_and (pe_callB call_isi (by rfl) T.m_isinstance (by decide +kernel) (pa_cons (pv 0) (pa_cons (pe_bltn (v := .ty "int") (by rfl) T.m_int (by decide +kernel) rfl) pa_nil))) (pe_one (pe_not (pe_callB call_isi (by rfl) T.m_isinstance (by decide +kernel) (pa_cons (pv 0) (pa_cons (pe_bltn (v := .ty "bool") (by rfl) T.m_bool (by decide +kernel) rfl) pa_nil)))))))), ?_⟩
    refine ⟨_, rfl, _, _, _, _, _, rfl, .ty _, ty, k1, b1, rfl, ?_⟩
    rw [← e] at q
    cases b1 with
    | false => exact iteF q
    | true => exact iteT ⟨_, rfl, _, _, _, _, _, rfl, .ty _, ty, k2 rfl, b2, rfl, q⟩
theorem ok_check_number (T : Ctx K mg) : FnOk P w K mg base (L2.CX P w) 3 T.f_check_number T.fd_check_number ["what", "value", "low", "high"] (spCheck K T.c_BadNumber) := by
  refine T.F_check_number.okX sc_check_number (fun vs H Q E h => ?_) (fun cdv A outer s H vs Q E hr h => ?_)
  · obtain ⟨w, x, lo, hi, rfl, _⟩ := h
    rfl
  · obtain ⟨w, x, lo, hi, rfl, kn, q1, q2⟩ := h
    refine ⟨_, (pss_cons (ps_if (pt_not (pt_val (pe_call (ok_is_integer T) (hr.mono (by decide)) (by rfl) T.g_is_integer T.F_is_integer.kp T.b_is_integer .nil pass0 (pa_cons (pv 1) pa_nil))))
        (pss_one (ps_raise rfl (takes_of rfl rfl rfl rfl) (pmk_oex T.ox_BadNumber T.xn_BadNumber T.xt_BadNumber (ok_BadNumber_init T) (hr.mono (by decide)) T.b_BadNumber_init .nil pass0 (by rfl) T.gc_BadNumber (pa_cons (pv 0) (pa_cons (pv 1) pa_nil)))))
        pss_nil)
      (Evl.pss_cut (ps_if (PW.pt (pw_and (pt_cmpR op_notN (pv 2) pe_non (nomark _)) (pw_and1 (pt_cmpR op_lt (pv 1) (pv 2) (nomark _)))))
        (pss_one (ps_raise rfl (takes_of rfl rfl rfl rfl) (pmk_oex T.ox_BadNumber T.xn_BadNumber T.xt_BadNumber (ok_BadNumber_init T) (hr.mono (by decide)) T.b_BadNumber_init .nil pass0 (by rfl) T.gc_BadNumber (pa_cons (pv 0) (pa_cons (pv 1) pa_nil)))))
        pss_nil)
      (Evl.pss_cut (ps_if (PW.pt (pw_and (pt_cmpR op_notN (pv 3) pe_non (nomark _)) (pw_and1 (pt_cmpR op_gt (pv 1) (pv 3) (nomark _)))))
        (pss_one (ps_raise rfl (takes_of rfl rfl rfl rfl) (pmk_oex T.ox_BadNumber T.xn_BadNumber T.xt_BadNumber (ok_BadNumber_init T) (hr.mono (by decide)) T.b_BadNumber_init .nil pass0 (by rfl) T.gc_BadNumber (pa_cons (pv 0) (pa_cons (pv 1) pa_nil)))))
        pss_nil)
      (pss_one (ps_ret (pv 1)))))), ?_⟩
    refine ⟨_, rfl, x, rfl, kn, _, rfl, ?_⟩
    cases x with
    | int i =>
      refine iteF ?_
      refine ⟨fun σ' H' => σ' = [some (.str w), some (.int i), some (oV lo), some (oV hi)] ∧ H' = H ∧ lo.all (fun l => decide (l ≤ i)) = true, ?_, ?_⟩
      · cases lo with
        | none => exact ⟨_, rfl, rfl, _, rfl, iteF ⟨rfl, rfl, rfl⟩⟩
        | some l =>
          refine ⟨_, rfl, rfl, _, rfl, iteT ⟨_, rfl, _, rfl, _, _, rfl, rfl, _, rfl, ?_⟩⟩
          refine ite2 (fun hc => ?_) fun hc => ⟨rfl, rfl, ?_⟩
          · have hlt := of_decide_eq_true hc
            refine ⟨_, rfl, _, rfl, mk2 (q2 ?_)⟩
            have z : decide (l ≤ i) = false := decide_eq_false (by omega)
            simp [good, z]
          · have hlt := of_decide_eq_false (Bool.eq_false_iff.mpr hc)
            exact decide_eq_true (show l ≤ i by omega)
      · rintro σ' H' ⟨rfl, rfl, hlo⟩
        refine ⟨fun σ' H'' => σ' = [some (.str w), some (.int i), some (oV lo), some (oV hi)] ∧ H'' = H' ∧ hi.all (fun h => decide (i ≤ h)) = true, ?_, ?_⟩
        · cases hi with
          | none => exact ⟨_, rfl, rfl, _, rfl, iteF ⟨rfl, rfl, rfl⟩⟩
          | some l =>
            refine ⟨_, rfl, rfl, _, rfl, iteT ⟨_, rfl, _, rfl, _, _, rfl, rfl, _, rfl, ?_⟩⟩
            refine ite2 (fun hc => ?_) fun hc => ⟨rfl, rfl, ?_⟩
            · have hlt := of_decide_eq_true hc
              refine ⟨_, rfl, _, rfl, mk2 (q2 ?_)⟩
              have z : decide (i ≤ l) = false := decide_eq_false (by omega)
              simp [good, z]
            · have hlt := of_decide_eq_false (Bool.eq_false_iff.mpr hc)
              exact decide_eq_true (show i ≤ l by omega)
        · rintro σ' H'' ⟨rfl, rfl, hhi⟩
          refine ⟨_, rfl, q1 ?_⟩
          show (lo.all (fun l => decide (l ≤ i)) && hi.all (fun h => decide (i ≤ h))) = true
          rw [hlo, hhi] <;> rfl
    | _ => exact iteT ⟨_, rfl, _, rfl, mk2 (q2 rfl)⟩
end
section
variable {P : Program} {w : World} {K : PySem.W.Frag} {mg : Str → Option Value} {base : Heap}
theorem ok_check_copies (T : Ctx K mg) : FnOk P w K mg base (L2.CX P w) 4 T.f_check_copies T.fd_check_copies ["copies"] (spCopies K T.c_BadNumber) := by
  refine T.F_check_copies.okX sc_check_copies (fun vs H Q E h => ?_) (fun cdv A outer s H vs Q E hr h => ?_)
  · obtain ⟨x, rfl, _⟩ := h
    rfl
  · obtain ⟨x, rfl, kn, k1, k2⟩ := h
    refine ⟨_, (pss_one (ps_ret (pe_call (ok_check_number T) (hr.mono (by decide)) (by rfl) T.g_check_number T.F_check_number.kp T.b_check_number .nil (passes_call (takes_of rfl rfl rfl rfl) (fun _ _ _ _ h => h)) (pa_cons pe_str (pa_cons (pv 0) (pa_cons pe_int (pa_cons (pe_glob (v := .int 8) (by rfl) T.gk_MOST_COPIES ⟨_, rfl⟩) pa_nil))))))), ?_⟩
    exact ⟨_, rfl, "copies", x, some 1, some 8, rfl, kn, k1, k2⟩
theorem ok_check_copy (T : Ctx K mg) : FnOk P w K mg base (L2.CX P w) 4 T.f_check_copy T.fd_check_copy ["copies", "copy"] (spCopy K T.c_BadNumber) := by
  refine T.F_check_copy.okX sc_check_copy (fun vs H Q E h => ?_) (fun cdv A outer s H vs Q E hr h => ?_)
  · obtain ⟨n, x, rfl, _⟩ := h
    rfl
  · obtain ⟨n, x, rfl, kn, k1, k2⟩ := h
    refine ⟨_, (pss_one (ps_ret (pe_call (ok_check_number T) (hr.mono (by decide)) (by rfl) T.g_check_number T.F_check_number.kp T.b_check_number .nil (passes_call (takes_of rfl rfl rfl rfl) (fun _ _ _ _ h => h)) (pa_cons pe_str (pa_cons (pv 1) (pa_cons pe_int (pa_cons (pe_op op_sub (pv 0) pe_int) pa_nil))))))), ?_⟩
    exact ⟨_, rfl, _, rfl, _, _, rfl, rfl, "copy", x, some 0, some ((n : Int) - 1), rfl, kn, k1, k2⟩
theorem ok_mask_of (T : Ctx K mg) : FnOk P w K mg base (L2.CX P w) 5 T.f_mask_of T.fd_mask_of ["copies", "numbers"] (spMaskOf K T.c_BadNumber) := by
  refine T.F_mask_of.okX sc_mask_of (fun vs H Q E h => ?_) (fun cdv A outer s H vs Q E hr h => ?_)
  · obtain ⟨n, a, xs, rfl, _⟩ := h
    rfl
  · obtain ⟨n, a, xs, rfl, hn, hS, sc, k1, k2⟩ := h
    refine ⟨_, (pss_cons (ps_set (i := 2) sc_mask_of.nd rfl (Or.inl rfl) pe_int)
      (pss_cons (ps_for (passes_of rfl) rfl (pi_seq (pv 1)) (pg_name (i := 3) sc_mask_of.nd rfl (Or.inl rfl))
        (pss_one (ps_set (i := 2) sc_mask_of.nd rfl (Or.inl rfl) (pe_op op_or (pv 2) (pe_op op_shl pe_int (pe_call (ok_check_copy T) (hr.mono (by decide)) (by rfl) T.g_check_copy T.F_check_copy.kp T.b_check_copy .nil (passes_call (takes_of rfl rfl rfl rfl) (fun _ _ _ _ h => h)) (pa_cons (pv 0) (pa_cons (pv 3) pa_nil))))))))
      (pss_one (ps_ret (pv 2))))), ?_⟩
    let Pv : Nat → L2.St → Hp → Prop := fun i σ H' => H' = H ∧ (∀ x ∈ xs.take i, copyOk n x = true) ∧ ∃ v, σ = [some (.int n), some (.ref a), some (.int (maskV (xs.take i))), v]
    have start : Pv 0 [some (.int n), some (.ref a), some (.int 0), none] H := ⟨rfl, fun x hx => by simp at hx, _, rfl⟩
    have fin : ∀ σ H', Pv xs.length σ H' → ∃ v, σ[2]? = some (some v) ∧ Q v H' := by
      rintro σ H' ⟨rfl, hok, v, rfl⟩
      rw [List.take_length] at hok ⊢
      exact ⟨_, rfl, k1 (badOf_ok hok)⟩
    have turn : ∀ i x σ H', xs[i]? = some x → Pv i σ H' → ∃ v, σ = [some (.int n), some (.ref a), some (.int (maskV (xs.take i))), v] ∧ H' = H ∧ Kn K H x ∧
        (copyOk n x = true → ∃ c : Nat, x = .int c ∧ Builtin.bitOr (maskV (xs.take i)) ((1 : Int) * (2 : Int) ^ ((c : Int)).toNat) = (maskV (xs.take (i + 1)) : Nat) ∧ c < n ∧ ∀ x ∈ xs.take (i + 1), copyOk n x = true) ∧ (copyOk n x = false → Err T.c_BadNumber H E "copy" x) := by
      rintro i x σ H' hx ⟨rfl, hok, v, rfl⟩
      refine ⟨v, rfl, rfl, kn_scal (sc x (List.mem_of_getElem? hx)), fun h => ?_, fun h => k2 x ?_⟩
      · obtain ⟨c, rfl, hc⟩ := copyOk_iff h
        refine ⟨c, rfl, ?_, hc, fun y hy => ?_⟩
        · rw [List.take_add_one, hx, shl_nat c, bitOr_nn (Int.natCast_nonneg _) (Int.natCast_nonneg _), Int.toNat_natCast, Int.toNat_natCast]
          show _ = ((maskV (xs.take i ++ [.int (c : Nat)]) : Nat) : Int)
          rw [maskV_snoc] <;> rfl
        · rw [List.take_add_one, hx] at hy
          rcases List.mem_append.mp hy with k | k
          · exact hok y k
          · have k : y ∈ [V.int (c : Nat)] := k
            rw [List.mem_singleton.mp k]
            exact h
      · exact badOf_at hx hok h
    refine ⟨_, rfl, a, rfl, ?_⟩
    rcases hS with hS | hS
    · refine .inl ⟨⟨xs, hS⟩, for_list (K := K) (a := a) (xs := xs) Pv start (fun i σ H' _ h => by rw [h.1]; exact hS) (fun i x σ H' hx hp => ?_) fun σ H' hp => fin σ H' hp⟩
      obtain ⟨v, rfl, rfl, kn, t1, t2⟩ := turn i x σ H' hx hp
      refine ⟨_, rfl, _, rfl, _, rfl, n, x, rfl, kn, fun h => ?_, t2⟩
      obtain ⟨c, rfl, e, hc, ho⟩ := t1 h
      refine ⟨_, _, rfl, rfl, ⟨by omega, by omega, by decide⟩, _, _, rfl, rfl, ?_⟩
      refine ⟨rfl, ho, some (.int c), ?_⟩
      show [some (V.int n), some (.ref a), some (V.int (Builtin.bitOr (maskV (xs.take i)) ((1 : Int) * (2 : Int) ^ ((c : Int)).toNat))), some (.int c)] = _
      rw [e]
    · refine .inr ⟨⟨xs, hS⟩, for_tup (K := K) (a := a) (xs := xs) Pv start (fun i σ H' _ h => by rw [h.1]; exact hS) (fun i x σ H' hx hp => ?_) fun σ H' hp => fin σ H' hp⟩
      obtain ⟨v, rfl, rfl, kn, t1, t2⟩ := turn i x σ H' hx hp
      refine ⟨_, rfl, _, rfl, _, rfl, n, x, rfl, kn, fun h => ?_, t2⟩
      obtain ⟨c, rfl, e, hc, ho⟩ := t1 h
      refine ⟨_, _, rfl, rfl, ⟨by omega, by omega, by decide⟩, _, _, rfl, rfl, ?_⟩
      refine ⟨rfl, ho, some (.int c), ?_⟩
      show [some (V.int n), some (.ref a), some (V.int (Builtin.bitOr (maskV (xs.take i)) ((1 : Int) * (2 : Int) ^ ((c : Int)).toNat))), some (.int c)] = _
      rw [e]
theorem ok_lot_at (T : Ctx K mg) : FnOk P w K mg base CX0 1 T.f_lot_at T.fd_lot_at ["mask"] (spLotAt K) := by
  refine T.F_lot_at.ok sc_lot_at (fun vs H Q E h => ?_) (fun cdv A outer s H vs Q E hr h => ?_)
  · obtain ⟨m, rfl, _⟩ := h
    rfl
  · obtain ⟨m, rfl, q⟩ := h
    refine ⟨_, (pss_one (ps_ret (pe_callTy call_tuple_of (by rfl) T.m_tuple (by decide +kernel) (pa_cons (pe_lc (own := [("copy", 1)]) (g := gName 1) (tt := _) rfl sc_lot_at.nd (pi_range1 (by rfl) T.m_range (pa_cons (pe_glob (v := .int 8) (by rfl) T.gk_MOST_COPIES ⟨_, rfl⟩) pa_nil)) (blkOk_by (own := [("copy", 1)]) (N := ["mask", "copy"]) (sc := defScope s_lot_at) (by decide +kernel)) (fun _ _ _ _ _ => (pg_name (i := 1) sc_lot_at.nd rfl (Or.inl rfl))) (fun _ _ _ _ _ => (pts_one (pt_int (pe_op op_and (pv 0) (pe_op op_shl pe_int (pv 1)))))) (fun _ _ _ _ _ => (pv 1))) pa_nil)))), ?_⟩
    refine ⟨_, rfl, by decide, by decide, fun D nD => lc_itM (walk_range (lo := 0) (n := 8)) (fun i => if m.testBit i then some (V.int i) else none) (fun a y _ => y = a) (fun _ _ _ _ _ h => h) nD (fun _ _ => trivial) (by decide) ?_ ?_⟩
    · rintro i x H1 H' k N hi sm ⟨rfl, rfl⟩ h1 h2
      refine ⟨rfl, _, rfl, _, rfl, _, _, rfl, rfl, ⟨by omega, by omega, by decide⟩, _, _, rfl, rfl, _, rfl, ?_⟩
      have e0 : (Builtin.bitAnd (m : Int) ((1 : Int) * (2 : Int) ^ (0 + (i : Int)).toNat) != 0) = m.testBit i := by rw [Int.zero_add, shl_nat, bitAnd_nat, and_bit]
      rw [e0]
      cases e : m.testBit i with
      | true => exact iteT ⟨_, rfl, h1 _ _ _ (Same.refl _) (by rw [e] <;> rfl) (by show V.int (0 + (i : Int)) = V.int i; rw [Int.zero_add])⟩
      | false => exact iteF (h2 _ (Same.refl _) (by rw [e] <;> rfl))
    · intro H' ys sm hD p
      have e := paired_eq p
      have e2 : ys = lotV m := by
        rw [e]
        unfold lotV lotL oneL
        rw [List.map_map, ← List.filterMap_eq_map, List.filterMap_filter]
        rfl
      subst e2
      exact ⟨D, _, rfl, .inl ⟨SqL.of hD, fun l nl => q l _ (same_upd2 sm (sm.free nl)) (sm.free nl) upd_same⟩⟩
end
section
variable {P : Program} {w : World} {K : PySem.W.Frag} {mg : Str → Option Value} {base : Heap}
theorem ok_BadLot_init (T : Ctx K mg) : FnOk P w K mg base CX0 1 T.f_BadLot_init T.fd_BadLot_init ["self", "place"] (spX1 T.c_BadLot "place") := by
  refine T.F_BadLot_init.ok sc_BadLot_init (fun vs H Q E h => ?_) (fun cdv A outer s H vs Q E hr h => ?_)
  · obtain ⟨a, x, rfl, _⟩ := h
    rfl
  · obtain ⟨a, x, rfl, ha, q⟩ := h
    refine ⟨_, (pss_one (ps_ost (pv 0) (pv 1))), ?_⟩
    exact ⟨_, rfl, _, rfl, a, T.c_BadLot, rfl, T.ox_BadLot, T.n_BadLot_place, .inl ⟨ha, fun d hd hda => q d hd hda⟩⟩
theorem ok_check_alike (T : Ctx K mg) : FnOk P w K mg base (L2.CX P w) 1 T.f_check_alike T.fd_check_alike ["copies", "other"] (spAlike K T.c_Family T.c_Unlike) := by
  refine T.F_check_alike.okX sc_check_alike (fun vs H Q E h => ?_) (fun cdv A outer s H vs Q E hr h => ?_)
  · obtain ⟨n, m, v, g, rfl, _⟩ := h
    rfl
  · obtain ⟨n, m, v, g, rfl, ⟨⟨a, dx, tl, tm, ls, rfl, ha, _⟩, _⟩, k1, k2⟩ := h
    refine ⟨_, (pss_one (ps_if (pt_cmpR op_ne (pe_fld (pv 1) rfl) (pv 0) (nomark _))
        (pss_one (ps_raise rfl (takes_of rfl rfl rfl rfl) (pmk_own0 T.e0_Unlike T.gc_Unlike (by rfl))))
        pss_nil)), ?_⟩
    refine ⟨_, rfl, a, T.c_Family, dx, _, _, rfl, ha, T.cl_Family, T.n_Family_copies, famF_copies _ _ _, _, rfl, rfl, _, rfl, ?_⟩
    by_cases e : n = m
    · subst e
      have e1 : (!decide (V.int (n : Int) = V.int n)) = false := by simp
      rw [e1]
      exact iteF (k1 rfl)
    · have e1 : (!decide (V.int (m : Int) = V.int n)) = true := by
        rw [decide_eq_false (fun z => e (by injection z with z; omega))] <;> rfl
      rw [e1]
      exact iteT (k2 e)
theorem ok_is_within (T : Ctx K mg) : FnOk P w K mg base CX0 1 T.f_is_within T.fd_is_within ["marks", "more"] (spWithin K) := by
  refine T.F_is_within.ok sc_is_within (fun vs H Q E h => ?_) (fun cdv A outer s H vs Q E hr h => ?_)
  · obtain ⟨p, q, n, f, g, rfl, _⟩ := h
    rfl
  · obtain ⟨p, q, n, f, g, rfl, hS, hn, k⟩ := h
    refine ⟨_, (pss_one (ps_ret (pe_callB (cr_all rfl) (by rfl) T.m_all (by decide +kernel) (pa_cons (pe_lc (own := [("mine", 2), ("theirs", 3)]) (g := gTup K 2 (gCons (gName 2) (gCons (gName 3) gNil))) (tt := tYes) rfl sc_is_within.nd (RZ.pi_zipA (by rfl) T.m_zip (pa_cons (pv 0) (pa_cons (pv 1) pa_nil))) (blkOk_by (own := [("mine", 2), ("theirs", 3)]) (N := ["marks", "more", "mine", "theirs"]) (sc := defScope s_is_within) (by decide +kernel)) (fun _ _ _ _ _ => (pg_tup rfl (pgs_cons (pg_name (i := 2) sc_is_within.nd rfl (Or.inl rfl)) (pgs_cons (pg_name (i := 3) sc_is_within.nd rfl (Or.inl rfl)) pgs_nil)))) (fun _ _ _ _ _ => pts_nil) (fun _ _ _ _ _ => (pe_or (pv 3) (pe_one (pe_not (pv 2)))))) pa_nil)))), ?_⟩
    have hl : min (marksV n f).length (marksV n g).length = 2 ^ n := by rw [marksV_len, marksV_len, Nat.min_self]
    have h256 := pow_le8 hn
    have fin : ∀ {D : Addr} {H' : Hp} {ys : List V}, Same H H' → H' D = some (.lst ys) → ys = (List.range (2 ^ n)).map (fun m => V.bl (g m || !f m)) → ∃ (a : Addr) (bs : List Bool), [V.ref D] = [V.ref a] ∧ SqL K H' a (bs.map V.bl) ∧ Q (.bl (bs.all id)) H' := fun {D H' ys} sm hD e => by
      refine ⟨D, (List.range (2 ^ n)).map (fun m => g m || !f m), rfl, ?_, ?_⟩
      · rw [List.map_map]
        rw [e] at hD
        exact SqL.of hD
      · have := k H' sm
        unfold leB at this
        rw [List.all_map]
        exact this
    rcases hS with ⟨h1, h2⟩ | ⟨h1, h2⟩
    · refine ⟨_, rfl, _, rfl, p, q, _, _, rfl, .inr ⟨h1, h2, fun D nD => ?_⟩⟩
      refine lc_itA (walk_zipT hl.symm) (fun m => V.bl (g m || !f m)) (fun a y _ => y = a) (fun _ _ _ _ _ h => h) nD (fun H' e => ⟨Same.seqT e h1, Same.seqT e h2⟩) (by omega) ?_ fun H' ys sm hD pr => fin sm hD (paired_fn (prUnmapL pr))
      rintro m x H1 H' k1 hm sm ⟨t, y, z, rfl, nt, rfl, hy, hz⟩ h1
      obtain ⟨_, rfl⟩ := marksV_get hy
      obtain ⟨_, rfl⟩ := marksV_get hz
      refine ⟨t, _, rfl, .inl (.inl upd_same), rfl, _, _, rfl, _, _, rfl, rfl, rfl, ?_⟩
      refine ⟨_, rfl, _, rfl, ite2 (fun c => ?_) fun c => ⟨_, rfl, _, rfl, ?_⟩⟩
      · exact h1 _ _ (same_upd nt) (by rw [c] <;> rfl)
      · exact h1 _ _ (same_upd nt) (by rw [Bool.eq_false_iff.mpr c, Bool.false_or])
    · refine ⟨_, rfl, _, rfl, p, q, _, _, rfl, .inl ⟨h1, h2, fun D nD => ?_⟩⟩
      refine lc_itA (walk_zip hl.symm) (fun m => V.bl (g m || !f m)) (fun a y _ => y = a) (fun _ _ _ _ _ h => h) nD (fun H' e => ⟨e.seq h1, e.seq h2⟩) (by omega) ?_ fun H' ys sm hD pr => fin sm hD (paired_fn (prUnmapL pr))
      rintro m x H1 H' k1 hm sm ⟨t, y, z, rfl, nt, rfl, hy, hz⟩ h1
      obtain ⟨_, rfl⟩ := marksV_get hy
      obtain ⟨_, rfl⟩ := marksV_get hz
      refine ⟨t, _, rfl, .inl (.inl upd_same), rfl, _, _, rfl, _, _, rfl, rfl, rfl, ?_⟩
      refine ⟨_, rfl, _, rfl, ite2 (fun c => ?_) fun c => ⟨_, rfl, _, rfl, ?_⟩⟩
      · exact h1 _ _ (same_upd nt) (by rw [c] <;> rfl)
      · exact h1 _ _ (same_upd nt) (by rw [Bool.eq_false_iff.mpr c, Bool.false_or])
theorem ok_masks_of (T : Ctx K mg) : FnOk P w K mg base (L2.CX P w) 6 T.f_masks_of T.fd_masks_of ["copies", "lots"] (spMasks K T.c_BadNumber T.c_BadLot) := by
  refine T.F_masks_of.okX sc_masks_of (fun vs H Q E h => ?_) (fun cdv A outer s H vs Q E hr h => ?_)
  · obtain ⟨n, p, ls, xss, rfl, _⟩ := h
    rfl
  · obtain ⟨n, p, ls, xss, rfl, hn, hS, pr, hl, k1, k2, k3⟩ := h
    refine ⟨_, (pss_cons (ps_set (i := 2) sc_masks_of.nd rfl (Or.inl rfl) (pe_lst pa_nil))
      (pss_cons (ps_for (passes_of rfl) rfl (pi_enumA (by rfl) T.m_enumerate (pa_cons (pv 1) pa_nil)) (pg_tup rfl (pgs_cons (pg_name (i := 3) sc_masks_of.nd rfl (Or.inl rfl)) (pgs_cons (pg_name (i := 4) sc_masks_of.nd rfl (Or.inl rfl)) pgs_nil)))
        (pss_cons (ps_set (i := 5) sc_masks_of.nd rfl (Or.inl rfl) (pe_call (ok_mask_of T) (hr.mono (by decide)) (by rfl) T.g_mask_of T.F_mask_of.kp T.b_mask_of .nil (passes_call (takes_of rfl rfl rfl rfl) (fun _ _ _ _ h => h)) (pa_cons (pv 0) (pa_cons (pv 4) pa_nil))))
        (pss_cons (ps_if (pt_cmpR op_eq (pv 5) pe_int (nomark _))
          (pss_one (ps_raise rfl (takes_of rfl rfl rfl rfl) (pmk_oex T.ox_BadLot T.xn_BadLot T.xt_BadLot (ok_BadLot_init T) (hr.mono (by decide)) T.b_BadLot_init .nil pass0 (by rfl) T.gc_BadLot (pa_cons (pv 3) pa_nil))))
          pss_nil)
        (pss_one (ps_expr (pe_bm PySem.F.plainAttrs_list PySem.F.slot_list_append PySem.F.type_list_append mt_append (pv 2) (pa_cons (pv 5) pa_nil)))))))
      (pss_one (ps_ret (pv 2))))), ?_⟩
    refine ⟨(by show 0 ≤ sizeLine; decide), fun q0 nq => ?_⟩
    have el := prLen pr
    refine ⟨_, rfl, p, ls, rfl, .inr ⟨Same.seqT (same_upd nq) hS, ?_⟩⟩
    refine for_it walk_enumT (fun i σ H' => i ≤ ls.length ∧ Same H H' ∧ badFrom n 0 xss = badFrom n i (xss.drop i) ∧ (∃ v3 v4 v5, σ = [some (.int n), some (.ref p), some (.ref q0), v3, v4, v5]) ∧ H' q0 = some (.lst ((xss.take i).map fun xs => .int (maskV xs))))
      ⟨Nat.zero_le _, same_upd nq, rfl, ⟨_, _, _, rfl⟩, upd_same⟩ (fun i σ H' _ h => Same.seqT h.2.1 hS) ?_ ?_
    · rintro i x σ H1 H2 hi ⟨_, sm, hb, ⟨v3, v4, v5, rfl⟩, hq⟩ ⟨t, y, z, rfl, nt, rfl, hy, hz⟩
      cases hy
      obtain ⟨xs, hxs, b, rfl, hA, sc⟩ := prAt pr hz
      have st := same_upd (o := .tup [.int (i : Nat), .ref b]) nt
      have hq2 := st _ _ hq
      have sm2 := sm.trans st
      have e1000 : (1000 : Nat) < sizeLine := by decide
      have hdrop : xss.drop i = xs :: xss.drop (i + 1) := by
        obtain ⟨h1, h2⟩ := List.getElem?_eq_some_iff.mp hxs
        rw [← h2]
        exact List.drop_eq_getElem_cons h1
      rw [hdrop] at hb
      have hb2 : badFrom n i (xs :: xss.drop (i + 1)) = match badOf n xs with
        | some x => .copy x
        | none => if maskV xs = 0 then .empty i else badFrom n (i + 1) (xss.drop (i + 1)) := rfl
      rw [hb2] at hb
      refine ⟨t, _, rfl, .inl (.inl upd_same), rfl, _, _, rfl, _, _, rfl, rfl, ?_⟩
      refine ⟨_, rfl, _, rfl, n, b, xs, rfl, hn, hA.same sm2, sc, fun ho => ?_, fun x ho => ?_⟩
      · rw [ho] at hb
        simp only at hb
        refine ⟨_, rfl, rfl, _, rfl, ?_⟩
        by_cases hz : maskV xs = 0
        · rw [hz, if_pos rfl] at hb
          rw [hz]
          exact iteT ⟨_, rfl, mk1 ((k3 i hb).of sm2)⟩
        · rw [if_neg hz] at hb
          have e1 : decide (V.int (maskV xs : Nat) = V.int 0) = false := decide_eq_false fun z => by injection z with z; omega
          rw [e1]
          refine iteF ⟨_, rfl, .inl ⟨rfl, _, SqL.of hq2⟩, _, rfl, q0, _, _, rfl, rfl, hq2, by rw [List.length_map, List.length_take]; omega, ?_⟩
          refine ⟨hi, same_upd2 sm2 nq, hb, ⟨_, _, _, rfl⟩, ?_⟩
          rw [upd_same, List.take_add_one, hxs, List.map_append]
          rfl
      · rw [ho] at hb
        exact (k2 x hb).of sm2
    · rintro σ H1 ⟨_, sm, hb, ⟨v3, v4, v5, rfl⟩, hq⟩
      have e0 : xss.drop ls.length = [] := List.drop_eq_nil_of_le (by omega)
      have e1 : xss.take ls.length = xss := List.take_of_length_le (by omega)
      rw [e0] at hb
      rw [e1] at hq
      exact ⟨_, rfl, k1 hb q0 H1 sm nq hq⟩
theorem ok_marks_above (T : Ctx K mg) : FnOk P w K mg base CX0 1 T.f_marks_above T.fd_marks_above ["copies", "masks"] (spAbove K) := by
  refine T.F_marks_above.ok sc_marks_above (fun vs H Q E h => ?_) (fun cdv A outer s H vs Q E hr h => ?_)
  · obtain ⟨n, p, ms, rfl, _⟩ := h
    rfl
  · obtain ⟨n, p, ms, rfl, hn, hS, hms, k⟩ := h
    refine ⟨_, (pss_cons (ps_set (i := 2) sc_marks_above.nd rfl (Or.inr rfl) (pe_lc (own := [("_", 3)]) (g := gName 3) (tt := tYes) rfl sc_marks_above.nd (pi_range1 (by rfl) T.m_range (pa_cons (pe_op op_shl pe_int (pv 0)) pa_nil)) (blkOk_by (own := [("_", 3)]) (N := ["copies", "masks", "marks", "_", "mask", "copy", "bit", "mark"]) (sc := defScope s_marks_above) (by decide +kernel)) (fun _ _ _ _ _ => (pg_name (i := 3) sc_marks_above.nd rfl (Or.inl rfl))) (fun _ _ _ _ _ => pts_nil) (fun _ _ _ _ _ => pe_bl)))
      (pss_cons (ps_for PassesOwn.never rfl (pi_list (pv 1)) (pg_name (i := 4) sc_marks_above.nd rfl (Or.inl rfl))
        (pss_one (ps_asg pe_bl (pg_sub (pv 2) (pv 4) set_list))))
      (pss_cons (ps_for PassesOwn.never rfl (pi_range1 (by rfl) T.m_range (pa_cons (pv 0) pa_nil)) (pg_name (i := 5) sc_marks_above.nd rfl (Or.inl rfl))
        (pss_cons (ps_set (i := 6) sc_marks_above.nd rfl (Or.inr rfl) (pe_op op_shl pe_int (pv 5)))
        (pss_one (ps_set (i := 2) sc_marks_above.nd rfl (Or.inr rfl) (pe_lc (own := [("mask", 4), ("mark", 7)]) (g := gTup K 2 (gCons (gName 4) (gCons (gName 7) gNil))) (tt := tYes) rfl sc_marks_above.nd (pi_enumA (by rfl) T.m_enumerate (pa_cons (pv 2) pa_nil)) (blkOk_by (own := [("mask", 4), ("mark", 7)]) (N := ["copies", "masks", "marks", "_", "mask", "copy", "bit", "mark"]) (sc := defScope s_marks_above) (by decide +kernel)) (fun _ _ _ _ _ => (pg_tup rfl (pgs_cons (pg_name (i := 4) sc_marks_above.nd rfl (Or.inl rfl)) (pgs_cons (pg_name (i := 7) sc_marks_above.nd rfl (Or.inl rfl)) pgs_nil)))) (fun _ _ _ _ _ => pts_nil) (fun _ _ _ _ _ => (pe_or (pv 7) (pe_one (pe_ix (ixK_list (K := K) rfl) (pv 2) (pe_op op_and (pv 4) (pe_un un_inv (pv 6))) (fun _ _ => rfl))))))))))
      (pss_one (ps_ret (pv 2)))))), ?_⟩
    have h256 := pow_le8 hn
    have e256 : (256 : Nat) < sizeLine := by decide
    have sh : (1 : Int) * (2 : Int) ^ ((n : Int)).toNat = ((2 ^ n : Nat) : Int) := by rw [shl_nat, Nat.one_shiftLeft]
    refine ⟨_, rfl, _, _, rfl, rfl, ⟨by omega, by omega, by decide⟩, ?_⟩
    have small : ∀ N : Nat, N ≤ 256 → -(2 ^ 62) ≤ (N : Int) ∧ (N : Int) < 2 ^ 62 := fun N h => ⟨by omega, by omega⟩
    refine ⟨((2 ^ n : Nat) : Int), congrArg (fun z => [V.int z]) sh, (small _ h256).1, (small _ h256).2, fun q0 nq => ?_⟩
    rw [Int.toNat_natCast]
    have nq' := nq
    refine lc_itA (walk_range (lo := 0) (n := 2 ^ n)) (fun _ => V.bl false) (fun a y _ => y = a) (fun _ _ _ _ _ h => h) nq (fun _ _ => trivial) (by omega) ?_ ?_
    · rintro m x H1 H2 k1 hm s1 ⟨rfl, rfl⟩ h1
      exact ⟨rfl, h1 _ _ (Same.refl _) rfl⟩
    intro H0 ys s0 hD pr
    have hq0 : H0 q0 = some (.lst (marksV n fun m => decide (m ∈ ms.take 0))) := by
      rw [hD, paired_fn (prUnmapL pr)]
      refine congrArg (fun z => some (HO.lst z)) ?_
      unfold marksV
      rw [List.map_map]
      exact List.map_congr_left fun m _ => by simp
    clear hD pr
    have hp0 := s0.seq hS
    refine ⟨_, rfl, p, rfl, ⟨_, hp0⟩, for_list (K := K) (a := p) (xs := ms.map fun (m : Nat) => V.int m) (fun i σ H' => i ≤ ms.length ∧ Same H H' ∧ H' q0 = some (.lst (marksV n fun m => decide (m ∈ ms.take i))) ∧ ∃ v3, σ = [some (.int n), some (.ref p), some (.ref q0), none, v3, none, none, none])
      ⟨Nat.zero_le _, s0, hq0, _, rfl⟩ (fun i σ H' _ h => h.2.1.seq hS) ?_ ?_⟩
    · rintro i x σ H1 hx ⟨_, sm, hq, v3, rfl⟩
      rw [List.getElem?_map] at hx
      cases hm : ms[i]? with
      | none => rw [hm] at hx; cases hx
      | some m =>
        rw [hm] at hx
        cases hx
        have hlt := hms m (List.mem_of_getElem? hm)
        refine ⟨_, rfl, _, rfl, q0, _, _, m, rfl, rfl, hq, ?_, ?_⟩
        · rw [marksV_len]
          exact ixN_nat hlt
        · refine ⟨(List.getElem?_eq_some_iff.mp hm).1, same_upd2 sm nq', ?_, _, rfl⟩
          rw [upd_same, marksV_set _ hlt]
          refine congrArg (fun z => some (HO.lst z)) (marksV_congr fun k _ => ?_)
          rw [List.take_add_one, hm]
          simp only [Option.toList_some, List.mem_append, List.mem_singleton, Bool.decide_or]
          by_cases e : k = m
          · simp [e]
          · simp [e]
    · rintro σ H1 ⟨_, sm, hq, v3, rfl⟩
      rw [List.length_map, List.take_length] at hq
      have e0 : ∀ m, growN 0 (fun m => decide (m ∈ ms)) m = decide (m ∈ ms) := fun _ => rfl
      refine ⟨_, rfl, n, rfl, by omega, by omega, for_range (n := n) (fun i σ H' => i ≤ n ∧ Same H H' ∧ ∃ qi v3 v4 v5 v6, σ = [some (.int n), some (.ref p), some (.ref qi), none, v3, v4, v5, v6] ∧ H qi = none ∧ H' qi = some (.lst (marksV n (growN i fun m => decide (m ∈ ms)))))
        ⟨Nat.zero_le _, sm, q0, _, _, _, _, rfl, nq', hq⟩ ?_ ?_⟩
      · rintro i σ H2 hi ⟨_, sm2, qi, v3, v4, v5, v6, rfl, nqi, hqi⟩
        have hi : i < n := by omega
        refine ⟨_, rfl, _, _, rfl, rfl, ⟨by omega, by omega, by decide⟩, ?_⟩
        refine ⟨_, rfl, qi, _, rfl, .inl ⟨SqL.of hqi, fun D nD => ?_⟩⟩
        refine lc_itA walk_enum (fun m => V.bl (growN (i + 1) (fun m => decide (m ∈ ms)) m)) (fun a y _ => y = a) (fun _ _ _ _ _ h => h) nD (fun H' e => e.seq (SqL.of hqi)) (by rw [marksV_len]; omega) ?_ ?_
        · rintro m x H3 H4 k1 hm s3 ⟨t, y, z, rfl, nt, rfl, hy, hz⟩ h1
          cases hy
          obtain ⟨hmn, rfl⟩ := marksV_get hz
          refine ⟨t, _, rfl, .inl (.inl upd_same), rfl, _, _, rfl, _, _, rfl, rfl, rfl, ?_⟩
          refine ⟨_, rfl, _, rfl, ite2 (fun c => ?_) fun c => ⟨_, rfl, _, rfl, _, rfl, _, rfl, _, _, rfl, rfl, ?_⟩⟩
          · refine h1 _ _ (same_upd nt) ?_
            show V.bl true = V.bl (growN i _ m || growN i _ (cl m i))
            rw [c] <;> rfl
          · refine ⟨qi, _, _, .bl (growN i (fun m => decide (m ∈ ms)) (cl m i)), rfl, rfl, SqL.of (same_upd nt _ _ (s3 _ _ hqi)), at_of (j := cl m i) ?_ (marksV_at _ (Nat.lt_of_le_of_lt (cl_le m i) hmn)), h1 _ _ (same_upd nt) ?_⟩
            · rw [Int.zero_add]
              exact and_not m i
            · show V.bl _ = V.bl (growN i _ m || growN i _ (cl m i))
              rw [Bool.eq_false_iff.mpr c, Bool.false_or]
        · intro H3 zs s3 hD pz
          have ez := paired_fn (prUnmapL pz)
          rw [marksV_len] at ez
          rw [marksV_fn ez] at hD
          exact ⟨hi, sm2.trans s3, D, _, _, _, _, rfl, sm2.free nD, hD⟩
      · rintro σ H2 ⟨_, sm2, qi, v3, v4, v5, v6, rfl, nqi, hqi⟩
        refine ⟨_, rfl, k qi H2 sm2 nqi ?_⟩
        rw [hqi]
        exact congrArg (fun z => some (HO.lst z)) (marksV_congr fun m hm => growN_up hn hm hms)
theorem ok_minimal_lots (T : Ctx K mg) : FnOk P w K mg base CX0 2 T.f_minimal_lots T.fd_minimal_lots ["copies", "marks"] (spMinimal K) := by
  refine T.F_minimal_lots.ok sc_minimal_lots (fun vs H Q E h => ?_) (fun cdv A outer s H vs Q E hr h => ?_)
  · obtain ⟨n, p, f, rfl, _⟩ := h
    rfl
  · obtain ⟨n, p, f, rfl, hn, hS, k⟩ := h
    refine ⟨_, (pss_cons (ps_setLc (i := 2) (own := [("copy", 3)]) (g := gName 3) (tt := tYes) rfl sc_minimal_lots.nd rfl rfl (sw_true rfl rfl rfl (by decide +kernel)) (pi_range1 (by rfl) T.m_range (pa_cons (pv 0) pa_nil)) (blkOk_by (own := [("copy", 3)]) (N := ["copies", "marks", "bits", "copy", "found", "mask", "mark", "bit"]) (sc := defScope s_minimal_lots) (by decide +kernel)) (fun _ _ _ _ _ => (pg_name (i := 3) sc_minimal_lots.nd rfl (Or.inl rfl))) (fun _ _ _ _ _ => pts_nil) (fun _ _ _ _ _ => (pe_op op_shl pe_int (pv 3))))
      (pss_cons (ps_set (i := 4) sc_minimal_lots.nd rfl (Or.inl rfl) (pe_lst pa_nil))
      (pss_cons (ps_for PassesOwn.never rfl (pi_enumA (by rfl) T.m_enumerate (pa_cons (pv 1) pa_nil)) (pg_tup rfl (pgs_cons (pg_name (i := 5) sc_minimal_lots.nd rfl (Or.inr rfl)) (pgs_cons (pg_name (i := 6) sc_minimal_lots.nd rfl (Or.inl rfl)) pgs_nil)))
        (pss_one (ps_if (PW.pt (pw_and (pt_val (pv 6)) (pw_and1 (pt_not (pt_val (pe_callB (cr_any rfl) (by rfl) T.m_any (by decide +kernel) (pa_cons (pe_lc (own := [("bit", 7)]) (g := gName 7) (tt := _) rfl sc_minimal_lots.nd (pi_list (pv 2)) (blkOk_by (own := [("bit", 7)]) (N := ["copies", "marks", "bits", "copy", "found", "mask", "mark", "bit"]) (sc := defScope s_minimal_lots) (by decide +kernel)) (fun _ _ _ _ _ => (pg_name (i := 7) sc_minimal_lots.nd rfl (Or.inl rfl))) (fun _ _ _ _ _ => (pts_one (pt_int (pe_op op_and (pv 5) (pv 7))))) (fun _ _ _ _ _ => (pe_ix (ixK_list (K := K) rfl) (pv 1) (pe_op op_sub (pv 5) (pv 7)) (fun _ _ => rfl)))) pa_nil)))))))
          (pss_one (ps_expr (pe_bm PySem.F.plainAttrs_list PySem.F.slot_list_append PySem.F.type_list_append mt_append (pv 4) (pa_cons (pe_call (ok_lot_at T) (hr.mono (by decide)) (by rfl) T.g_lot_at T.F_lot_at.kp T.b_lot_at .nil pass0 (pa_cons (pv 5) pa_nil)) pa_nil))))
          pss_nil)))
      (pss_one (ps_ret (pv 4)))))), ?_⟩
    have h256 := pow_le8 hn
    have e256 : (256 : Nat) < sizeLine := by decide
    refine ⟨_, rfl, n, rfl, by omega, by omega, fun B nB => ?_⟩
    rw [Int.toNat_natCast]
    refine lc_itA (walk_range (lo := 0) (n := n)) (fun c => V.int (1 <<< c : Nat)) (fun a y _ => y = a) (fun _ _ _ _ _ h => h) nB (fun _ _ => trivial) (by omega) ?_ ?_
    · rintro c x H1 H' k1 hc sm ⟨rfl, rfl⟩ h1
      refine ⟨rfl, _, rfl, _, _, rfl, rfl, ⟨by omega, by omega, by decide⟩, h1 _ _ (Same.refl _) ?_⟩
      show V.int ((1 : Int) * (2 : Int) ^ (0 + (c : Int)).toNat) = _
      rw [Int.zero_add, shl_nat]
    intro H1 bs s1 hB pb
    have eb := paired_fn (prUnmapL pb)
    refine ⟨(by show 0 ≤ sizeLine; decide), fun q0 nq => ?_⟩
    have s2 := s1.trans (same_upd (o := .lst []) nq)
    have hB2 := same_upd (o := .lst []) nq _ _ hB
    have hq0 : upd H1 q0 (.lst []) q0 = some (.lst []) := upd_same
    have nqH := s1.free nq
    have ne : q0 ≠ B := Ne.symm (ne_of_none hB nq)
    revert s2 hB2 hq0
    generalize upd H1 q0 _ = H2
    intro s2 hB2 hq0
    refine ⟨_, rfl, p, _, rfl, .inl ⟨s2.seq hS, ?_⟩⟩
    refine for_it walk_enum (fun i σ H' => i ≤ (marksV n f).length ∧ Same H H' ∧ H' B = some (.lst bs) ∧ (∃ v4 v5 v6 v7, σ = [some (.int n), some (.ref p), some (.ref B), v4, some (.ref q0), v5, v6, v7]) ∧ ∃ ls, H' q0 = some (.lst ls) ∧ ls.length ≤ i ∧ Paired (fun m y => Lot K H' m y) ((List.range i).filter (minB n f)) ls)
      ⟨Nat.zero_le _, s2, hB2, ⟨_, _, _, _, rfl⟩, [], hq0, Nat.le_refl _, .nil⟩ (fun i σ H' _ h => h.2.1.seq hS) ?_ ?_
    · rintro m x σ H3 H4 hm ⟨_, s3, hB3, ⟨v4, v5, v6, v7, rfl⟩, ls, hq, hl, pl⟩ ⟨t, y, z, rfl, nt, rfl, hy, hz⟩
      cases hy
      obtain ⟨hmn, rfl⟩ := marksV_get hz
      rw [marksV_len] at hm
      have st := same_upd (o := .tup [V.int (m : Nat), .bl (f m)]) nt
      have hB4 := st _ _ hB3
      have hq4 := st _ _ hq
      have s4 := s3.trans st
      have pl4 := prImp (fun m y (h : Lot K H3 m y) => h.same st) pl
      refine ⟨t, _, rfl, .inl (.inl upd_same), rfl, _, _, rfl, _, _, rfl, rfl, ?_⟩
      revert hB4 hq4 s4 pl4
      generalize upd H3 t _ = H4
      intro hB4 hq4 s4 pl4
      have more : ∀ {b : Bool}, minB n f m = b → (List.range (m + 1)).filter (minB n f) = (List.range m).filter (minB n f) ++ (if b = true then [m] else []) := fun {b} e => by
        rw [List.range_succ, List.filter_append, List.filter_cons, e] <;> rfl
      refine ⟨_, rfl, _, rfl, ite2 (fun c => ?_) fun c => iteF ?_⟩
      · refine ⟨_, rfl, B, rfl, ⟨_, SqL.of hB4⟩, fun D nD => ?_⟩
        refine lc_itM (walk_list (K := K) (a := B) (xs := bs)) (fun c => if m.testBit c = true then some (V.bl (f (m - 1 <<< c))) else none) (fun a y _ => y = a) (fun _ _ _ _ _ h => h) nD (fun H' e => e.seq (SqL.of hB4)) (by rw [eb, List.length_map, List.length_range]; omega) ?_ ?_
        · rintro c x H5 H6 k1 N hc s5 ⟨rfl, hx⟩ h1 h2
          rw [eb, List.getElem?_map] at hx
          have hcn : c < n := by
            rw [eb, List.length_map, List.length_range] at hc
            exact hc
          rw [List.getElem?_range hcn] at hx
          cases hx
          refine ⟨rfl, _, rfl, _, rfl, _, _, rfl, rfl, _, rfl, ?_⟩
          have e0 : (Builtin.bitAnd (m : Int) ((1 <<< c : Nat) : Int) != 0) = m.testBit c := by rw [bitAnd_nat, and_bit]
          rw [e0]
          cases e : m.testBit c with
          | false => exact iteF (h2 _ (Same.refl _) (by rw [e] <;> rfl))
          | true =>
            have hle : 1 <<< c ≤ m := by
              have := and_one m c
              rw [e, if_pos rfl] at this
              rw [← this]
              exact Nat.and_le_left
            have es : (m : Int) - ((1 <<< c : Nat) : Int) = ((m - 1 <<< c : Nat) : Int) := by
              generalize 1 <<< c = k at hle ⊢
              omega
            refine iteT ⟨_, rfl, _, rfl, _, rfl, _, _, rfl, rfl, p, _, _, .bl (f (m - 1 <<< c)), rfl, rfl, (s4.trans s5).seq hS, at_of (j := m - 1 <<< c) es (marksV_at _ (Nat.lt_of_le_of_lt (Nat.sub_le _ _) hmn)), h1 _ _ _ (Same.refl _) (by rw [e] <;> rfl) rfl⟩
        · intro H5 zs s5 hD pz
          have ez := paired_eq pz
          have ez2 : zs = ((List.range n).filterMap fun c => if m.testBit c = true then some (f (m - 1 <<< c)) else none).map V.bl := by
            rw [ez, eb, List.length_map, List.length_range, List.map_filterMap]
            refine fm_congr fun c _ => ?_
            cases m.testBit c <;> rfl
          rw [ez2] at hD
          refine ⟨D, _, rfl, SqL.of hD, _, rfl, ?_⟩
          have em : minB n f m = !((((List.range n).filterMap fun c => if m.testBit c = true then some (f (m - 1 <<< c)) else none)).any id) := by
            unfold minB
            rw [c, any_fm] <;> rfl
          show (if (!((((List.range n).filterMap fun c => if m.testBit c = true then some (f (m - 1 <<< c)) else none)).any id)) = true then _ else _)
          rw [← em]
          have hq5 := s5 _ _ hq4
          have pl5 := prImp (fun m y (h : Lot K H4 m y) => h.same s5) pl4
          cases e : minB n f m with
          | true =>
            refine iteT ⟨_, rfl, .inl ⟨rfl, _, SqL.of hq5⟩, _, rfl, m, rfl, fun a H6 s6 na ha => ?_⟩
            have hq6 := s6 _ _ hq5
            refine ⟨q0, _, _, rfl, rfl, hq6, by omega, ?_⟩
            refine ⟨by rw [marksV_len]; omega, same_upd2 (s4.trans (s5.trans s6)) nqH, by rw [upd_ne (Ne.symm ne)]; exact s6 _ _ (s5 _ _ hB4), ⟨_, _, _, _, rfl⟩, ls ++ [.ref a], upd_same, by rw [List.length_append, List.length_singleton]; omega, ?_⟩
            rw [more e, if_pos rfl]
            have t6 := sameT_upd (ys := ls ++ [.ref a]) hq6
            exact prApp (prImp (fun m y h => (h.same s6).sameT t6) pl5) (.cons ⟨a, rfl, .inl (.inl (t6.tup ha))⟩ .nil)
          | false =>
            refine iteF ⟨by rw [marksV_len]; omega, s4.trans s5, s5 _ _ hB4, ⟨_, _, _, _, rfl⟩, ls, hq5, by omega, ?_⟩
            rw [more e, if_neg (by simp), List.append_nil]
            exact pl5
      · have em : minB n f m = false := by
          unfold minB
          rw [Bool.eq_false_iff.mpr c] <;> rfl
        refine ⟨by rw [marksV_len]; omega, s4, hB4, ⟨_, _, _, _, rfl⟩, ls, hq4, by omega, ?_⟩
        rw [more em, if_neg (by simp), List.append_nil]
        exact pl4
    · rintro σ H3 ⟨_, s3, hB3, ⟨v4, v5, v6, v7, rfl⟩, ls, hq, hl, pl⟩
      rw [marksV_len] at pl
      exact ⟨_, rfl, k q0 ls H3 s3 nqH hq pl⟩
theorem ok_Family_init (T : Ctx K mg) : FnR P w K mg base (L2.CX P w) 7 T.f_Family_init (spStar 2 (spFam0 K T.c_Family T.c_BadNumber T.c_BadLot)) := by
  refine Fun.okStar (ps := ["self", "copies"]) (pv := "lots") T.F_Family_init sc_Family_init bs_Family_init (fun cdv A outer s H vs Q E hr h => ?_)
  obtain ⟨a, dx, c, p, ls, xss, rfl, ha, kn, hS, pr, hl, kc, kk⟩ := h
  refine ⟨_, (pss_cons (ps_expr (pe_call (ok_check_copies T) (hr.mono (by decide)) (by rfl) T.g_check_copies T.F_check_copies.kp T.b_check_copies .nil (passes_call (takes_of rfl rfl rfl rfl) (fun _ _ _ _ h => h)) (pa_cons (pv 1) pa_nil)))
      (pss_cons (ps_if (pt_cmpR op_eq (pe_callB call_len_seq (by rfl) T.m_len (by decide +kernel) (pa_cons (pv 2) pa_nil)) pe_int (nomark _))
        (pss_one (ps_raise rfl (takes_of rfl rfl rfl rfl) (pmk_oex T.ox_BadNumber T.xn_BadNumber T.xt_BadNumber (ok_BadNumber_init T) (hr.mono (by decide)) T.b_BadNumber_init .nil pass0 (by rfl) T.gc_BadNumber (pa_cons pe_str (pa_cons pe_int pa_nil)))))
        pss_nil)
      (pss_cons (ps_set (i := 3) sc_Family_init.nd rfl (Or.inl rfl) (pe_call (ok_marks_above T) (hr.mono (by decide)) (by rfl) T.g_marks_above T.F_marks_above.kp T.b_marks_above .nil pass0 (pa_cons (pv 1) (pa_cons (pe_call (ok_masks_of T) (hr.mono (by decide)) (by rfl) T.g_masks_of T.F_masks_of.kp T.b_masks_of .nil (passes_call (takes_of rfl rfl rfl rfl) (fun _ _ _ _ h => h)) (pa_cons (pv 1) (pa_cons (pv 2) pa_nil))) pa_nil))))
      (pss_cons (ps_fld (pv 0) (pv 1) rfl)
      (pss_cons (ps_fld (pv 0) (pe_callTy call_tuple_ofZ (by rfl) T.m_tuple (by decide +kernel) (pa_cons (pe_call (ok_minimal_lots T) (hr.mono (by decide)) (by rfl) T.g_minimal_lots T.F_minimal_lots.kp T.b_minimal_lots .nil pass0 (pa_cons (pv 1) (pa_cons (pv 3) pa_nil))) pa_nil)) rfl)
      (pss_one (ps_fld (pv 0) (pe_callTy call_tuple_ofZ (by rfl) T.m_tuple (by decide +kernel) (pa_cons (pv 3) pa_nil)) rfl))))))), ?_⟩
  refine ⟨_, rfl, c, rfl, kn, fun hg => ?_, kc⟩
  obtain ⟨n, rfl, n1, n8⟩ := good_copies hg
  obtain ⟨k1, k2⟩ := kk n rfl n1 n8
  have el := prLen pr
  have h256 := pow_le8 n8
  refine ⟨_, rfl, p, ls, rfl, .inr hS, rfl, _, rfl, ?_⟩
  by_cases he : xss = []
  · have e0 : decide (V.int (ls.length : Nat) = V.int 0) = true := by rw [el, he] <;> rfl
    rw [e0]
    exact iteT (mk2 (k1 he))
  · obtain ⟨k2, k3, k4⟩ := k2 he
    have e0 : decide (V.int (ls.length : Nat) = V.int 0) = false := decide_eq_false fun z => he (List.length_eq_zero_iff.mp (by injection z with z; omega))
    rw [e0]
    refine iteF ⟨_, rfl, _, rfl, _, rfl, n, p, ls, xss, rfl, n8, hS, pr, hl, fun hb q H1 s1 nq hq => ?_, k2, k3⟩
    have hms : ∀ m ∈ xss.map maskV, m < 2 ^ n := fun m hm => by
      obtain ⟨xs, hxs, rfl⟩ := List.mem_map.mp hm
      exact mask_lt fun x hx => badOf_none (badFrom_ok hb xs hxs).1 hx
    refine ⟨n, q, xss.map maskV, rfl, n8, by rw [List.map_map]; exact SqL.of hq, hms, fun q2 H2 s2 nq2 hq2 => ?_⟩
    have ha2 := s2 _ _ (s1 _ _ ha)
    have s12 := s1.trans s2
    have F : Fm n (upB (xss.map maskV)) := fm_upB n1 n8 (fun z => he (List.map_eq_nil_iff.mp z)) fun m hm => by
      obtain ⟨xs, hxs, rfl⟩ := List.mem_map.mp hm
      exact ⟨hms _ hm, (badFrom_ok hb xs hxs).2⟩
    -- self.copies
    refine ⟨_, rfl, _, rfl, a, T.c_Family, dx, _, rfl, ha2, T.cl_Family, T.n_Family_copies, by decide, ?_⟩
    have ha3 : upd H2 a (.ins T.c_Family dx (putF "copies" (.int n) [])) a = some (.ins T.c_Family dx (putF "copies" (.int n) [])) := upd_same
    have e3 : Exc a H2 (upd H2 a (.ins T.c_Family dx (putF "copies" (.int n) []))) := exc_at
    have hm3 := e3 q2 _ (fun z => by rw [z, ha2] at hq2; cases hq2) hq2
    revert ha3 e3 hm3
    generalize upd H2 a _ = H3
    intro ha3 e3 hm3
    -- self.lots
    refine ⟨_, rfl, _, rfl, n, q2, _, rfl, n8, SqL.of hm3, fun q4 ms4 H4 s4 nq4 hq4 pl4 => ?_⟩
    refine ⟨q4, ms4, rfl, SqL.of hq4, fun tl ob1 ntl _ => ?_⟩
    have s5 := s4.trans (same_upd (o := .frz ob1 (.tup ms4)) ntl)
    have htl : upd H4 tl (.frz ob1 (.tup ms4)) tl = some (.frz ob1 (.tup ms4)) := upd_same
    have pl5 := prImp (fun m y (h : Lot K H4 m y) => h.same (same_upd (o := .frz ob1 (.tup ms4)) ntl)) pl4
    have hm5 := s5 _ _ hm3
    have ha5 := s5 _ _ ha3
    revert s5 htl pl5 hm5 ha5
    generalize upd H4 tl _ = H5
    intro s5 htl pl5 hm5 ha5
    refine ⟨_, rfl, a, T.c_Family, dx, _, rfl, ha5, T.cl_Family, T.n_Family_lots, few1, ?_⟩
    have ha6 : upd H5 a (.ins T.c_Family dx (putF "lots" (.ref tl) (putF "copies" (.int n) []))) a = some (.ins T.c_Family dx (putF "lots" (.ref tl) (putF "copies" (.int n) []))) := upd_same
    have e6 : Exc a H5 (upd H5 a (.ins T.c_Family dx (putF "lots" (.ref tl) (putF "copies" (.int n) [])))) := exc_at
    have hm6 := e6 q2 _ (fun z => by rw [z, ha5] at hm5; cases hm5) hm5
    have htl6 := e6 tl _ (fun z => by rw [z, ha5] at htl; cases htl) htl
    have pl6 := prImp (fun m y (h : Lot K H5 m y) => h.exc ha5 e6) pl5
    revert ha6 e6 hm6 htl6 pl6
    generalize upd H5 a _ = H6
    intro ha6 e6 hm6 htl6 pl6
    -- self.marks
    refine ⟨_, rfl, q2, _, rfl, SqL.of hm6, fun tm ob2 ntm hdn => ?_⟩
    have s7 := same_upd (o := .frz ob2 (.tup (marksV n (upB (xss.map maskV))))) ntm
    have htm : upd H6 tm (.frz ob2 (.tup (marksV n (upB (xss.map maskV))))) tm = some (.frz ob2 (.tup (marksV n (upB (xss.map maskV))))) := upd_same
    have htl7 := s7 _ _ htl6
    have pl7 := prImp (fun m y (h : Lot K H6 m y) => h.same s7) pl6
    have ha7 := s7 _ _ ha6
    revert s7 htm htl7 pl7 ha7
    generalize upd H6 tm _ = H7
    intro s7 htm htl7 pl7 ha7
    refine ⟨_, rfl, a, T.c_Family, dx, _, rfl, ha7, T.cl_Family, T.n_Family_marks, few2, ?_⟩
    have e8 : Exc a H7 (upd H7 a (.ins T.c_Family dx (famF n tl tm))) := exc_at
    refine k4 hb _ (fun b o hb nb => ?_) ⟨⟨a, dx, tl, tm, ms4, rfl, upd_same, ?_, ?_, ob2, ?_, hdn⟩, F⟩
    · exact e8 b o nb (s7 _ _ (e6 b o nb (s5 _ _ (e3 b o nb (s12 _ _ hb)))))
    · exact seqT_exc ha7 e8 (.inl (.inr ⟨ob1, htl7⟩))
    · exact prImp (fun m y (h : Lot K H7 m y) => h.exc ha7 e8) pl7
    · exact e8 tm _ (fun z => by rw [z, ha7] at htm; cases htm) htm
theorem ok_marked (T : Ctx K mg) : FnOk P w K mg base CX0 9 T.f_marked T.fd_marked ["copies", "marks"] (spMarked K T.c_Family) := by
  refine T.F_marked.ok sc_marked (fun vs H Q E h => ?_) (fun cdv A outer s H vs Q E hr h => ?_)
  · obtain ⟨n, p, f, rfl, _⟩ := h
    rfl
  · obtain ⟨n, p, f, rfl, hS, F, k⟩ := h
    refine ⟨_, (pss_cons (ps_set (i := 2) sc_marked.nd rfl (Or.inl rfl) (pe_call (ok_minimal_lots T) (hr.mono (by decide)) (by rfl) T.g_minimal_lots T.F_minimal_lots.kp T.b_minimal_lots .nil pass0 (pa_cons (pv 0) (pa_cons (pv 1) pa_nil))))
      (pss_one (ps_ret (pe_makeS2 T.M_Family (ok_Family_init T) (hr.mono (by decide)) (by rfl) T.gc_Family passL (pa_cons (pv 0) (StX.pa_star (pv 2) pa_nil)))))), ?_⟩
    have h256 := pow_le8 F.n8
    refine ⟨_, rfl, _, rfl, n, p, f, rfl, F.n8, hS, fun q ls H1 s1 nq hq pl => ?_⟩
    have lm : ∀ m ∈ minL n f, m < 2 ^ n ∧ m ≠ 0 ∧ m < 256 := fun m hm => by
      have h1 := minL_lt hm
      refine ⟨h1, fun z => ?_, by omega⟩
      have h2 := minL_f hm
      rw [z, F.bot] at h2
      cases h2
    have ll : (minL n f).length ≤ 256 := by
      unfold minL
      refine Nat.le_trans (List.length_filter_le _ _) ?_
      rw [List.length_range]
      exact h256
    have el := prLen pl
    refine ⟨_, rfl, _, rfl, q, ls, rfl, .inr (SqL.of hq), ?_⟩
    show ∀ x dx, _
    rw [List.append_nil]
    refine mk_fam (xss := (minL n f).map lotV) F.n1 F.n8 (prMapL (prImp (fun m y (h : Lot K H1 m y) => h.arg) pl)) (by omega) (fun z => minL_ne F (List.map_eq_nil_iff.mp z)) (badFrom_lots lm) fun a H2 s2 G => ?_
    rw [masks_lots fun m hm => (lm m hm).2.2] at G
    exact k _ H2 (s1.trans s2) (G.congr (fun m hm => fm_min F hm) F)
end
section
variable {P : Program} {w : World} {K : PySem.W.Frag} {mg : Str → Option Value} {base : Heap}
theorem ok_Family_le (T : Ctx K mg) : FnOk P w K mg base (L2.CX P w) 3 T.f_Family_le T.fd_Family_le ["self", "other"] (spTwo K T.c_Family T.c_Unlike (tellsB leB)) := by
  refine T.F_Family_le.okX sc_Family_le (fun vs H Q E h => ?_) (fun cdv A outer s H vs Q E hr h => ?_)
  · obtain ⟨x, y, n, m, f, g, rfl, _⟩ := h
    rfl
  · obtain ⟨x, y, n, m, f, g, rfl, ⟨⟨a, dx, tl, tm, ls, rfl, ha, h2, h3, ob, h4', hdn⟩, h5⟩, G, k1, k2⟩ := h
    refine ⟨_, (pss_cons (ps_expr (pe_call (ok_check_alike T) (hr.mono (by decide)) (by rfl) T.g_check_alike T.F_check_alike.kp T.b_check_alike .nil (passes_call (takes_of rfl rfl rfl rfl) (fun _ _ _ _ h => h)) (pa_cons (pe_fld (pv 0) rfl) (pa_cons (pv 1) pa_nil))))
      (pss_one (ps_ret (pe_call (ok_is_within T) (hr.mono (by decide)) (by rfl) T.g_is_within T.F_is_within.kp T.b_is_within .nil pass0 (pa_cons (pe_fld (pv 0) rfl) (pa_cons (pe_fld (pv 1) rfl) pa_nil)))))), ?_⟩
    have G' := G
    obtain ⟨⟨b, dy, ul, um, us, rfl, hb, g2, g3, ob2, g4', gdn⟩, g5⟩ := G
    have h4 : SqT K H tm (marksV n f) := .inl (.inr ⟨ob, h4'⟩)
    have g4 : SqT K H um (marksV m g) := .inl (.inr ⟨ob2, g4'⟩)
    refine ⟨_, rfl, a, T.c_Family, dx, _, _, rfl, ha, T.cl_Family, T.n_Family_copies, famF_copies _ _ _, _, rfl, n, m, _, g, rfl, G', fun e => ?_, fun e => k2 e H (Same.refl _)⟩
    subst e
    refine ⟨_, rfl, a, T.c_Family, dx, _, _, rfl, ha, T.cl_Family, T.n_Family_marks, famF_marks _ _ _, _, rfl, b, T.c_Family, dy, _, _, rfl, hb, T.cl_Family, T.n_Family_marks, famF_marks _ _ _, ?_⟩
    exact ⟨tm, um, n, f, g, rfl, .inl ⟨h4, g4⟩, h5.n8, k1 rfl⟩
theorem ok_Family_or (T : Ctx K mg) : FnOk P w K mg base (L2.CX P w) 10 T.f_Family_or T.fd_Family_or ["self", "other"] (spTwo K T.c_Family T.c_Unlike (tellsF K T.c_Family fun _ f g m => f m || g m)) := by
  refine T.F_Family_or.okX sc_Family_or (fun vs H Q E h => ?_) (fun cdv A outer s H vs Q E hr h => ?_)
  · obtain ⟨x, y, n, m, f, g, rfl, _⟩ := h
    rfl
  · obtain ⟨x, y, n, m, f, g, rfl, ⟨⟨a, dx, tl, tm, ls, rfl, ha, h2, h3, ob, h4', hdn⟩, h5⟩, G, k1, k2⟩ := h
    refine ⟨_, (pss_cons (ps_expr (pe_call (ok_check_alike T) (hr.mono (by decide)) (by rfl) T.g_check_alike T.F_check_alike.kp T.b_check_alike .nil (passes_call (takes_of rfl rfl rfl rfl) (fun _ _ _ _ h => h)) (pa_cons (pe_fld (pv 0) rfl) (pa_cons (pv 1) pa_nil))))
      (pss_one (ps_ret (pe_call (ok_marked T) (hr.mono (by decide)) (by rfl) T.g_marked T.F_marked.kp T.b_marked .nil pass0 (pa_cons (pe_fld (pv 0) rfl) (pa_cons (pe_lc (own := [("mine", 2), ("theirs", 3)]) (g := gTup K 2 (gCons (gName 2) (gCons (gName 3) gNil))) (tt := tYes) rfl sc_Family_or.nd (RZ.pi_zipA (by rfl) T.m_zip (pa_cons (pe_fld (pv 0) rfl) (pa_cons (pe_fld (pv 1) rfl) pa_nil))) (blkOk_by (own := [("mine", 2), ("theirs", 3)]) (N := ["self", "other", "mine", "theirs"]) (sc := defScope s_Family_or) (by decide +kernel)) (fun _ _ _ _ _ => (pg_tup rfl (pgs_cons (pg_name (i := 2) sc_Family_or.nd rfl (Or.inl rfl)) (pgs_cons (pg_name (i := 3) sc_Family_or.nd rfl (Or.inl rfl)) pgs_nil)))) (fun _ _ _ _ _ => pts_nil) (fun _ _ _ _ _ => (pe_or (pv 2) (pe_one (pv 3))))) pa_nil)))))), ?_⟩
    have G' := G
    obtain ⟨⟨b, dy, ul, um, us, rfl, hb, g2, g3, ob2, g4', gdn⟩, g5⟩ := G
    have h4 : SqT K H tm (marksV n f) := .inl (.inr ⟨ob, h4'⟩)
    have g4 : SqT K H um (marksV m g) := .inl (.inr ⟨ob2, g4'⟩)
    refine ⟨_, rfl, a, T.c_Family, dx, _, _, rfl, ha, T.cl_Family, T.n_Family_copies, famF_copies _ _ _, _, rfl, n, m, _, g, rfl, G', fun e => ?_, fun e => k2 e H (Same.refl _)⟩
    subst e
    have k := k1 rfl
    have h256 := pow_le8 h5.n8
    refine ⟨_, rfl, a, T.c_Family, dx, _, _, rfl, ha, T.cl_Family, T.n_Family_copies, famF_copies _ _ _, ?_⟩
    refine ⟨_, rfl, a, T.c_Family, dx, _, _, rfl, ha, T.cl_Family, T.n_Family_marks, famF_marks _ _ _, _, rfl, b, T.c_Family, dy, _, _, rfl, hb, T.cl_Family, T.n_Family_marks, famF_marks _ _ _, ?_⟩
    refine ⟨tm, um, _, _, rfl, .inr ⟨h4, g4, fun D nD => ?_⟩⟩
    refine lc_itA (walk_zipT (n := 2 ^ n) (by rw [marksV_len, marksV_len, Nat.min_self])) (fun m => V.bl (f m || g m)) (fun a y _ => y = a) (fun _ _ _ _ _ h => h) nD (fun H' e => ⟨Same.seqT e h4, Same.seqT e g4⟩) (by omega) ?_ fun H' ys sm hD pr => ?_
    · rintro m x H1 H' q1 hm sm ⟨t, y, z, rfl, nt, rfl, hy, hz⟩ q
      obtain ⟨_, rfl⟩ := marksV_get hy
      obtain ⟨_, rfl⟩ := marksV_get hz
      refine ⟨t, _, rfl, .inl (.inl upd_same), rfl, _, _, rfl, _, _, rfl, rfl, rfl, ?_⟩
      refine ⟨_, rfl, _, rfl, ite2 (fun c => ?_) fun c => ⟨_, rfl, ?_⟩⟩
      · exact q _ _ (same_upd nt) (by rw [c] <;> rfl)
      · exact q _ _ (same_upd nt) (by rw [Bool.eq_false_iff.mpr c, Bool.false_or])
    · rw [marksV_fn (paired_fn (prUnmapL pr))] at hD
      exact ⟨n, D, _, rfl, SqL.of hD, h5.or g5, fun r H2 s2 R => k r H2 (sm.trans s2) R⟩
theorem ok_Family_dual (T : Ctx K mg) : FnOk P w K mg base CX0 10 T.f_Family_dual T.fd_Family_dual ["self"] (spOne K T.c_Family fun n f H Q => ∀ r H', Same H H' → Fam K T.c_Family H' r n (dualB n f) → Q r H') := by
  refine T.F_Family_dual.ok sc_Family_dual (fun vs H Q E h => ?_) (fun cdv A outer s H vs Q E hr h => ?_)
  · obtain ⟨x, n, f, rfl, _⟩ := h
    rfl
  · obtain ⟨x, n, f, rfl, ⟨⟨a, dx, tl, tm, ls, rfl, ha, h2, h3, ob, h4', hdn⟩, h5⟩, k⟩ := h
    refine ⟨_, (pss_one (ps_ret (pe_call (ok_marked T) (hr.mono (by decide)) (by rfl) T.g_marked T.F_marked.kp T.b_marked .nil pass0 (pa_cons (pe_fld (pv 0) rfl) (pa_cons (pe_lc (own := [("mark", 1)]) (g := gName 1) (tt := tYes) rfl sc_Family_dual.nd (pi_tup (pe_revT (pe_fld (pv 0) rfl))) (blkOk_by (own := [("mark", 1)]) (N := ["self", "mark"]) (sc := defScope s_Family_dual) (by decide +kernel)) (fun _ _ _ _ _ => (pg_name (i := 1) sc_Family_dual.nd rfl (Or.inl rfl))) (fun _ _ _ _ _ => pts_nil) (fun _ _ _ _ _ => (pe_not (pv 1)))) pa_nil))))), ?_⟩
    have h4 : SqT K H tm (marksV n f) := .inl (.inr ⟨ob, h4'⟩)
    have h256 := pow_le8 h5.n8
    refine ⟨_, rfl, a, T.c_Family, dx, _, _, rfl, ha, T.cl_Family, T.n_Family_copies, famF_copies _ _ _, ?_⟩
    refine ⟨_, rfl, a, T.c_Family, dx, _, _, rfl, ha, T.cl_Family, T.n_Family_marks, famF_marks _ _ _, tm, _, rfl, h4, fun r nr => ?_⟩
    have s1 := same_upd (o := .tup (marksV n f).reverse) nr
    have hr1 : SqT K (upd H r (.tup (marksV n f).reverse)) r (marksV n fun m => f (oth n m)) := .inl (.inl (by rw [upd_same, marksV_rev]))
    refine ⟨r, rfl, ⟨_, hr1⟩, fun D nD => ?_⟩
    refine lc_itA (walk_tup (K := K) (a := r) (xs := marksV n fun m => f (oth n m))) (fun m => V.bl (dualB n f m)) (fun a y _ => y = a) (fun _ _ _ _ _ h => h) nD (fun H' e => Same.seqT e hr1) (by rw [marksV_len]; omega) ?_ fun H' ys sm hD pr => ?_
    · rintro m x H1 H' q1 hm sm ⟨rfl, hx⟩ q
      obtain ⟨_, rfl⟩ := marksV_get hx
      exact ⟨rfl, _, rfl, _, rfl, q _ _ (Same.refl _) rfl⟩
    · have e := paired_fn (prUnmapL pr)
      rw [marksV_len] at e
      rw [marksV_fn e] at hD
      exact ⟨n, D, _, rfl, SqL.of hD, h5.dual, fun r H2 s2 R => k r H2 (s1.trans (sm.trans s2)) R⟩
theorem ok_Family_eq (T : Ctx K mg) : FnOk P w K mg base CX0 1 T.f_Family_eq T.fd_Family_eq ["self", "other"] (spEqF K T.c_Family) := by
  refine T.F_Family_eq.ok sc_Family_eq (fun vs H Q E h => ?_) (fun cdv A outer s H vs Q E hr h => ?_)
  · obtain ⟨x, y, n, f, rfl, _⟩ := h
    rfl
  · obtain ⟨x, y, n, f, rfl, F, h⟩ := h
    refine ⟨_, (pss_one (ps_ret (pe_and (pe_callB call_isi (by rfl) T.m_isinstance (by decide +kernel) (pa_cons (pv 1) (pa_cons (pe_glob (v := .ref T.c_Family) (by rfl) T.gc_Family rfl) pa_nil))) (pe_and (pe_cmpR op_eq (pe_fld (pv 0) rfl) (pe_fld (pv 1) rfl) (nomark _)) (pe_one (pe_cmpR (op_eqD hr.units) (pe_fld (pv 0) rfl) (pe_fld (pv 1) rfl) (nomark _))))))), ?_⟩
    rcases h with ⟨m, g, G, k⟩ | ⟨t, ty, hk, k⟩
    · obtain ⟨⟨a, dx, tl, tm, ls, rfl, ha, h2, h3, ob, h4', hdn⟩, h5⟩ := F
      obtain ⟨⟨b, dy, ul, um, us, rfl, hb, g2, g3, ob2, g4', gdn⟩, g5⟩ := G
      refine ⟨_, rfl, _, _, _, _, true, rfl, .own _, T.ic_Family.ty hb, T.ki_Family_Family, true, rfl, iteT ?_⟩
      refine ⟨_, rfl, a, T.c_Family, dx, _, _, rfl, ha, T.cl_Family, T.n_Family_copies, famF_copies _ _ _, _, rfl, b, T.c_Family, dy, _, _, rfl, hb, T.cl_Family, T.n_Family_copies, famF_copies _ _ _, rfl, decide (n = m), congrArg V.bl ?_, ?_⟩
      · by_cases e : n = m
        · subst e
          simp
        · rw [decide_eq_false e, decide_eq_false fun z => e (by injection z with z; omega)]
      · by_cases e : n = m
        · subst e
          rw [decide_eq_true rfl]
          refine iteT ⟨_, rfl, a, T.c_Family, dx, _, _, rfl, ha, T.cl_Family, T.n_Family_lots, famF_lots _ _ _, _, rfl, b, T.c_Family, dy, _, _, rfl, hb, T.cl_Family, T.n_Family_lots, famF_lots _ _ _, ?_⟩
          have d1 : Dp K H (.ref tl) (.tuple ((minL n f).map lotD)) := .tup h2 (paired_dp (prImp (fun _ _ z => z.dp) h3))
          have d2 : Dp K H (.ref ul) (.tuple ((minL n g).map lotD)) := .tup g2 (paired_dp (prImp (fun _ _ z => z.dp) g3))
          refine ⟨_, _, d1, d2, (fit_lotsT _).shaped (by decide), (fit_lotsT _).shaped (by decide), ?_⟩
          have h256 := pow_le8 h5.n8
          have e : PyData.eqv (.tuple ((minL n f).map lotD)) (.tuple ((minL n g).map lotD)) = (decide (n = n) && eqB n f g) := by
            rw [eqv_lots (fun m hm => Nat.lt_of_lt_of_le (minL_lt hm) h256) fun m hm => Nat.lt_of_lt_of_le (minL_lt hm) h256, minL_eq h5 g5]
            simp
          rw [e]
          exact k H (Same.refl _)
        · have k := k H (Same.refl _)
          rw [decide_eq_false e] at k ⊢
          exact iteF k
    · refine ⟨_, rfl, _, _, _, _, false, rfl, .own _, ty, hk, false, rfl, iteF k⟩
end
section
variable {P : Program} {w : World} {K : PySem.W.Frag} {mg : Str → Option Value} {base : Heap}
theorem ok_others (T : Ctx K mg) : FnOk P w K mg base (L2.CX P w) 6 T.f_others T.fd_others ["copies", "lot"] (spLotOf K T.c_BadNumber fun n m => 2 ^ n - 1 - m) := by
  refine T.F_others.okX sc_others (fun vs H Q E h => ?_) (fun cdv A outer s H vs Q E hr h => ?_)
  · obtain ⟨n, a, xs, rfl, _⟩ := h
    rfl
  · obtain ⟨c, a, xs, rfl, kn, hS, sc, k1, k2⟩ := h
    refine ⟨_, (pss_cons (ps_expr (pe_call (ok_check_copies T) (hr.mono (by decide)) (by rfl) T.g_check_copies T.F_check_copies.kp T.b_check_copies .nil (passes_call (takes_of rfl rfl rfl rfl) (fun _ _ _ _ h => h)) (pa_cons (pv 0) pa_nil)))
      (pss_cons (ps_set (i := 2) sc_others.nd rfl (Or.inl rfl) (pe_op op_sub (pe_op op_shl pe_int (pv 0)) pe_int))
      (pss_one (ps_ret (pe_call (ok_lot_at T) (hr.mono (by decide)) (by rfl) T.g_lot_at T.F_lot_at.kp T.b_lot_at .nil pass0 (pa_cons (pe_op op_sub (pv 2) (pe_call (ok_mask_of T) (hr.mono (by decide)) (by rfl) T.g_mask_of T.F_mask_of.kp T.b_mask_of .nil (passes_call (takes_of rfl rfl rfl rfl) (fun _ _ _ _ h => h)) (pa_cons (pv 0) (pa_cons (pv 1) pa_nil)))) pa_nil)))))), ?_⟩
    refine ⟨_, rfl, c, rfl, kn, fun h => ?_, k1⟩
    obtain ⟨n, rfl, h1, h2⟩ := good_copies h
    obtain ⟨q1, q2⟩ := k2 n rfl h1 h2
    refine ⟨_, rfl, _, _, rfl, rfl, ⟨by omega, by omega, by decide⟩, _, _, rfl, rfl, ?_⟩
    refine ⟨_, rfl, _, rfl, _, rfl, n, a, xs, rfl, h2, hS, sc, fun hb => ?_, q2⟩
    have hlt : maskV xs < 2 ^ n := mask_lt fun x hx => badOf_none hb hx
    refine ⟨_, _, rfl, rfl, 2 ^ n - 1 - maskV xs, ?_, q1 hb⟩
    rw [shl_nat, Nat.one_shiftLeft]
    generalize 2 ^ n = N at hlt
    exact congrArg (fun z => [V.int z]) (by omega)
theorem ok_all_lots (T : Ctx K mg) : FnOk P w K mg base (L2.CX P w) 6 T.f_all_lots T.fd_all_lots ["copies"] (spAllLots K T.c_BadNumber) := by
  refine T.F_all_lots.okX sc_all_lots (fun vs H Q E h => ?_) (fun cdv A outer s H vs Q E hr h => ?_)
  · obtain ⟨c, rfl, _⟩ := h
    rfl
  · obtain ⟨c, rfl, kn, k1, k2⟩ := h
    refine ⟨_, (pss_cons (ps_expr (pe_call (ok_check_copies T) (hr.mono (by decide)) (by rfl) T.g_check_copies T.F_check_copies.kp T.b_check_copies .nil (passes_call (takes_of rfl rfl rfl rfl) (fun _ _ _ _ h => h)) (pa_cons (pv 0) pa_nil)))
      (pss_one (ps_ret (pe_lc (own := [("mask", 1)]) (g := gName 1) (tt := tYes) rfl sc_all_lots.nd (pi_range1 (by rfl) T.m_range (pa_cons (pe_op op_shl pe_int (pv 0)) pa_nil)) (blkOk_by (own := [("mask", 1)]) (N := ["copies", "mask"]) (sc := defScope s_all_lots) (by decide +kernel)) (fun _ _ _ _ _ => (pg_name (i := 1) sc_all_lots.nd rfl (Or.inl rfl))) (fun _ _ _ _ _ => pts_nil) (fun _ _ _ _ _ => (pe_call (ok_lot_at T) (hr.mono (by decide)) (by rfl) T.g_lot_at T.F_lot_at.kp T.b_lot_at .nil pass0 (pa_cons (pv 1) pa_nil))))))), ?_⟩
    refine ⟨_, rfl, c, rfl, kn, fun h => ?_, k1⟩
    obtain ⟨n, rfl, h1, h2⟩ := good_copies h
    have q := k2 n rfl h1 h2
    have h256 := pow_le8 h2
    refine ⟨_, rfl, _, _, rfl, rfl, ⟨by omega, by omega, by decide⟩, ?_⟩
    have e : (1 : Int) * (2 : Int) ^ ((n : Int)).toNat = ((2 ^ n : Nat) : Int) := by rw [shl_nat, Nat.one_shiftLeft]
    generalize 2 ^ n = N at h256 q e
    refine ⟨(N : Int), congrArg (fun z => [V.int z]) e, by omega, by omega, fun D nD => ?_⟩
    rw [Int.toNat_natCast]
    refine lc_itA (walk_range (lo := 0) (n := N)) (fun i => i) (fun m y H' => Lot K H' m y) (fun _ _ _ _ e h => h.sameT e) nD (fun _ _ => trivial) (by omega) ?_ ?_
    · rintro i x H1 H' k hi sm ⟨rfl, rfl⟩ h1
      refine ⟨rfl, _, rfl, i, congrArg (fun z => [V.int z]) (Int.zero_add _), fun p H2 s2 np hp => h1 _ _ s2 ⟨p, rfl, .inl (.inl hp)⟩⟩
    · intro H' ys sm hD p
      rw [List.map_id'] at p
      exact q D ys H' sm nD hD p
end
/-! ### the law's own lots -/
def spLots (K : PySem.W.Frag) : Sp := fun vs H Q _ => ∃ n : Nat, vs = [.int n] ∧ n ≤ 8 ∧ ∀ p ys H', Same H H' → H p = none → H' p = some (.lst ys) → Paired (fun m y => Lot K H' m y) (List.range (2 ^ n)) ys → Q (.ref p) H'
section
variable {P : Program} {w : World} {K : PySem.W.Frag} {mg : Str → Option Value} {base : Heap}
end
/-! ### drawn lots and their family -/
def spDrawn (K : PySem.W.Frag) : Sp := fun vs H Q _ => ∃ (l t : Addr) (n : Nat) (H0 : Hp), vs = [.ref l, .ref t, .int n] ∧ Drw K H0 l t H ∧ 1 ≤ n ∧ n ≤ 8 ∧
  ∀ p ms ys H', Exc t H H' → Drw K H0 l t H' → H p = none → H' p = some (.lst ys) → Paired (fun m y => Lot K H' m y) ms ys → ms ≠ [] → ms.length ≤ 4 → (∀ m ∈ ms, 0 < m ∧ m < 2 ^ n) → Q (.ref p) H'
def spFamily (K : PySem.W.Frag) (C : Addr) : Sp := fun vs H Q _ => ∃ (n : Nat) (p : Addr) (ms : List Nat) (ys : List V), vs = [.int n, .ref p] ∧ 1 ≤ n ∧ n ≤ 8 ∧ SqL K H p ys ∧ Paired (fun m y => Lot K H m y) ms ys ∧ ms ≠ [] ∧ ms.length ≤ 300 ∧ (∀ m ∈ ms, 0 < m ∧ m < 2 ^ n) ∧
  ∀ r H', Same H H' → Fam K C H' r n (upB ms) → Q r H'
section
variable {K : PySem.W.Frag} {C CU : Addr} {H : Hp} {x y : V} {n : Nat} {f g : Nat → Bool} {Q : VK} {E : XK}
theorem Fam.ty (F : Fam K C H x n f) (T : InsC K C) : TyX K H x (.ref C) := by
  obtain ⟨a, dx, fs, rfl, ha⟩ := F.isC
  exact T.ty ha
theorem fam_or (F : Fam K C H x n f) (G : Fam K C H y n g) (k : ∀ r H', Same H H' → Fam K C H' r n (fun m => f m || g m) → Q r H') : rOwnB C (spTwo K C CU (tellsF K C fun _ f g m => f m || g m)) E x y H Q :=
  ⟨F.isC, G.isC, x, y, n, n, f, g, rfl, F, G, fun _ => k, fun z => absurd rfl z⟩
theorem fam_le (T : InsC K C) (F : Fam K C H x n f) (G : Fam K C H y n g) (k : ∀ H', Same H H' → Q (.bl (leB n f g)) H') : rOwnC K C (spTwo K C CU (tellsB leB)) E x y H Q :=
  ⟨F.isC, ⟨_, G.ty T, by simp [PySem.W.notFirst]⟩, x, y, n, n, f, g, rfl, F, G, fun _ => k, fun z => absurd rfl z⟩
theorem fam_ne (T : InsC K C) (F : Fam K C H x n f) (G : Fam K C H y n g) (k : ∀ H', Same H H' → Q (.bl (!eqB n f g)) H') : rOwnNe K C (spEqF K C) E x y H Q :=
  ⟨F.isC, ⟨_, G.ty T, by simp [PySem.W.notFirst]⟩, x, y, n, f, rfl, F, .inl ⟨n, g, G, fun H' s => by rw [decide_eq_true rfl, Bool.true_and]; exact ⟨_, rfl, k H' s⟩⟩⟩
/-- what a method's call asks of the object -/
theorem Fam.obj (F : Fam K C H x n f) : ∃ a dx tl tm, x = .ref a ∧ H a = some (.ins C dx (famF n tl tm)) := by
  obtain ⟨⟨a, dx, tl, tm, ls, rfl, ha, _⟩, _⟩ := F
  exact ⟨a, dx, tl, tm, rfl, ha⟩
end
section
variable {K : PySem.W.Frag} {C CU : Addr} {H : Hp} {x y : V} {n : Nat} {f g : Nat → Bool} {Q : VK} {E : XK}
theorem Fam.meth (F : Fam K C H x n f) {m : Str} (h : (m == "marks" || m == "lots" || m == "copies") = false) {Z : Prop} (z : Z) : ∃ a dx fs, x = .ref a ∧ H a = some (.ins C dx fs) ∧ fs.lookup m = none ∧ Z := by
  obtain ⟨a, dx, tl, tm, rfl, ha⟩ := F.obj
  simp at h
  exact ⟨a, dx, _, rfl, ha, famF_no _ _ _ h.1.1 h.1.2 h.2, z⟩
theorem m_dual : (("dual" : Str) == "marks" || ("dual" : Str) == "lots" || ("dual" : Str) == "copies") = false := by decide +kernel
theorem fam_neF (T : InsC K C) (F : Fam K C H x n f) (G : Fam K C H y n g) (e : ∀ m, m < 2 ^ n → f m = g m) (k : ∀ H', Same H H' → Q (.bl false) H') : rOwnNe K C (spEqF K C) E x y H Q := fam_ne T F G (by rw [eqB_of e]; exact k)
end
section
variable {P : Program} {w : World} {K : PySem.W.Frag} {mg : Str → Option Value} {base : Heap}
end
section
variable {P : Program} {w : World} {K : PySem.W.Frag} {mg : Str → Option Value} {base : Heap}
theorem ok_Ratio_init (T : Ctx K mg) : FnOk P w K mg base (L2.CX P w) 4 T.f_Ratio_init T.fd_Ratio_init ["self", "over", "under"] (spInit K T.c_Ratio T.c_BadNumber) := by
  refine T.F_Ratio_init.ok (CX := L2.CX P w) sc_Ratio_init (fun vs H Q E h => ?_) (fun cdv A outer s H vs Q E hr h => ?_)
  · obtain ⟨a, dx, x, y, rfl, _⟩ := h
    rfl
  · obtain ⟨a, dx, x, y, rfl, ha, kx, ky, hok, hbad⟩ := h
    refine ⟨_, (pss_cons (ps_expr (pe_call (ok_check_number T) (hr.mono (by decide)) (by rfl) T.g_check_number T.F_check_number.kp T.b_check_number .nil (passes_call (takes_of rfl rfl rfl rfl) (fun _ _ _ _ h => h)) (pa_cons pe_str (pa_cons (pv 1) (pa_cons pe_non (pa_cons pe_non pa_nil))))))
      (pss_cons (ps_expr (pe_call (ok_check_number T) (hr.mono (by decide)) (by rfl) T.g_check_number T.F_check_number.kp T.b_check_number .nil (passes_call (takes_of rfl rfl rfl rfl) (fun _ _ _ _ h => h)) (pa_cons pe_str (pa_cons (pv 2) (pa_cons pe_non (pa_cons pe_non pa_nil))))))
      (pss_cons (ps_if (pt_cmpR op_eq (pv 2) pe_int (nomark _))
        (pss_one (ps_raise rfl (takes_of rfl rfl rfl rfl) (pmk_oex T.ox_BadNumber T.xn_BadNumber T.xt_BadNumber (ok_BadNumber_init T) (hr.mono (by decide)) T.b_BadNumber_init .nil pass0 (by rfl) T.gc_BadNumber (pa_cons pe_str (pa_cons (pv 2) pa_nil)))))
        pss_nil)
      (pss_cons (ps_set (i := 3) sc_Ratio_init.nd rfl (Or.inl rfl) (pe_callBfun cr_gcd (by rfl) T.gi_gcd (pa_cons (pv 1) (pa_cons (pv 2) pa_nil))))
      (Evl.pss_cut (ps_if (pt_cmpR op_lt (pv 2) pe_int (nomark _))
        (pss_one (ps_set (i := 3) sc_Ratio_init.nd rfl (Or.inl rfl) (pe_un un_neg (pv 3))))
        pss_nil)
      (pss_cons (ps_fld (pv 0) (pe_op op_fdivZ (pv 1) (pv 3)) rfl)
      (pss_one (ps_fld (pv 0) (pe_op op_fdivZ (pv 2) (pv 3)) rfl)))))))), ?_⟩
    -- check_number("over", over)
    refine ⟨_, rfl, "over", x, none, none, rfl, kx, fun hg => ?_, fun hg => ?_⟩
    · obtain ⟨O, rfl⟩ : ∃ O, x = .int O := by
        cases x with
        | int i => exact ⟨i, rfl⟩
        | _ => cases hg
      refine ⟨_, rfl, "under", y, none, none, rfl, ky, fun hg2 => ?_, fun hg2 => ?_⟩
      · obtain ⟨U, rfl⟩ : ∃ U, y = .int U := by
          cases y with
          | int i => exact ⟨i, rfl⟩
          | _ => cases hg2
        refine ⟨_, rfl, rfl, _, rfl, ite2 (fun hc => ?_) fun hc => ?_⟩
        · have e0 : V.int U = .int 0 := of_decide_eq_true hc
          cases e0
          exact ⟨_, rfl, mk2 (hbad "under" (.int 0) (.inr (.inr ⟨rfl, rfl, rfl, rfl⟩)))⟩
        · have hU : U ≠ 0 := fun z => hc (decide_eq_true (by rw [z]))
          obtain ⟨hz, k⟩ := hok O U rfl rfl hU
          obtain ⟨h1, h2, h3⟩ := nf_make (O := O) hU rfl
          refine ⟨_, rfl, _, rfl, O, U, rfl, ?_⟩
          refine ⟨fun σ' H' => H' = H ∧ σ' = [some (.ref a), some (.int O), some (.int U), some (.int (if U < 0 then -((Nat.gcd O.natAbs U.natAbs : Nat) : Int) else ((Nat.gcd O.natAbs U.natAbs : Nat) : Int)))], ?_, ?_⟩
          · refine ⟨_, rfl, _, _, rfl, rfl, _, rfl, ite2 (fun hn => ?_) fun hn => ?_⟩
            · have hn' := of_decide_eq_true hn
              rw [if_pos hn']
              exact ⟨_, rfl, _, rfl, rfl, rfl⟩
            · have hn' := of_decide_eq_false (Bool.eq_false_iff.mpr hn)
              rw [if_neg hn']
              exact ⟨rfl, rfl⟩
          · rintro σ' H' ⟨rfl, rfl⟩
            have hl : (if U < 0 then -((Nat.gcd O.natAbs U.natAbs : Nat) : Int) else ((Nat.gcd O.natAbs U.natAbs : Nat) : Int)).natAbs.log2 < 9000 := log2_le h2 h1 hz
            refine ⟨_, rfl, _, rfl, _, _, rfl, rfl, ⟨h1, hl⟩, _, rfl, a, T.c_Ratio, dx, [], rfl, ha, T.cl_Ratio, T.n_Ratio_over, (by show 0 < 1000; decide), ?_⟩
            refine ⟨_, rfl, _, rfl, _, _, rfl, rfl, ⟨h1, hl⟩, _, rfl, a, T.c_Ratio, dx, _, rfl, upd_same, T.cl_Ratio, T.n_Ratio_under, (by show 1 < 1000; decide), ?_⟩
            exact k _ _ _ h3 upd_same fun b o e hb => by rw [upd_ne hb, upd_ne hb]; exact e
      · exact hbad "under" y (.inr (.inl ⟨rfl, by
          cases y with
          | int i => cases hg2
          | _ => rfl, rfl, rfl⟩))
    · exact hbad "over" x (.inl ⟨by
        cases x with
        | int i => cases hg
        | _ => rfl, rfl, rfl⟩)
theorem ok_ratio_of (T : Ctx K mg) : FnOk P w K mg base CX0 6 T.f_ratio_of T.fd_ratio_of ["value"] (spRatioOf T.c_Ratio) := by
  refine T.F_ratio_of.ok sc_ratio_of (fun vs H Q E h => ?_) (fun cdv A outer s H vs Q E hr h => ?_)
  · obtain ⟨x, p, q, rfl, _⟩ := h
    rfl
  · obtain ⟨x, p, q, rfl, hx, k⟩ := h
    refine ⟨_, (pss_cons (ps_if (pt_val (pe_callB call_isi (by rfl) T.m_isinstance (by decide +kernel) (pa_cons (pv 0) (pa_cons (pe_glob (v := .ref T.c_Ratio) (by rfl) T.gc_Ratio rfl) pa_nil))))
        (pss_one (ps_ret (pv 0)))
        pss_nil)
      (pss_cons (ps_if (pt_val (pe_call (ok_is_integer T) (hr.mono (by decide)) (by rfl) T.g_is_integer T.F_is_integer.kp T.b_is_integer .nil pass0 (pa_cons (pv 0) pa_nil)))
        (pss_one (ps_ret (pe_make T.M_Ratio (ok_Ratio_init T) (hr.mono (by decide)) (by rfl) T.gc_Ratio T.b_Ratio_init1 T.v_Ratio_init1 passL (pa_cons (pv 0) pa_nil))))
        pss_nil)
      (pss_one (ps_ret pe_non)))), ?_⟩
    cases hx with
    | rat R => exact ⟨_, rfl, _, _, _, _, true, rfl, .own _, R.ty T.ic_Ratio, T.ki_Ratio_Ratio, true, rfl, iteT ⟨_, rfl, k _ _ (Same.refl _) R⟩⟩
    | int =>
      refine ⟨_, rfl, _, _, _, _, false, rfl, .own _, .base (.int _), T.ki_int_Ratio, false, rfl, iteF ?_⟩
      exact ⟨_, rfl, _, rfl, kn_int _, true, rfl, iteT ⟨_, rfl, mk_ratio1 fun r H' sm R => k _ H' sm R⟩⟩
theorem ok_Ratio_eq (T : Ctx K mg) : FnOk P w K mg base CX0 1 T.f_Ratio_eq T.fd_Ratio_eq ["self", "other"] (spEqR K T.c_Ratio) := by
  refine T.F_Ratio_eq.ok sc_Ratio_eq (fun vs H Q E h => ?_) (fun cdv A outer s H vs Q E hr h => ?_)
  · obtain ⟨x, y, p, q, rfl, _⟩ := h
    rfl
  · obtain ⟨x, y, p, q, rfl, R, h⟩ := h
    refine ⟨_, (pss_one (ps_ret (pe_and (pe_callB call_isi (by rfl) T.m_isinstance (by decide +kernel) (pa_cons (pv 1) (pa_cons (pe_glob (v := .ref T.c_Ratio) (by rfl) T.gc_Ratio rfl) pa_nil))) (pe_and (pe_cmpR op_eq (pe_fld (pv 0) rfl) (pe_fld (pv 1) rfl) (nomark _)) (pe_one (pe_cmpR op_eq (pe_fld (pv 0) rfl) (pe_fld (pv 1) rfl) (nomark _))))))), ?_⟩
    obtain ⟨⟨a, dx, rfl, ha⟩, _⟩ := id R
    rcases h with ⟨p', q', R', k⟩ | ⟨t, ty, hk, k⟩
    · obtain ⟨⟨b, dy, rfl, hb⟩, _⟩ := id R'
      refine ⟨_, rfl, _, _, _, _, true, rfl, .own _, R'.ty T.ic_Ratio, T.ki_Ratio_Ratio, true, rfl, iteT ?_⟩
      refine ⟨_, rfl, a, T.c_Ratio, dx, _, _, rfl, ha, T.cl_Ratio, T.n_Ratio_over, rfR_over _ _, _, rfl, b, T.c_Ratio, dy, _, _, rfl, hb, T.cl_Ratio, T.n_Ratio_over, rfR_over _ _, rfl, decide (p = p'), congrArg V.bl ?_, ?_⟩
      · by_cases e : p = p'
        · subst e
          simp
        · rw [decide_eq_false e]
          exact decide_eq_false fun z => e (by injection z)
      · by_cases e : p = p'
        · rw [decide_eq_true e]
          rw [decide_eq_true e] at k
          refine iteT ⟨_, rfl, a, T.c_Ratio, dx, _, _, rfl, ha, T.cl_Ratio, T.n_Ratio_under, rfR_under _ _, _, rfl, b, T.c_Ratio, dy, _, _, rfl, hb, T.cl_Ratio, T.n_Ratio_under, rfR_under _ _, rfl, ?_⟩
          have e2 : decide (V.int q = V.int q') = decide (q = q') := by
            by_cases e : q = q'
            · subst e
              simp
            · rw [decide_eq_false e]
              exact decide_eq_false fun z => e (by injection z)
          rw [e2]
          exact k
        · rw [decide_eq_false e]
          rw [decide_eq_false e] at k
          exact iteF k
    · exact ⟨_, rfl, _, _, _, _, false, rfl, .own _, ty, hk, false, rfl, iteF k⟩
end
section
variable {P : Program} {w : World} {K : PySem.W.Frag} {mg : Str → Option Value} {base : Heap}
theorem ok_Ratio_add (T : Ctx K mg) : FnOk P w K mg base CX0 7 T.f_Ratio_add T.fd_Ratio_add ["self", "other"] (spArith T.c_Ratio (fun p1 q1 p2 q2 => p1 * q2 + p2 * q1) (fun p1 q1 p2 q2 => q1 * q2)) := by
  refine T.F_Ratio_add.ok sc_Ratio_add (fun vs H Q E h => ?_) (fun cdv A outer s H vs Q E hr h => ?_)
  · obtain ⟨x, y, p1, q1, p2, q2, n, rfl, _⟩ := h
    rfl
  · obtain ⟨x, y, p1, q1, p2, q2, n, rfl, R, N, z1, z2, n0, n1, k⟩ := h
    refine ⟨_, (pss_cons (ps_set (i := 2) sc_Ratio_add.nd rfl (Or.inl rfl) (pe_call (ok_ratio_of T) (hr.mono (by decide)) (by rfl) T.g_ratio_of T.F_ratio_of.kp T.b_ratio_of .nil pass0 (pa_cons (pv 1) pa_nil)))
      (pss_cons (ps_if (pt_cmpR op_isN (pv 2) pe_non (nomark _))
        (pss_one ps_never)
        pss_nil)
      (pss_cons (ps_set (i := 3) sc_Ratio_add.nd rfl (Or.inl rfl) (pe_op op_add (pe_op op_mulW (pe_fld (pv 0) rfl) (pe_fld (pv 2) rfl)) (pe_op op_mulW (pe_fld (pv 2) rfl) (pe_fld (pv 0) rfl))))
      (pss_one (ps_ret (pe_make T.M_Ratio (ok_Ratio_init T) (hr.mono (by decide)) (by rfl) T.gc_Ratio T.b_Ratio_init2 T.v_Ratio_init2 passL (pa_cons (pv 3) (pa_cons (pe_op op_mulW (pe_fld (pv 0) rfl) (pe_fld (pv 2) rfl)) pa_nil)))))))), ?_⟩
    refine ⟨_, rfl, y, p2, q2, rfl, N, fun r H' sm R2 => ?_⟩
    have R1 := R.same sm
    have hq : q1 * q2 ≠ 0 := Int.mul_ne_zero (by have := R.pos; omega) (by have := N.pos; omega)
    have hzq : (q1 * q2).natAbs.log2 < 9000 := sz_log (wide_lt z1.2 z2.2) (by omega) (by omega)
    obtain ⟨⟨b, dy, rfl, hb⟩, _⟩ := id R2
    obtain ⟨⟨a, dx, rfl, ha⟩, _⟩ := id R1
    refine ⟨_, rfl, rfl, _, rfl, iteF ?_⟩
    refine ⟨_, rfl, a, T.c_Ratio, dx, _, _, rfl, ha, T.cl_Ratio, T.n_Ratio_over, rfR_over _ _, _, rfl, b, T.c_Ratio, dy, _, _, rfl, hb, T.cl_Ratio, T.n_Ratio_under, rfR_under _ _, _, _, rfl, rfl, sz_mul z1.1 z2.2 n0 n1, ?_⟩
    refine ⟨_, rfl, b, T.c_Ratio, dy, _, _, rfl, hb, T.cl_Ratio, T.n_Ratio_over, rfR_over _ _, _, rfl, a, T.c_Ratio, dx, _, _, rfl, ha, T.cl_Ratio, T.n_Ratio_under, rfR_under _ _, _, _, rfl, rfl, sz_mul z2.1 z1.2 n0 n1, _, _, rfl, rfl, ?_⟩
    refine ⟨_, rfl, _, rfl, a, T.c_Ratio, dx, _, _, rfl, ha, T.cl_Ratio, T.n_Ratio_under, rfR_under _ _, _, rfl, b, T.c_Ratio, dy, _, _, rfl, hb, T.cl_Ratio, T.n_Ratio_under, rfR_under _ _, _, _, rfl, rfl, sz_mul z1.2 z2.2 n0 n1, ?_⟩
    refine mk_ratio hq hzq fun r p q H2 s2 R3 nf => k _ p q H2 (sm.trans s2) R3 nf
theorem ok_Ratio_sub (T : Ctx K mg) : FnOk P w K mg base CX0 7 T.f_Ratio_sub T.fd_Ratio_sub ["self", "other"] (spArith T.c_Ratio (fun p1 q1 p2 q2 => p1 * q2 - p2 * q1) (fun p1 q1 p2 q2 => q1 * q2)) := by
  refine T.F_Ratio_sub.ok sc_Ratio_sub (fun vs H Q E h => ?_) (fun cdv A outer s H vs Q E hr h => ?_)
  · obtain ⟨x, y, p1, q1, p2, q2, n, rfl, _⟩ := h
    rfl
  · obtain ⟨x, y, p1, q1, p2, q2, n, rfl, R, N, z1, z2, n0, n1, k⟩ := h
    refine ⟨_, (pss_cons (ps_set (i := 2) sc_Ratio_sub.nd rfl (Or.inl rfl) (pe_call (ok_ratio_of T) (hr.mono (by decide)) (by rfl) T.g_ratio_of T.F_ratio_of.kp T.b_ratio_of .nil pass0 (pa_cons (pv 1) pa_nil)))
      (pss_cons (ps_if (pt_cmpR op_isN (pv 2) pe_non (nomark _))
        (pss_one ps_never)
        pss_nil)
      (pss_cons (ps_set (i := 3) sc_Ratio_sub.nd rfl (Or.inl rfl) (pe_op op_sub (pe_op op_mulW (pe_fld (pv 0) rfl) (pe_fld (pv 2) rfl)) (pe_op op_mulW (pe_fld (pv 2) rfl) (pe_fld (pv 0) rfl))))
      (pss_one (ps_ret (pe_make T.M_Ratio (ok_Ratio_init T) (hr.mono (by decide)) (by rfl) T.gc_Ratio T.b_Ratio_init2 T.v_Ratio_init2 passL (pa_cons (pv 3) (pa_cons (pe_op op_mulW (pe_fld (pv 0) rfl) (pe_fld (pv 2) rfl)) pa_nil)))))))), ?_⟩
    refine ⟨_, rfl, y, p2, q2, rfl, N, fun r H' sm R2 => ?_⟩
    have R1 := R.same sm
    have hq : q1 * q2 ≠ 0 := Int.mul_ne_zero (by have := R.pos; omega) (by have := N.pos; omega)
    have hzq : (q1 * q2).natAbs.log2 < 9000 := sz_log (wide_lt z1.2 z2.2) (by omega) (by omega)
    obtain ⟨⟨b, dy, rfl, hb⟩, _⟩ := id R2
    obtain ⟨⟨a, dx, rfl, ha⟩, _⟩ := id R1
    refine ⟨_, rfl, rfl, _, rfl, iteF ?_⟩
    refine ⟨_, rfl, a, T.c_Ratio, dx, _, _, rfl, ha, T.cl_Ratio, T.n_Ratio_over, rfR_over _ _, _, rfl, b, T.c_Ratio, dy, _, _, rfl, hb, T.cl_Ratio, T.n_Ratio_under, rfR_under _ _, _, _, rfl, rfl, sz_mul z1.1 z2.2 n0 n1, ?_⟩
    refine ⟨_, rfl, b, T.c_Ratio, dy, _, _, rfl, hb, T.cl_Ratio, T.n_Ratio_over, rfR_over _ _, _, rfl, a, T.c_Ratio, dx, _, _, rfl, ha, T.cl_Ratio, T.n_Ratio_under, rfR_under _ _, _, _, rfl, rfl, sz_mul z2.1 z1.2 n0 n1, _, _, rfl, rfl, ?_⟩
    refine ⟨_, rfl, _, rfl, a, T.c_Ratio, dx, _, _, rfl, ha, T.cl_Ratio, T.n_Ratio_under, rfR_under _ _, _, rfl, b, T.c_Ratio, dy, _, _, rfl, hb, T.cl_Ratio, T.n_Ratio_under, rfR_under _ _, _, _, rfl, rfl, sz_mul z1.2 z2.2 n0 n1, ?_⟩
    refine mk_ratio hq hzq fun r p q H2 s2 R3 nf => k _ p q H2 (sm.trans s2) R3 nf
theorem ok_Ratio_mul (T : Ctx K mg) : FnOk P w K mg base CX0 7 T.f_Ratio_mul T.fd_Ratio_mul ["self", "other"] (spArith T.c_Ratio (fun p1 q1 p2 q2 => p1 * p2) (fun p1 q1 p2 q2 => q1 * q2)) := by
  refine T.F_Ratio_mul.ok sc_Ratio_mul (fun vs H Q E h => ?_) (fun cdv A outer s H vs Q E hr h => ?_)
  · obtain ⟨x, y, p1, q1, p2, q2, n, rfl, _⟩ := h
    rfl
  · obtain ⟨x, y, p1, q1, p2, q2, n, rfl, R, N, z1, z2, n0, n1, k⟩ := h
    refine ⟨_, (pss_cons (ps_set (i := 2) sc_Ratio_mul.nd rfl (Or.inl rfl) (pe_call (ok_ratio_of T) (hr.mono (by decide)) (by rfl) T.g_ratio_of T.F_ratio_of.kp T.b_ratio_of .nil pass0 (pa_cons (pv 1) pa_nil)))
      (pss_cons (ps_if (pt_cmpR op_isN (pv 2) pe_non (nomark _))
        (pss_one ps_never)
        pss_nil)
      (pss_one (ps_ret (pe_make T.M_Ratio (ok_Ratio_init T) (hr.mono (by decide)) (by rfl) T.gc_Ratio T.b_Ratio_init2 T.v_Ratio_init2 passL (pa_cons (pe_op op_mulW (pe_fld (pv 0) rfl) (pe_fld (pv 2) rfl)) (pa_cons (pe_op op_mulW (pe_fld (pv 0) rfl) (pe_fld (pv 2) rfl)) pa_nil))))))), ?_⟩
    refine ⟨_, rfl, y, p2, q2, rfl, N, fun r H' sm R2 => ?_⟩
    have R1 := R.same sm
    have hq : q1 * q2 ≠ 0 := Int.mul_ne_zero (by have := R.pos; omega) (by have := N.pos; omega)
    have hzq : (q1 * q2).natAbs.log2 < 9000 := sz_log (wide_lt z1.2 z2.2) (by omega) (by omega)
    obtain ⟨⟨b, dy, rfl, hb⟩, _⟩ := id R2
    obtain ⟨⟨a, dx, rfl, ha⟩, _⟩ := id R1
    refine ⟨_, rfl, rfl, _, rfl, iteF ?_⟩
    refine ⟨_, rfl, a, T.c_Ratio, dx, _, _, rfl, ha, T.cl_Ratio, T.n_Ratio_over, rfR_over _ _, _, rfl, b, T.c_Ratio, dy, _, _, rfl, hb, T.cl_Ratio, T.n_Ratio_over, rfR_over _ _, _, _, rfl, rfl, sz_mul z1.1 z2.1 n0 n1, ?_⟩
    refine ⟨_, rfl, a, T.c_Ratio, dx, _, _, rfl, ha, T.cl_Ratio, T.n_Ratio_under, rfR_under _ _, _, rfl, b, T.c_Ratio, dy, _, _, rfl, hb, T.cl_Ratio, T.n_Ratio_under, rfR_under _ _, _, _, rfl, rfl, sz_mul z1.2 z2.2 n0 n1, ?_⟩
    refine mk_ratio hq hzq fun r p q H2 s2 R3 nf => k _ p q H2 (sm.trans s2) R3 nf
theorem ok_Ratio_radd (T : Ctx K mg) : FnOk P w K mg base CX0 8 T.f_Ratio_radd T.fd_Ratio_radd ["self", "other"] (spArithI T.c_Ratio (fun p1 q1 p2 q2 => p1 * q2 + p2 * q1) (fun p1 q1 p2 q2 => q1 * q2)) := by
  refine T.F_Ratio_radd.ok sc_Ratio_radd (fun vs H Q E h => ?_) (fun cdv A outer s H vs Q E hr h => ?_)
  · obtain ⟨_, _, x, y, p1, q1, p2, q2, n, rfl, _⟩ := h
    rfl
  · obtain ⟨m, hm, x, y, p1, q1, p2, q2, n, rfl, R, N, z1, z2, n0, n1, k⟩ := h
    obtain rfl : y = .int m := Option.some.inj hm
    refine ⟨_, (pss_one (ps_ret (pe_op (op_ownI T.oc_Ratio T.oh_Ratio_add T.me_Ratio_add.fn T.oh_Ratio_radd (.inr ⟨_, rfl⟩) T.ih_add T.ihr_add (ok_Ratio_add T) (hr.mono (by decide)) T.b_Ratio_add pass0) (pv 0) (pv 1)))), ?_⟩
    exact ⟨_, rfl, _, rfl, R.isC, ⟨m, rfl⟩, x, _, p1, q1, p2, q2, n, rfl, R, N, z1, z2, n0, n1, k⟩
theorem ok_Ratio_rsub (T : Ctx K mg) : FnOk P w K mg base CX0 8 T.f_Ratio_rsub T.fd_Ratio_rsub ["self", "other"] (spArithI T.c_Ratio (fun p1 q1 p2 q2 => p2 * q1 - p1 * q2) (fun p1 q1 p2 q2 => q2 * q1)) := by
  refine T.F_Ratio_rsub.ok sc_Ratio_rsub (fun vs H Q E h => ?_) (fun cdv A outer s H vs Q E hr h => ?_)
  · obtain ⟨_, _, x, y, p1, q1, p2, q2, n, rfl, _⟩ := h
    rfl
  · obtain ⟨m, hm, x, y, p1, q1, p2, q2, n, rfl, R, N, z1, z2, n0, n1, k⟩ := h
    refine ⟨_, (pss_cons (ps_set (i := 2) sc_Ratio_rsub.nd rfl (Or.inl rfl) (pe_call (ok_ratio_of T) (hr.mono (by decide)) (by rfl) T.g_ratio_of T.F_ratio_of.kp T.b_ratio_of .nil pass0 (pa_cons (pv 1) pa_nil)))
      (pss_cons (ps_if (pt_cmpR op_isN (pv 2) pe_non (nomark _))
        (pss_one ps_never)
        pss_nil)
      (pss_one (ps_ret (pe_op (op_ownB T.oc_Ratio T.oh_Ratio_sub T.me_Ratio_sub.fn (ok_Ratio_sub T) (hr.mono (by decide)) T.b_Ratio_sub pass0) (pv 2) (pv 0)))))), ?_⟩
    refine ⟨_, rfl, y, p2, q2, rfl, N, fun r H' sm R2 => ?_⟩
    have R1 := R.same sm
    obtain ⟨⟨b, dy, rfl, hb⟩, _⟩ := id R2
    refine ⟨_, rfl, rfl, _, rfl, iteF ?_⟩
    exact ⟨_, rfl, _, rfl, R2.isC, R1.isC, _, x, p2, q2, p1, q1, n, rfl, R2, .rat R1, z2, z1, n0, n1, fun r p q H2 s2 R3 nf => k r p q H2 (sm.trans s2) R3 nf⟩
theorem ok_Ratio_divided (T : Ctx K mg) : FnOk P w K mg base (L2.CX P w) 7 T.f_Ratio_divided T.fd_Ratio_divided ["self", "other"] (spDiv T.c_Ratio T.c_BadNumber) := by
  refine T.F_Ratio_divided.okX sc_Ratio_divided (fun vs H Q E h => ?_) (fun cdv A outer s H vs Q E hr h => ?_)
  · obtain ⟨x, y, p1, q1, p2, q2, n, rfl, _⟩ := h
    rfl
  · obtain ⟨x, y, p1, q1, p2, q2, n, rfl, R, N, z1, z2, n0, n1, k, ke⟩ := h
    refine ⟨_, (pss_cons (ps_set (i := 2) sc_Ratio_divided.nd rfl (Or.inl rfl) (pe_call (ok_ratio_of T) (hr.mono (by decide)) (by rfl) T.g_ratio_of T.F_ratio_of.kp T.b_ratio_of .nil pass0 (pa_cons (pv 1) pa_nil)))
      (pss_cons (ps_if (pt_cmpR op_isN (pv 2) pe_non (nomark _))
        (pss_one (ps_raise rfl (takes_of rfl rfl rfl rfl) (pmk_oex T.ox_BadNumber T.xn_BadNumber T.xt_BadNumber (ok_BadNumber_init T) (hr.mono (by decide)) T.b_BadNumber_init .nil pass0 (by rfl) T.gc_BadNumber (pa_cons pe_str (pa_cons (pv 1) pa_nil)))))
        pss_nil)
      (pss_one (ps_ret (pe_make T.M_Ratio (ok_Ratio_init T) (hr.mono (by decide)) (by rfl) T.gc_Ratio T.b_Ratio_init2 T.v_Ratio_init2 (passes_call (takes_of rfl rfl rfl rfl) (fun _ _ _ _ h => h)) (pa_cons (pe_op op_mulW (pe_fld (pv 0) rfl) (pe_fld (pv 2) rfl)) (pa_cons (pe_op op_mulW (pe_fld (pv 0) rfl) (pe_fld (pv 2) rfl)) pa_nil))))))), ?_⟩
    refine ⟨_, rfl, y, p2, q2, rfl, N, fun r H' sm R2 => ?_⟩
    have R1 := R.same sm
    have hq1 : q1 ≠ 0 := by have := R.pos; omega
    obtain ⟨⟨b, dy, rfl, hb⟩, _⟩ := id R2
    obtain ⟨⟨a, dx, rfl, ha⟩, _⟩ := id R1
    refine ⟨_, rfl, rfl, _, rfl, iteF ?_⟩
    refine ⟨_, rfl, a, T.c_Ratio, dx, _, _, rfl, ha, T.cl_Ratio, T.n_Ratio_over, rfR_over _ _, _, rfl, b, T.c_Ratio, dy, _, _, rfl, hb, T.cl_Ratio, T.n_Ratio_under, rfR_under _ _, _, _, rfl, rfl, sz_mul z1.1 z2.2 n0 n1, ?_⟩
    refine ⟨_, rfl, a, T.c_Ratio, dx, _, _, rfl, ha, T.cl_Ratio, T.n_Ratio_under, rfR_under _ _, _, rfl, b, T.c_Ratio, dy, _, _, rfl, hb, T.cl_Ratio, T.n_Ratio_over, rfR_over _ _, _, _, rfl, rfl, sz_mul z1.2 z2.1 n0 n1, ?_⟩
    refine mk_ratioE (sz_log (wide_lt z1.2 z2.1) (by omega) (by omega)) (fun hU r p q H2 s2 R3 nf => k (fun z => hU (by rw [z, Int.mul_zero])) _ p q H2 (sm.trans s2) R3 nf) fun hU d H2 nd s2 hx => ke ?_ d H2 (sm.free nd) (sm.trans s2) hx
    rcases Int.mul_eq_zero.mp hU with z | z
    · exact absurd z hq1
    · exact z
end
section
variable {P : Program} {w : World} {K : PySem.W.Frag} {mg : Str → Option Value} {base : Heap}
theorem ok_Ratio_half (T : Ctx K mg) : FnOk P w K mg base CX0 6 T.f_Ratio_half T.fd_Ratio_half [] (spHalf T.c_Ratio) := by
  refine T.F_Ratio_half.ok sc_Ratio_half (fun vs H Q E h => ?_) (fun cdv A outer s H vs Q E hr h => ?_)
  · obtain ⟨rfl, _⟩ := h
    rfl
  · obtain ⟨rfl, k⟩ := h
    refine ⟨_, (pss_one (ps_ret (pe_make T.M_Ratio (ok_Ratio_init T) (hr.mono (by decide)) (by rfl) T.gc_Ratio T.b_Ratio_init2 T.v_Ratio_init2 passL (pa_cons pe_int (pa_cons pe_int pa_nil))))), ?_⟩
    refine mk_ratio (by decide) (by decide) fun r p q H7 s7 R nf => ?_
    obtain ⟨rfl, rfl⟩ := nf.unique (by decide) (nf_self (p := 1) (q := 2) (by decide) (by decide))
    exact k _ _ s7 R
end
section
variable {P : Program} {w : World} {K : PySem.W.Frag} {mg : Str → Option Value} {base : Heap}
theorem ok_Ratio_lt (T : Ctx K mg) : FnOk P w K mg base CX0 7 T.f_Ratio_lt T.fd_Ratio_lt ["self", "other"] (spOrd T.c_Ratio fun x y => decide (x < y)) := by
  refine T.F_Ratio_lt.ok sc_Ratio_lt (fun vs H Q E h => ?_) (fun cdv A outer s H vs Q E hr h => ?_)
  · obtain ⟨x, y, p1, q1, p2, q2, n, rfl, _⟩ := h
    rfl
  · obtain ⟨x, y, p1, q1, p2, q2, n, rfl, R, N, z1, z2, n0, n1, k⟩ := h
    refine ⟨_, (pss_cons (ps_set (i := 2) sc_Ratio_lt.nd rfl (Or.inl rfl) (pe_call (ok_ratio_of T) (hr.mono (by decide)) (by rfl) T.g_ratio_of T.F_ratio_of.kp T.b_ratio_of .nil pass0 (pa_cons (pv 1) pa_nil)))
      (pss_cons (ps_if (pt_cmpR op_isN (pv 2) pe_non (nomark _))
        (pss_one ps_never)
        pss_nil)
      (pss_one (ps_ret (pe_cmpR op_lt (pe_op op_mulW (pe_fld (pv 0) rfl) (pe_fld (pv 2) rfl)) (pe_op op_mulW (pe_fld (pv 2) rfl) (pe_fld (pv 0) rfl)) (nomark _)))))), ?_⟩
    refine ⟨_, rfl, y, p2, q2, rfl, N, fun r H' sm R2 => ?_⟩
    obtain ⟨⟨b, dy, rfl, hb⟩, _⟩ := id R2
    obtain ⟨⟨a, dx, rfl, ha⟩, _⟩ := (R.same sm)
    refine ⟨_, rfl, rfl, _, rfl, iteF ?_⟩
    refine ⟨_, rfl, a, T.c_Ratio, dx, _, _, rfl, ha, T.cl_Ratio, T.n_Ratio_over, rfR_over _ _, _, rfl, b, T.c_Ratio, dy, _, _, rfl, hb, T.cl_Ratio, T.n_Ratio_under, rfR_under _ _, _, _, rfl, rfl, sz_mul z1.1 z2.2 n0 n1, ?_⟩
    refine ⟨_, rfl, b, T.c_Ratio, dy, _, _, rfl, hb, T.cl_Ratio, T.n_Ratio_over, rfR_over _ _, _, rfl, a, T.c_Ratio, dx, _, _, rfl, ha, T.cl_Ratio, T.n_Ratio_under, rfR_under _ _, _, _, rfl, rfl, sz_mul z2.1 z1.2 n0 n1, ?_⟩
    exact ⟨_, _, rfl, rfl, k _ sm⟩
theorem ok_Ratio_le (T : Ctx K mg) : FnOk P w K mg base CX0 7 T.f_Ratio_le T.fd_Ratio_le ["self", "other"] (spOrd T.c_Ratio fun x y => decide (x ≤ y)) := by
  refine T.F_Ratio_le.ok sc_Ratio_le (fun vs H Q E h => ?_) (fun cdv A outer s H vs Q E hr h => ?_)
  · obtain ⟨x, y, p1, q1, p2, q2, n, rfl, _⟩ := h
    rfl
  · obtain ⟨x, y, p1, q1, p2, q2, n, rfl, R, N, z1, z2, n0, n1, k⟩ := h
    refine ⟨_, (pss_cons (ps_set (i := 2) sc_Ratio_le.nd rfl (Or.inl rfl) (pe_call (ok_ratio_of T) (hr.mono (by decide)) (by rfl) T.g_ratio_of T.F_ratio_of.kp T.b_ratio_of .nil pass0 (pa_cons (pv 1) pa_nil)))
      (pss_cons (ps_if (pt_cmpR op_isN (pv 2) pe_non (nomark _))
        (pss_one ps_never)
        pss_nil)
      (pss_one (ps_ret (pe_cmpR op_le (pe_op op_mulW (pe_fld (pv 0) rfl) (pe_fld (pv 2) rfl)) (pe_op op_mulW (pe_fld (pv 2) rfl) (pe_fld (pv 0) rfl)) (nomark _)))))), ?_⟩
    refine ⟨_, rfl, y, p2, q2, rfl, N, fun r H' sm R2 => ?_⟩
    obtain ⟨⟨b, dy, rfl, hb⟩, _⟩ := id R2
    obtain ⟨⟨a, dx, rfl, ha⟩, _⟩ := (R.same sm)
    refine ⟨_, rfl, rfl, _, rfl, iteF ?_⟩
    refine ⟨_, rfl, a, T.c_Ratio, dx, _, _, rfl, ha, T.cl_Ratio, T.n_Ratio_over, rfR_over _ _, _, rfl, b, T.c_Ratio, dy, _, _, rfl, hb, T.cl_Ratio, T.n_Ratio_under, rfR_under _ _, _, _, rfl, rfl, sz_mul z1.1 z2.2 n0 n1, ?_⟩
    refine ⟨_, rfl, b, T.c_Ratio, dy, _, _, rfl, hb, T.cl_Ratio, T.n_Ratio_over, rfR_over _ _, _, rfl, a, T.c_Ratio, dx, _, _, rfl, ha, T.cl_Ratio, T.n_Ratio_under, rfR_under _ _, _, _, rfl, rfl, sz_mul z2.1 z1.2 n0 n1, ?_⟩
    exact ⟨_, _, rfl, rfl, k _ sm⟩
theorem ok_Ratio_gt (T : Ctx K mg) : FnOk P w K mg base CX0 7 T.f_Ratio_gt T.fd_Ratio_gt ["self", "other"] (spOrd T.c_Ratio fun x y => decide (y < x)) := by
  refine T.F_Ratio_gt.ok sc_Ratio_gt (fun vs H Q E h => ?_) (fun cdv A outer s H vs Q E hr h => ?_)
  · obtain ⟨x, y, p1, q1, p2, q2, n, rfl, _⟩ := h
    rfl
  · obtain ⟨x, y, p1, q1, p2, q2, n, rfl, R, N, z1, z2, n0, n1, k⟩ := h
    refine ⟨_, (pss_cons (ps_set (i := 2) sc_Ratio_gt.nd rfl (Or.inl rfl) (pe_call (ok_ratio_of T) (hr.mono (by decide)) (by rfl) T.g_ratio_of T.F_ratio_of.kp T.b_ratio_of .nil pass0 (pa_cons (pv 1) pa_nil)))
      (pss_cons (ps_if (pt_cmpR op_isN (pv 2) pe_non (nomark _))
        (pss_one ps_never)
        pss_nil)
      (pss_one (ps_ret (pe_cmpR op_gt (pe_op op_mulW (pe_fld (pv 0) rfl) (pe_fld (pv 2) rfl)) (pe_op op_mulW (pe_fld (pv 2) rfl) (pe_fld (pv 0) rfl)) (nomark _)))))), ?_⟩
    refine ⟨_, rfl, y, p2, q2, rfl, N, fun r H' sm R2 => ?_⟩
    obtain ⟨⟨b, dy, rfl, hb⟩, _⟩ := id R2
    obtain ⟨⟨a, dx, rfl, ha⟩, _⟩ := (R.same sm)
    refine ⟨_, rfl, rfl, _, rfl, iteF ?_⟩
    refine ⟨_, rfl, a, T.c_Ratio, dx, _, _, rfl, ha, T.cl_Ratio, T.n_Ratio_over, rfR_over _ _, _, rfl, b, T.c_Ratio, dy, _, _, rfl, hb, T.cl_Ratio, T.n_Ratio_under, rfR_under _ _, _, _, rfl, rfl, sz_mul z1.1 z2.2 n0 n1, ?_⟩
    refine ⟨_, rfl, b, T.c_Ratio, dy, _, _, rfl, hb, T.cl_Ratio, T.n_Ratio_over, rfR_over _ _, _, rfl, a, T.c_Ratio, dx, _, _, rfl, ha, T.cl_Ratio, T.n_Ratio_under, rfR_under _ _, _, _, rfl, rfl, sz_mul z2.1 z1.2 n0 n1, ?_⟩
    exact ⟨_, _, rfl, rfl, k _ sm⟩
theorem ok_Ratio_ge (T : Ctx K mg) : FnOk P w K mg base CX0 7 T.f_Ratio_ge T.fd_Ratio_ge ["self", "other"] (spOrd T.c_Ratio fun x y => decide (y ≤ x)) := by
  refine T.F_Ratio_ge.ok sc_Ratio_ge (fun vs H Q E h => ?_) (fun cdv A outer s H vs Q E hr h => ?_)
  · obtain ⟨x, y, p1, q1, p2, q2, n, rfl, _⟩ := h
    rfl
  · obtain ⟨x, y, p1, q1, p2, q2, n, rfl, R, N, z1, z2, n0, n1, k⟩ := h
    refine ⟨_, (pss_cons (ps_set (i := 2) sc_Ratio_ge.nd rfl (Or.inl rfl) (pe_call (ok_ratio_of T) (hr.mono (by decide)) (by rfl) T.g_ratio_of T.F_ratio_of.kp T.b_ratio_of .nil pass0 (pa_cons (pv 1) pa_nil)))
      (pss_cons (ps_if (pt_cmpR op_isN (pv 2) pe_non (nomark _))
        (pss_one ps_never)
        pss_nil)
      (pss_one (ps_ret (pe_cmpR op_ge (pe_op op_mulW (pe_fld (pv 0) rfl) (pe_fld (pv 2) rfl)) (pe_op op_mulW (pe_fld (pv 2) rfl) (pe_fld (pv 0) rfl)) (nomark _)))))), ?_⟩
    refine ⟨_, rfl, y, p2, q2, rfl, N, fun r H' sm R2 => ?_⟩
    obtain ⟨⟨b, dy, rfl, hb⟩, _⟩ := id R2
    obtain ⟨⟨a, dx, rfl, ha⟩, _⟩ := (R.same sm)
    refine ⟨_, rfl, rfl, _, rfl, iteF ?_⟩
    refine ⟨_, rfl, a, T.c_Ratio, dx, _, _, rfl, ha, T.cl_Ratio, T.n_Ratio_over, rfR_over _ _, _, rfl, b, T.c_Ratio, dy, _, _, rfl, hb, T.cl_Ratio, T.n_Ratio_under, rfR_under _ _, _, _, rfl, rfl, sz_mul z1.1 z2.2 n0 n1, ?_⟩
    refine ⟨_, rfl, b, T.c_Ratio, dy, _, _, rfl, hb, T.cl_Ratio, T.n_Ratio_over, rfR_over _ _, _, rfl, a, T.c_Ratio, dx, _, _, rfl, ha, T.cl_Ratio, T.n_Ratio_under, rfR_under _ _, _, _, rfl, rfl, sz_mul z2.1 z1.2 n0 n1, ?_⟩
    exact ⟨_, _, rfl, rfl, k _ sm⟩
end
section
variable {P : Program} {w : World} {K : PySem.W.Frag} {mg : Str → Option Value} {base : Heap}
theorem ok_is_short (T : Ctx K mg) : FnOk P w K mg base CX0 1 T.f_is_short T.fd_is_short ["value"] (spShort K T.c_Ratio) := by
  refine T.F_is_short.ok sc_is_short (fun vs H Q E h => ?_) (fun cdv A outer s H vs Q E hr h => ?_)
  · obtain ⟨x, rfl, _⟩ := h
    rfl
  · obtain ⟨x, rfl, h⟩ := h
    refine ⟨_, (pss_one (ps_ret (pe_and (pe_callB call_isi (by rfl) T.m_isinstance (by decide +kernel) (pa_cons (pv 0) (pa_cons (pe_glob (v := .ref T.c_Ratio) (by rfl) T.gc_Ratio rfl) pa_nil))) (pe_one (pe_cmpR op_le (pe_fld (pv 0) rfl) (pe_glob (v := .int 1000) (by rfl) T.gk_MOST_UNDER ⟨_, rfl⟩) (nomark _)))))), ?_⟩
    rcases h with ⟨p, q, R, k⟩ | ⟨⟨t, ty, hk⟩, k⟩
    · have R' := R
      obtain ⟨⟨a, dx, rfl, ha⟩, h1, h2⟩ := R
      exact ⟨_, rfl, _, _, _, _, true, rfl, .own _, R'.ty T.ic_Ratio, T.ki_Ratio_Ratio, true, rfl, iteT ⟨_, rfl, a, T.c_Ratio, dx, _, _, rfl, ha, T.cl_Ratio, T.n_Ratio_under, rfR_under _ _, _, _, rfl, rfl, k⟩⟩
    · refine ⟨_, rfl, _, _, _, _, false, rfl, .own _, ty, hk, false, rfl, iteF k⟩
theorem ok_check_chance (T : Ctx K mg) : FnOk P w K mg base (L2.CX P w) 9 T.f_check_chance T.fd_check_chance ["chance"] (spChance K T.c_Ratio T.c_BadNumber) := by
  refine T.F_check_chance.okX sc_check_chance (fun vs H Q E h => ?_) (fun cdv A outer s H vs Q E hr h => ?_)
  · obtain ⟨x, rfl, _⟩ := h
    rfl
  · obtain ⟨x, rfl, h⟩ := h
    refine ⟨_, (Evl.pss_cut (ps_if (PW.pt (pw_or (pt_not (pt_val (pe_call (ok_is_short T) (hr.mono (by decide)) (by rfl) T.g_is_short T.F_is_short.kp T.b_is_short .nil pass0 (pa_cons (pv 0) pa_nil)))) (pw_or (pt_cmpR (op_ownC (fun _ _ => rfl) T.me_Ratio_lt.at_ T.me_Ratio_lt.fn (ok_Ratio_lt T) (hr.mono (by decide)) T.b_Ratio_lt pass0) (pv 0) (pe_smeth0 (pe_glob (v := .ref T.c_Ratio) (by rfl) T.gc_Ratio rfl) T.sm_Ratio_half (ok_Ratio_half T) T.F_Ratio_half.kp (hr.mono (by decide)) T.b_Ratio_half pass0) (nomark _)) (pw_or1 (pt_cmpR (op_ownC (fun _ _ => rfl) T.me_Ratio_ge.at_ T.me_Ratio_ge.fn (ok_Ratio_ge T) (hr.mono (by decide)) T.b_Ratio_ge pass0) (pv 0) pe_int (nomark _))))))
        (pss_one (ps_raise rfl (takes_of rfl rfl rfl rfl) (pmk_oex T.ox_BadNumber T.xn_BadNumber T.xt_BadNumber (ok_BadNumber_init T) (hr.mono (by decide)) T.b_BadNumber_init .nil pass0 (by rfl) T.gc_BadNumber (pa_cons pe_str (pa_cons (pv 0) pa_nil)))))
        pss_nil)
      (pss_one (ps_ret (pv 0)))), ?_⟩
    rcases h with ⟨p, q, R, sz, k1, k2⟩ | ⟨ty, k⟩
    · have ic := T.ic_Ratio
      have iy := R.ty ic
      refine ⟨fun σ' H' => σ' = [some x] ∧ Same H H' ∧ chanceOk p q = true, ?_, ?_⟩
      · refine ⟨_, rfl, x, rfl, .inl ⟨p, q, R, ?_⟩⟩
        cases c : decide (q ≤ 1000) with
        | false => exact ⟨_, rfl, iteT ⟨_, rfl, mk2 (k2 (by unfold chanceOk; rw [c] <;> rfl))⟩⟩
        | true =>
          refine ⟨_, rfl, iteF ⟨_, rfl, rfl, rfl, fun r H1 s1 R1 => ⟨(R.same s1).isC, ⟨_, R1.ty ic, by simp [PySem.W.notFirst]⟩, x, r, p, q, 1, 2, 200, rfl, R.same s1, .rat R1, sz, ⟨by decide, by decide⟩, by decide, by decide, fun H2 s2 => ⟨_, rfl, ?_⟩⟩⟩⟩
          have t2 := s1.trans s2
          refine ite2 (fun c2 => ⟨_, rfl, mk2 ((k2 ?_).of t2)⟩) fun c2 => ⟨_, rfl, (R.same t2).isC, ⟨_, .base (.int _), notFirst_of T.oc_Ratio.intNo⟩, x, .int 1, p, q, 1, 1, 200, rfl, R.same t2, .int 1, sz, ⟨by decide, by decide⟩, by decide, by decide, fun H3 s3 => ⟨_, rfl, ite2 (fun c3 => ⟨_, rfl, mk2 ((k2 ?_).of (t2.trans s3))⟩) fun c3 => ⟨rfl, t2.trans s3, ?_⟩⟩⟩
          · have := of_decide_eq_true c2
            unfold chanceOk
            rw [decide_eq_false (p := q ≤ 2 * p) (by omega)]
            simp
          · have := of_decide_eq_true c3
            unfold chanceOk
            rw [decide_eq_false (p := p < q) (by omega)]
            simp
          · have d2 : ¬ (p * 2 < 1 * q) := fun z => c2 (decide_eq_true z)
            have d3 : ¬ (1 * q ≤ p * 1) := fun z => c3 (decide_eq_true z)
            unfold chanceOk
            rw [c, decide_eq_true (p := q ≤ 2 * p) (by omega), decide_eq_true (p := p < q) (by omega)] <;> rfl
      rintro σ' H1 ⟨rfl, s1, e⟩
      exact ⟨_, rfl, k1 e H1 s1⟩
    · refine ⟨fun σ' H' => False, ?_, fun _ _ z => z.elim⟩
      exact ⟨_, rfl, x, rfl, .inr ⟨ty, ⟨_, rfl, iteT ⟨_, rfl, mk2 k⟩⟩⟩⟩
theorem ok_scale_of (T : Ctx K mg) : FnOk P w K mg base CX0 1 T.f_scale_of T.fd_scale_of ["ratios"] (spScale K T.c_Ratio) := by
  refine T.F_scale_of.ok sc_scale_of (fun vs H Q E h => ?_) (fun cdv A outer s H vs Q E hr h => ?_)
  · obtain ⟨p, l, ys, rfl, _⟩ := h
    rfl
  · obtain ⟨p, l, ys, rfl, hS, pr, hl, hu, k⟩ := h
    refine ⟨_, (pss_cons (ps_set (i := 1) sc_scale_of.nd rfl (Or.inl rfl) pe_int)
      (pss_cons (ps_for PassesOwn.never rfl (pi_tup (pv 0)) (pg_name (i := 2) sc_scale_of.nd rfl (Or.inl rfl))
        (pss_one (ps_set (i := 1) sc_scale_of.nd rfl (Or.inl rfl) (pe_op op_mul (pv 1) (pe_fld (pv 2) rfl)))))
      (pss_one (ps_ret (pv 1))))), ?_⟩
    have ly := prLen pr
    refine ⟨_, rfl, p, rfl, ⟨_, hS⟩, for_tup (K := K) (a := p) (xs := ys) (fun i σ' H' => H' = H ∧ ∃ v, σ' = [some (.ref p), some (.int (prodU (l.take i))), v]) ⟨rfl, _, rfl⟩ (fun i σ' H' _ h => by rw [h.1]; exact hS) (fun i y σ' H' hy h => ?_) fun σ' H' h => ?_⟩
    · obtain ⟨rfl, v, rfl⟩ := h
      obtain ⟨r, hr, R⟩ := prAt pr hy
      have h1 := hu r (List.mem_of_getElem? hr)
      have h2 := R.pos
      obtain ⟨⟨a, dx, rfl, ha⟩, _, _⟩ := R
      refine ⟨_, rfl, _, rfl, a, T.c_Ratio, dx, _, _, rfl, ha, T.cl_Ratio, T.n_Ratio_under, rfR_under _ _, _, _, rfl, rfl, .inr ⟨by omega, by omega⟩, rfl, some (.ref a), ?_⟩
      rw [List.take_add_one, hr]
      show _ = [some (V.ref p), some (V.int (prodU (l.take i ++ [r]))), _]
      rw [prodU_snoc]
      rfl
    · obtain ⟨rfl, v, rfl⟩ := h
      rw [ly, List.take_length]
      exact ⟨_, rfl, k⟩
theorem ok_counts_of (T : Ctx K mg) : FnOk P w K mg base CX0 1 T.f_counts_of T.fd_counts_of ["ratios"] (spCounts K T.c_Ratio) := by
  refine T.F_counts_of.ok sc_counts_of (fun vs H Q E h => ?_) (fun cdv A outer s H vs Q E hr h => ?_)
  · obtain ⟨p, l, ys, rfl, _⟩ := h
    rfl
  · obtain ⟨p, l, ys, rfl, hS, pr, hl, hu, k⟩ := h
    refine ⟨_, (pss_cons (ps_set (i := 1) sc_counts_of.nd rfl (Or.inl rfl) (pe_lst (pa_cons pe_int pa_nil)))
      (pss_cons (ps_for PassesOwn.never rfl (pi_tup (pv 0)) (pg_name (i := 2) sc_counts_of.nd rfl (Or.inr rfl))
        (pss_cons (ps_set (i := 3) sc_counts_of.nd rfl (Or.inr rfl) (pe_op op_sub (pe_fld (pv 2) rfl) (pe_fld (pv 2) rfl)))
        (pss_one (ps_set (i := 1) sc_counts_of.nd rfl (Or.inl rfl) (pe_op op_cat (pe_lc (own := [("count", 4)]) (g := gName 4) (tt := tYes) rfl sc_counts_of.nd (pi_list (pv 1)) (blkOk_by (own := [("count", 4)]) (N := ["ratios", "counts", "ratio", "down", "count"]) (sc := defScope s_counts_of) (by decide +kernel)) (fun _ _ _ _ _ => (pg_name (i := 4) sc_counts_of.nd rfl (Or.inl rfl))) (fun _ _ _ _ _ => pts_nil) (fun _ _ _ _ _ => (pe_op op_mul (pv 4) (pv 3)))) (pe_lc (own := [("count", 4)]) (g := gName 4) (tt := tYes) rfl sc_counts_of.nd (pi_list (pv 1)) (blkOk_by (own := [("count", 4)]) (N := ["ratios", "counts", "ratio", "down", "count"]) (sc := defScope s_counts_of) (by decide +kernel)) (fun _ _ _ _ _ => (pg_name (i := 4) sc_counts_of.nd rfl (Or.inl rfl))) (fun _ _ _ _ _ => pts_nil) (fun _ _ _ _ _ => (pe_op op_mul (pv 4) (pe_fldK (K := K) rfl (pv 2) rfl)))))))))
      (pss_one (ps_ret (pv 1))))), ?_⟩
    have ly := prLen pr
    refine ⟨(by show 1 ≤ sizeLine; decide), fun c0 nc => ?_⟩
    have s0 := same_upd (o := .lst [V.int 1]) nc
    have h0 : upd H c0 (.lst [V.int 1]) c0 = some (.lst [V.int 1]) := upd_same
    revert s0 h0
    generalize upd H c0 _ = H1
    intro s0 h0
    refine ⟨_, rfl, p, rfl, ⟨_, Same.seqT s0 hS⟩, for_tup (K := K) (a := p) (xs := ys) (fun i σ' H' => Same H H' ∧ ∃ q v2 v3, σ' = [some (.ref p), some (.ref q), v2, v3, none] ∧ H q = none ∧ H' q = some (.lst ((countsOf (l.take i)).map V.int))) ⟨s0, c0, _, _, rfl, nc, h0⟩ (fun i σ' H' _ h => Same.seqT h.1 hS) (fun i y σ' H2 hy h => ?_) fun σ' H2 h => ?_⟩
    · obtain ⟨s2, q, v2, v3, rfl, nq, hq⟩ := h
      obtain ⟨r, hr, R⟩ := prAt pr hy
      obtain ⟨u1, u2, u3⟩ := hu r (List.mem_of_getElem? hr)
      have R2 := R.same s2
      obtain ⟨⟨a, dx, rfl, ha⟩, _, _⟩ := R2
      have hb : ∀ c ∈ countsOf (l.take i), 0 ≤ c ∧ c ≤ 1000 ^ (l.take i).length := counts_bound fun r hr => hu r (List.mem_of_mem_take hr)
      have hn := countsOf_len (l.take i)
      have hi : (l.take i).length ≤ 7 := by
        have := (List.getElem?_eq_some_iff.mp hy).1
        rw [List.length_take]
        omega
      refine ⟨_, rfl, a, T.c_Ratio, dx, _, _, rfl, ha, T.cl_Ratio, T.n_Ratio_under, rfR_under _ _, _, rfl, a, T.c_Ratio, dx, _, _, rfl, ha, T.cl_Ratio, T.n_Ratio_over, rfR_over _ _, _, _, rfl, rfl, ?_⟩
      have e8 : (256 : Nat) ≤ sizeLine := by decide
      have p7 : 2 ^ (l.take i).length ≤ 128 := (Nat.pow_le_pow_right (by decide) hi : 2 ^ (l.take i).length ≤ 2 ^ 7)
      have at_c : ∀ {j : Nat} {x : V}, ((countsOf (l.take i)).map V.int)[j]? = some x → x = .int ((countsOf (l.take i)).getD j 0) := fun {j x} h => by
        rw [List.getElem?_map] at h
        rw [List.getD_eq_getElem?_getD]
        cases e : (countsOf (l.take i))[j]? with
        | none => rw [e] at h; cases h
        | some c => rw [e] at h; cases h; rfl
      refine ⟨_, rfl, q, rfl, ⟨_, SqL.of hq⟩, fun D nD => ?_⟩
      refine lc_itA (walk_list (K := K) (a := q) (xs := (countsOf (l.take i)).map V.int)) (fun j => V.int ((countsOf (l.take i)).getD j 0 * (r.2 - r.1))) (fun a y _ => y = a) (fun _ _ _ _ _ h => h) nD (fun H' e => e.seq (SqL.of hq)) (by rw [List.length_map]; omega) ?_ ?_
      · rintro j x H3 H4 k1 hj s3 ⟨rfl, hx⟩ h1
        obtain rfl := at_c hx
        exact ⟨rfl, _, rfl, _, rfl, _, _, rfl, rfl, .inr ⟨by omega, by omega⟩, h1 _ _ (Same.refl _) rfl⟩
      intro H3 xs3 s3 hD pD
      have hq3 := s3 _ _ hq
      refine ⟨_, rfl, q, rfl, ⟨_, SqL.of hq3⟩, fun D2 nD2 => ?_⟩
      refine lc_itA (walk_list (K := K) (a := q) (xs := (countsOf (l.take i)).map V.int)) (fun j => V.int ((countsOf (l.take i)).getD j 0 * r.1)) (fun a y _ => y = a) (fun _ _ _ _ _ h => h) nD2 (fun H' e => e.seq (SqL.of hq3)) (by rw [List.length_map]; omega) ?_ ?_
      · rintro j x H4 H5 k1 hj s4 ⟨rfl, hx⟩ h1
        obtain rfl := at_c hx
        exact ⟨rfl, _, rfl, _, rfl, a, T.c_Ratio, dx, _, _, rfl, s4 _ _ (s3 _ _ ha), T.cl_Ratio, T.n_Ratio_over, rfR_over _ _, _, _, rfl, rfl, .inr ⟨by omega, by omega⟩, h1 _ _ (Same.refl _) rfl⟩
      intro H4 xs4 s4 hD2 pD2
      have e3 : xs3 = ((countsOf (l.take i)).map (· * (r.2 - r.1))).map V.int := by
        rw [paired_eq pD, List.length_map, show (List.range (countsOf (l.take i)).length).map (fun j => V.int ((countsOf (l.take i)).getD j 0 * (r.2 - r.1))) = (countsOf (l.take i)).map (fun c => V.int (c * (r.2 - r.1))) from range_get (fun c => V.int (c * (r.2 - r.1))) 0 _, List.map_map] <;> rfl
      have e4 : xs4 = ((countsOf (l.take i)).map (· * r.1)).map V.int := by
        rw [paired_eq pD2, List.length_map, show (List.range (countsOf (l.take i)).length).map (fun j => V.int ((countsOf (l.take i)).getD j 0 * r.1)) = (countsOf (l.take i)).map (fun c => V.int (c * r.1)) from range_get (fun c => V.int (c * r.1)) 0 _, List.map_map] <;> rfl
      refine ⟨D, D2, xs3, xs4, rfl, rfl, s4 _ _ hD, hD2, by rw [e3, e4]; simp; omega, fun u nu => ?_⟩
      have t := s2.trans (s3.trans (s4.trans (same_upd (o := .lst (xs3 ++ xs4)) nu)))
      refine ⟨t, u, _, _, rfl, (s2.trans (s3.trans s4)).free nu, ?_⟩
      rw [upd_same, List.take_add_one, hr]
      show _ = some (HO.lst ((countsOf (l.take i ++ [r])).map V.int))
      rw [countsOf_snoc, List.map_append, e3, e4]
    · obtain ⟨s2, q, v2, v3, rfl, nq, hq⟩ := h
      rw [ly, List.take_length] at hq
      exact ⟨_, rfl, k q H2 s2 nq hq⟩
end
section
variable {P : Program} {w : World} {K : PySem.W.Frag} {mg : Str → Option Value} {base : Heap}
theorem ok_Chances_init (T : Ctx K mg) : FnR P w K mg base (L2.CX P w) 10 T.f_Chances_init (spStar 1 (spCh0 K T.c_Chances T.c_Ratio T.c_BadNumber)) := by
  refine Fun.okStar (ps := ["self"]) (pv := "chances") T.F_Chances_init sc_Chances_init bs_Chances_init (fun cdv A outer s H vs Q E hr h => ?_)
  obtain ⟨a, dx, p, ys, xs, rfl, ha, hS, hx, k1, k2⟩ := h
  refine ⟨_, (pss_cons (ps_expr (pe_call (ok_check_copies T) (hr.mono (by decide)) (by rfl) T.g_check_copies T.F_check_copies.kp T.b_check_copies .nil (passes_call (takes_of rfl rfl rfl rfl) (fun _ _ _ _ h => h)) (pa_cons (pe_callB call_len_seq (by rfl) T.m_len (by decide +kernel) (pa_cons (pv 1) pa_nil)) pa_nil)))
      (pss_cons (ps_for (passes_of rfl) rfl (pi_tup (pv 1)) (pg_name (i := 2) sc_Chances_init.nd rfl (Or.inl rfl))
        (pss_one (ps_expr (pe_call (ok_check_chance T) (hr.mono (by decide)) (by rfl) T.g_check_chance T.F_check_chance.kp T.b_check_chance .nil (passes_call (takes_of rfl rfl rfl rfl) (fun _ _ _ _ h => h)) (pa_cons (pv 2) pa_nil)))))
      (pss_cons (ps_fld (pv 0) (pv 1) rfl)
      (pss_cons (ps_fld (pv 0) (pe_call (ok_scale_of T) (hr.mono (by decide)) (by rfl) T.g_scale_of T.F_scale_of.kp T.b_scale_of .nil pass0 (pa_cons (pv 1) pa_nil)) rfl)
      (pss_one (ps_fld (pv 0) (pe_callTy call_tuple_ofZ (by rfl) T.m_tuple (by decide +kernel) (pa_cons (pe_call (ok_counts_of T) (hr.mono (by decide)) (by rfl) T.g_counts_of T.F_counts_of.kp T.b_counts_of .nil pass0 (pa_cons (pv 1) pa_nil)) pa_nil)) rfl)))))), ?_⟩
  have ly := prLen hx
  refine ⟨_, rfl, p, ys, rfl, .inr hS, .int ys.length, rfl, kn_int _, fun hg => ?_, fun hg => ?_⟩
  · obtain ⟨n, en, n1, n8⟩ := good_copies hg
    have en : ys.length = n := by
      injection en with en
      omega
    obtain ⟨k3, k4⟩ := k2 (by omega) (by omega)
    refine ⟨_, rfl, p, rfl, ⟨_, hS⟩, for_tup (K := K) (a := p) (xs := ys) (fun i σ' H' => Same H H' ∧ (∀ o ∈ xs.take i, okOf o = true) ∧ ∃ v, σ' = [some (.ref a), some (.ref p), v]) ⟨Same.refl _, fun o ho => by simp at ho, _, rfl⟩ (fun i σ' H' _ h => Same.seqT h.1 hS) (fun i y σ' H2 hy h => ?_) fun σ' H2 h => ?_⟩
    · obtain ⟨s2, hok, v, rfl⟩ := h
      obtain ⟨o, ho, hc⟩ := prAt hx hy
      have next : okOf o = true → ∀ z ∈ xs.take (i + 1), okOf z = true := fun e z hz => by
        rw [List.take_add_one, ho] at hz
        rcases List.mem_append.mp hz with w | w
        · exact hok z w
        · rw [List.mem_singleton.mp (show z ∈ [o] from w)]
          exact e
      have bad : okOf o = false → Err T.c_BadNumber H2 E "chance" y := fun e => (k3 i y hy hok (by rw [ho]; exact congrArg some e)).of s2
      refine ⟨_, rfl, y, rfl, ?_⟩
      cases o with
      | none =>
        exact .inr ⟨hc H2, bad rfl⟩
      | some r =>
        obtain ⟨R, sz⟩ := hc
        exact .inl ⟨r.1, r.2, R.same s2, sz, fun e H3 s3 => ⟨s2.trans s3, next e, _, rfl⟩, bad⟩
    · obtain ⟨s2, hok, v, rfl⟩ := h
      rw [ly, List.take_length] at hok
      obtain ⟨l, rfl, hl⟩ := all_ok xs hok
      rw [List.length_map] at ly
      have ha2 := s2 _ _ ha
      have hS2 := Same.seqT s2 hS
      have pr2 : Rats T.c_Ratio H2 l ys := prImp (fun r y (z : ChOf K T.c_Ratio H (some r) y) => z.1.same s2) (prUnmapL hx)
      have l8 : l.length ≤ 8 := by omega
      have l1 : 1 ≤ l.length := by omega
      -- self.ratios
      refine ⟨_, rfl, _, rfl, a, T.c_Chances, dx, _, rfl, ha2, T.cl_Chances, T.n_Chances_ratios, by decide, ?_⟩
      have ha3 : upd H2 a (.ins T.c_Chances dx (putF "ratios" (.ref p) [])) a = some (.ins T.c_Chances dx (putF "ratios" (.ref p) [])) := upd_same
      have e3 : Exc a H2 (upd H2 a (.ins T.c_Chances dx (putF "ratios" (.ref p) []))) := exc_at
      have hS3 := seqT_exc ha2 e3 hS2
      have pr3 : Rats T.c_Ratio _ l ys := prImp (fun r y z => rat_exc rfl ha2 e3 z) pr2
      revert ha3 e3 hS3 pr3
      generalize upd H2 a _ = H3
      intro ha3 e3 hS3 pr3
      have lo : (putF "ratios" (.ref p) ([] : List (Str × V))).lookup ("over" : Str) = none := by rw [lookup_putF, if_neg (by decide +kernel)] <;> rfl
      -- self.scale
      refine ⟨_, rfl, p, l, ys, rfl, hS3, pr3, l8, fun r hr => (ok_terms (hl r hr)).2.2, _, rfl, a, T.c_Chances, dx, _, rfl, ha3, T.cl_Chances, T.n_Chances_scale, few1, ?_⟩
      have ha4 : upd H3 a (.ins T.c_Chances dx (putF "scale" (.int (prodU l)) (putF "ratios" (.ref p) []))) a = some (.ins T.c_Chances dx (putF "scale" (.int (prodU l)) (putF "ratios" (.ref p) []))) := upd_same
      have e4 : Exc a H3 (upd H3 a (.ins T.c_Chances dx (putF "scale" (.int (prodU l)) (putF "ratios" (.ref p) [])))) := exc_at
      have hS4 := seqT_exc ha3 e4 hS3
      have pr4 : Rats T.c_Ratio _ l ys := prImp (fun r y z => rat_exc lo ha3 e4 z) pr3
      revert ha4 e4 hS4 pr4
      generalize upd H3 a _ = H4
      intro ha4 e4 hS4 pr4
      have lo2 : (putF "scale" (.int (prodU l)) (putF "ratios" (.ref p) ([] : List (Str × V)))).lookup ("over" : Str) = none := by rw [lookup_putF, if_neg (by decide +kernel)]; exact lo
      -- self.counts
      refine ⟨_, rfl, p, l, ys, rfl, hS4, pr4, l8, fun r hr => ok_terms (hl r hr), fun q H5 s5 nq hq => ⟨q, _, rfl, SqL.of hq, fun tc ob ntc _ => ?_⟩⟩
      have s6 := s5.trans (same_upd (o := .frz ob (.tup ((countsOf l).map V.int))) ntc)
      have htc : upd H5 tc (.frz ob (.tup ((countsOf l).map V.int))) tc = some (.frz ob (.tup ((countsOf l).map V.int))) := upd_same
      revert s6 htc
      generalize upd H5 tc _ = H6
      intro s6 htc
      have ha6 := s6 _ _ ha4
      refine ⟨_, rfl, a, T.c_Chances, dx, _, rfl, ha6, T.cl_Chances, T.n_Chances_counts, few2, ?_⟩
      have e8 : Exc a H6 (upd H6 a (.ins T.c_Chances dx (chF p tc (prodU l)))) := exc_at
      refine k4 l rfl hl _ (fun b o hb nb => ?_) ⟨a, dx, p, tc, ys, rfl, upd_same, ?_, ?_, ?_, l1, l8, hl⟩
      · exact e8 b o nb (s6 _ _ (e4 b o nb (e3 b o nb (s2 _ _ hb))))
      · exact seqT_exc ha6 e8 (Same.seqT s6 hS4)
      · exact prImp (fun (r : Int × Int) y (z : Rat T.c_Ratio H4 y r.1 r.2) => rat_exc lo2 ha6 e8 (z.same s6)) pr4
      · exact seqT_exc ha6 e8 (.inl (.inr ⟨ob, htc⟩))
  · rw [ly] at hg ⊢
    refine k1 ?_
    rcases Nat.eq_zero_or_pos xs.length with z | z
    · exact .inl z
    · by_cases c : xs.length ≤ 8
      · exact absurd (copies_good z c) (by rw [hg]; simp)
      · exact .inr (by omega)
end
section
variable {P : Program} {w : World} {K : PySem.W.Frag} {mg : Str → Option Value} {base : Heap}
theorem ok_Chances_len (T : Ctx K mg) : FnOk P w K mg base CX0 1 T.f_Chances_len T.fd_Chances_len ["self"] (spChLen K T.c_Chances T.c_Ratio) := by
  refine T.F_Chances_len.ok sc_Chances_len (fun vs H Q E h => ?_) (fun cdv A outer s H vs Q E hr h => ?_)
  · obtain ⟨x, l, rfl, _⟩ := h
    rfl
  · obtain ⟨x, l, rfl, ⟨a, dx, tr, tc, ys, rfl, ha, h2, h3, _⟩, k⟩ := h
    refine ⟨_, (pss_one (ps_ret (pe_callB call_len_seq (by rfl) T.m_len (by decide +kernel) (pa_cons (pe_fld (pv 0) rfl) pa_nil)))), ?_⟩
    refine ⟨_, rfl, a, T.c_Chances, dx, _, _, rfl, ha, T.cl_Chances, T.n_Chances_ratios, chF_ratios _ _ _, tr, ys, rfl, .inr h2, ?_⟩
    rw [prLen h3]
    exact k
theorem ok_Chances_add (T : Ctx K mg) : FnOk P w K mg base (L2.CX P w) 13 T.f_Chances_add T.fd_Chances_add ["self", "other"] (spChAdd K T.c_Chances T.c_Ratio T.c_BadNumber) := by
  refine T.F_Chances_add.okX sc_Chances_add (fun vs H Q E h => ?_) (fun cdv A outer s H vs Q E hr h => ?_)
  · obtain ⟨x, y, l, l', rfl, _⟩ := h
    rfl
  · obtain ⟨x, y, l, l', rfl, ⟨a, dx, tr, tc, ys, rfl, ha, h2, h3, _, n1, n8, ok⟩, ⟨b, dy, ur, uc, zs, rfl, hb, g2, g3, _, m1, m8, ok'⟩, k1, k2⟩ := h
    refine ⟨_, (pss_cons (ps_set (i := 2) sc_Chances_add.nd rfl (Or.inl rfl) (pe_op op_catA (pe_fld (pv 0) rfl) (pe_fld (pv 1) rfl)))
      (pss_one (ps_ret (pe_makeS1 T.M_Chances (ok_Chances_init T) (hr.mono (by decide)) (by rfl) T.gc_Chances (passes_call (takes_of rfl rfl rfl rfl) (fun _ _ _ _ h => h)) (pv 2))))), ?_⟩
    have ly := prLen h3
    have lz := prLen g3
    have e16 : (16 : Nat) ≤ sizeLine := by decide
    refine ⟨_, rfl, a, T.c_Chances, dx, _, _, rfl, ha, T.cl_Chances, T.n_Chances_ratios, chF_ratios _ _ _, _, rfl, b, T.c_Chances, dy, _, _, rfl, hb, T.cl_Chances, T.n_Chances_ratios, chF_ratios _ _ _, ?_⟩
    refine ⟨tr, ur, ys, zs, rfl, rfl, h2, g2, by omega, fun z => by rw [z] at ly; simp at ly; omega, fun _ z => by rw [z] at lz; simp at lz; omega, fun _ _ p np => ?_⟩
    have s1 := same_upd (o := .tup (ys ++ zs)) np
    have pr : Rats T.c_Ratio (upd H p (.tup (ys ++ zs))) (l ++ l') (ys ++ zs) := prApp (Rats.same h3 s1) (Rats.same g3 s1)
    have okA : ∀ r ∈ l ++ l', chanceOk r.1 r.2 = true := fun r hr => (List.mem_append.mp hr).elim (ok r) (ok' r)
    refine ⟨_, rfl, p, ys ++ zs, rfl, .inl (.inl (.inl upd_same)), ?_⟩
    refine any_chs (rats_args pr okA) (by simp; omega) (fun z => ?_) fun _ z => ⟨fun i y _ _ w => absurd w (ok_somes okA), fun l2 e _ c H' s G => ?_⟩
    · rw [List.length_map, List.length_append] at z ⊢
      exact (k2 (by omega)).of s1
    · cases somes_inj e
      rw [List.length_map, List.length_append] at z
      exact k1 z _ H' (s1.trans s) G
end
section
variable {P : Program} {w : World} {K : PySem.W.Frag} {mg : Str → Option Value} {base : Heap}
theorem ok_Chances_alone (T : Ctx K mg) : FnOk P w K mg base (L2.CX P w) 7 T.f_Chances_alone T.fd_Chances_alone ["self", "lot"] (spAlone K T.c_Chances T.c_Ratio T.c_BadNumber) := by
  refine T.F_Chances_alone.okX sc_Chances_alone (fun vs H Q E h => ?_) (fun cdv A outer s H vs Q E hr h => ?_)
  · obtain ⟨x, y, l, xs, rfl, _⟩ := h
    rfl
  · obtain ⟨x, y, l, xs, rfl, G, ⟨b, rfl, hb, sc⟩, k1, k2⟩ := h
    refine ⟨_, (pss_one (ps_ret (pe_make T.M_Ratio (ok_Ratio_init T) (hr.mono (by decide)) (by rfl) T.gc_Ratio T.b_Ratio_init2 T.v_Ratio_init2 (passes_call (takes_of rfl rfl rfl rfl) (fun _ _ _ _ h => h)) (pa_cons (pe_ix ix_tup (pe_fld (pv 0) rfl) (pe_call (ok_mask_of T) (hr.mono (by decide)) (by rfl) T.g_mask_of T.F_mask_of.kp T.b_mask_of .nil (passes_call (takes_of rfl rfl rfl rfl) (fun _ _ _ _ h => h)) (pa_cons (pe_callB call_len_seq (by rfl) T.m_len (by decide +kernel) (pa_cons (pe_fld (pv 0) rfl) pa_nil)) (pa_cons (pv 1) pa_nil))) (fun _ _ => rfl)) (pa_cons (pe_fld (pv 0) rfl) pa_nil))))), ?_⟩
    obtain ⟨tm, u0, u1, ul⟩ := G.terms
    obtain ⟨a, dx, tr, tc, ys, rfl, ha, h2, h3, h4, n1, n8, ok⟩ := G
    have ly := prLen h3
    refine ⟨_, rfl, a, T.c_Chances, dx, _, _, rfl, ha, T.cl_Chances, T.n_Chances_counts, chF_counts _ _ _, ?_⟩
    refine ⟨_, rfl, a, T.c_Chances, dx, _, _, rfl, ha, T.cl_Chances, T.n_Chances_ratios, chF_ratios _ _ _, tr, ys, rfl, .inr h2, _, rfl, ys.length, b, xs, rfl, by omega, hb, sc, fun e => ?_, fun z e => k2 z (by rw [← ly]; exact e)⟩
    rw [ly] at e
    have lt : maskV xs < 2 ^ l.length := mask_lt fun x hx => badOf_none e hx
    have lc : (countsOf l).length = 2 ^ l.length := countsOf_len l
    have hc : ((countsOf l).map V.int)[maskV xs]? = some (.int ((countsOf l).getD (maskV xs) 0)) := by
      rw [List.getElem?_map, List.getD_eq_getElem?_getD, List.getElem?_eq_getElem (by omega)] <;> rfl
    refine ⟨tc, _, _, _, rfl, rfl, h4, atI_nat hc, ?_⟩
    refine ⟨_, rfl, a, T.c_Chances, dx, _, _, rfl, ha, T.cl_Chances, T.n_Chances_scale, chF_scale _ _ _, ?_⟩
    exact mk_ratio (by omega) (sz_log ul (by decide) (by decide)) fun r p q H' s' R nf => k1 e _ _ s' (rv_nf (by omega) nf R)
theorem ok_Chances_up (T : Ctx K mg) : FnOk P w K mg base (L2.CX P w) 6 T.f_Chances_up T.fd_Chances_up ["self", "family"] (spUp K T.c_Chances T.c_Ratio T.c_Family T.c_Unlike) := by
  refine T.F_Chances_up.okX sc_Chances_up (fun vs H Q E h => ?_) (fun cdv A outer s H vs Q E hr h => ?_)
  · obtain ⟨x, y, l, n, f, rfl, _⟩ := h
    rfl
  · obtain ⟨x, y, l, n, f, rfl, G, F, k1, k2⟩ := h
    refine ⟨_, (pss_cons (ps_expr (pe_call (ok_check_alike T) (hr.mono (by decide)) (by rfl) T.g_check_alike T.F_check_alike.kp T.b_check_alike .nil (passes_call (takes_of rfl rfl rfl rfl) (fun _ _ _ _ h => h)) (pa_cons (pe_callB call_len_seq (by rfl) T.m_len (by decide +kernel) (pa_cons (pe_fld (pv 0) rfl) pa_nil)) (pa_cons (pv 1) pa_nil))))
      (pss_one (ps_ret (pe_make T.M_Ratio (ok_Ratio_init T) (hr.mono (by decide)) (by rfl) T.gc_Ratio T.b_Ratio_init2 T.v_Ratio_init2 (passes_call (takes_of rfl rfl rfl rfl) (fun _ _ _ _ h => h)) (pa_cons (pe_callB (cr_sum rfl) (by rfl) T.m_sum (by decide +kernel) (pa_cons (pe_lc (own := [("count", 2), ("mark", 3)]) (g := gTup K 2 (gCons (gName 2) (gCons (gName 3) gNil))) (tt := _) rfl sc_Chances_up.nd (RZ.pi_zipA (by rfl) T.m_zip (pa_cons (pe_fld (pv 0) rfl) (pa_cons (pe_fld (pv 1) rfl) pa_nil))) (blkOk_by (own := [("count", 2), ("mark", 3)]) (N := ["self", "family", "count", "mark"]) (sc := defScope s_Chances_up) (by decide +kernel)) (fun _ _ _ _ _ => (pg_tup rfl (pgs_cons (pg_name (i := 2) sc_Chances_up.nd rfl (Or.inl rfl)) (pgs_cons (pg_name (i := 3) sc_Chances_up.nd rfl (Or.inl rfl)) pgs_nil)))) (fun _ _ _ _ _ => (pts_one (pt_val (pv 3)))) (fun _ _ _ _ _ => (pv 2))) pa_nil)) (pa_cons (pe_fld (pv 0) rfl) pa_nil)))))), ?_⟩
    obtain ⟨tm, u0, u1, ul⟩ := G.terms
    obtain ⟨a, dx, tr, tc, ys, rfl, ha, h2, h3, h4, n1, n8, ok⟩ := G
    have ly := prLen h3
    obtain ⟨⟨b, dy, tl, tm', ls, rfl, hb, g1, g2, ob, g3, g4⟩, Fo⟩ := F
    refine ⟨_, rfl, a, T.c_Chances, dx, _, _, rfl, ha, T.cl_Chances, T.n_Chances_ratios, chF_ratios _ _ _, tr, ys, rfl, .inr h2, _, rfl, ys.length, n, .ref b, f, rfl, ⟨⟨b, dy, tl, tm', ls, rfl, hb, g1, g2, ob, g3, g4⟩, Fo⟩, fun e => ?_, fun e => k2 (by rw [← ly]; exact e)⟩
    obtain rfl : l.length = n := by omega
    refine ⟨_, rfl, a, T.c_Chances, dx, _, _, rfl, ha, T.cl_Chances, T.n_Chances_counts, chF_counts _ _ _, _, rfl, b, T.c_Family, dy, _, _, rfl, hb, T.cl_Family, T.n_Family_marks, famF_marks _ _ _, ?_⟩
    have g5 : SqT K H tm' (marksV l.length f) := .inl (.inr ⟨ob, g3⟩)
    have lc : (countsOf l).length = 2 ^ l.length := countsOf_len l
    have h256 := pow_le8 n8
    refine ⟨tc, tm', _, _, rfl, .inr ⟨h4, g5, fun D nD => ?_⟩⟩
    refine lc_itM (walk_zipT (n := 2 ^ l.length) (by rw [List.length_map, lc, marksV_len, Nat.min_self])) (fun m => if f m then some ((countsOf l).getD m 0) else none) (fun c y _ => y = V.int c) (fun _ _ _ _ _ h => h) nD (fun H' e => ⟨Same.seqT e h4, Same.seqT e g5⟩) (by omega) ?_ fun H' zs sm hD pr => ?_
    · rintro m x H1 H' k N hm sm ⟨t, y, z, rfl, nt, rfl, hy, hz⟩ q1 q2
      obtain ⟨_, rfl⟩ := marksV_get hz
      have ey : y = .int ((countsOf l).getD m 0) := by
        have hy : ((countsOf l).map V.int)[m]? = some y := hy
        rw [List.getElem?_map, List.getElem?_eq_getElem (by omega)] at hy
        rw [List.getD_eq_getElem?_getD, List.getElem?_eq_getElem (by omega)]
        cases hy
        rfl
      refine ⟨t, _, rfl, .inl (.inl upd_same), rfl, _, _, rfl, _, _, rfl, rfl, rfl, _, rfl, f m, rfl, ?_⟩
      cases e : f m with
      | true => exact iteT ⟨_, rfl, q1 _ _ _ (same_upd nt) (by rw [e] <;> rfl) ey⟩
      | false => exact iteF (q2 _ (same_upd nt) (by rw [e] <;> rfl))
    · have ez : zs = ((List.range (2 ^ l.length)).filterMap fun m => if f m then some ((countsOf l).getD m 0) else none).map V.int := paired_fn (prUnmapL (f := fun c => c) (by rw [List.map_id']; exact pr))
      rw [ez] at hD
      refine ⟨D, _, rfl, SqL.of hD, ?_⟩
      refine ⟨_, rfl, a, T.c_Chances, dx, _, _, rfl, sm _ _ ha, T.cl_Chances, T.n_Chances_scale, chF_scale _ _ _, ?_⟩
      exact mk_ratio (by omega) (sz_log ul (by decide) (by decide)) fun r p q H' s' R nf => k1 rfl _ _ (sm.trans s') (rv_nf (by omega) nf R)
end
/-! ### every copy together -/
def spWholeLot (K : PySem.W.Frag) (C : Addr) : Sp := fun vs H Q E => ∃ c : V, vs = [c] ∧ scalV c = true ∧ (good c (some 1) (some 8) = false → Err C H E "copies" c) ∧
  ∀ n : Nat, c = .int n → 1 ≤ n → n ≤ 8 → ∀ p H', Same H H' → H p = none → H' p = some (.tup (lotV (2 ^ n - 1))) → Q (.ref p) H'
def spWhole (K : PySem.W.Frag) (C CB : Addr) : Sp := fun vs H Q E => ∃ c : V, vs = [c] ∧ scalV c = true ∧ (good c (some 1) (some 8) = false → Err CB H E "copies" c) ∧
  ∀ n : Nat, c = .int n → 1 ≤ n → n ≤ 8 → ∀ r H', Same H H' → Fam K C H' r n (upB [2 ^ n - 1]) → Q r H'
section
variable {P : Program} {w : World} {K : PySem.W.Frag} {mg : Str → Option Value} {base : Heap}
theorem ok_whole_lot (T : Ctx K mg) : FnOk P w K mg base (L2.CX P w) 7 T.f_whole_lot T.fd_whole_lot ["copies"] (spWholeLot K T.c_BadNumber) := by
  refine T.F_whole_lot.okX sc_whole_lot (fun vs H Q E h => ?_) (fun cdv A outer s H vs Q E hr h => ?_)
  · obtain ⟨c, rfl, _⟩ := h
    rfl
  · obtain ⟨c, rfl, kn, k1, k2⟩ := h
    refine ⟨_, (pss_one (ps_ret (pe_call (ok_others T) (hr.mono (by decide)) (by rfl) T.g_others T.F_others.kp T.b_others .nil (passes_call (takes_of rfl rfl rfl rfl) (fun _ _ _ _ h => h)) (pa_cons (pv 0) (pa_cons (pe_tup pa_nil) pa_nil))))), ?_⟩
    refine ⟨_, rfl, (by show 0 ≤ sizeLine; decide), fun e ne => ?_⟩
    have s1 := same_upd (o := .tup []) ne
    refine ⟨c, e, [], rfl, kn_scal kn, .inr (.inl (.inl upd_same)), (by simp), fun h => (k1 h).of s1, fun n ec h1 h2 => ⟨fun _ p H' sm hp hx => ?_, fun x hb => by simp [badOf] at hb⟩⟩
    have hx : H' p = some (.tup (lotV (2 ^ n - 1))) := hx
    exact k2 n ec h1 h2 p H' (s1.trans sm) (s1.free hp) hx
end
section
variable {P : Program} {w : World} {K : PySem.W.Frag} {mg : Str → Option Value} {base : Heap}
theorem ok_check_share (T : Ctx K mg) : FnOk P w K mg base (L2.CX P w) 9 T.f_check_share T.fd_check_share ["share"] (spShare K T.c_Ratio T.c_BadNumber) := by
  refine T.F_check_share.okX sc_check_share (fun vs H Q E h => ?_) (fun cdv A outer s H vs Q E hr h => ?_)
  · obtain ⟨x, o, rfl, _⟩ := h
    rfl
  · obtain ⟨x, o, rfl, h, k1, k2⟩ := h
    refine ⟨_, (Evl.pss_cut (ps_if (PW.pt (pw_or (pt_not (pt_val (pe_call (ok_is_short T) (hr.mono (by decide)) (by rfl) T.g_is_short T.F_is_short.kp T.b_is_short .nil pass0 (pa_cons (pv 0) pa_nil)))) (pw_or (pt_cmpR (op_ownC (fun _ _ => rfl) T.me_Ratio_lt.at_ T.me_Ratio_lt.fn (ok_Ratio_lt T) (hr.mono (by decide)) T.b_Ratio_lt pass0) (pv 0) pe_int (nomark _)) (pw_or1 (pt_cmpR (op_ownC (fun _ _ => rfl) T.me_Ratio_gt.at_ T.me_Ratio_gt.fn (ok_Ratio_gt T) (hr.mono (by decide)) T.b_Ratio_gt pass0) (pv 0) pe_int (nomark _))))))
        (pss_one (ps_raise rfl (takes_of rfl rfl rfl rfl) (pmk_oex T.ox_BadNumber T.xn_BadNumber T.xt_BadNumber (ok_BadNumber_init T) (hr.mono (by decide)) T.b_BadNumber_init .nil pass0 (by rfl) T.gc_BadNumber (pa_cons pe_str (pa_cons (pv 0) pa_nil)))))
        pss_nil)
      (pss_one (ps_ret (pv 0)))), ?_⟩
    cases o with
    | none =>
      refine ⟨fun σ' H' => False, ?_, fun _ _ z => z.elim⟩
      exact ⟨_, rfl, x, rfl, .inr ⟨h H, ⟨_, rfl, iteT ⟨_, rfl, mk2 (k2 rfl)⟩⟩⟩⟩
    | some r =>
      obtain ⟨R, sz⟩ := h
      have ic := T.ic_Ratio
      have iy := R.ty ic
      have z200 : ∀ i : Int, i.natAbs < 2 ^ 200 → Szq 200 (i : Qr) := fun i h => ⟨h, by show (1 : Nat) < 2 ^ 200; decide⟩
      refine ⟨fun σ' H' => σ' = [some x] ∧ Same H H' ∧ shareOk r = true, ?_, ?_⟩
      · refine ⟨_, rfl, x, rfl, .inl ⟨_, _, R, ?_⟩⟩
        cases c : decide ((r.den : Int) ≤ 1000) with
        | false => exact ⟨_, rfl, iteT ⟨_, rfl, mk2 (k2 (by show shareOk r = false; unfold shareOk; have := of_decide_eq_false c; rw [decide_eq_false (by omega)]; rfl))⟩⟩
        | true =>
          have c1 := of_decide_eq_true c
          refine ⟨_, rfl, iteF ⟨_, rfl, R.isC, ⟨_, .base (.int _), notFirst_of T.oc_Ratio.intNo⟩, x, .int 0, _, _, 0, 1, 200, rfl, R, .int 0, sz, ⟨by decide, by decide⟩, by decide, by decide, fun H2 s2 => ⟨_, rfl, ?_⟩⟩⟩
          refine ite2 (fun c2 => ⟨_, rfl, mk2 ((k2 ?_).of s2)⟩) fun c2 => ⟨_, rfl, (R.same s2).isC, ⟨_, .base (.int _), notFirst_of T.oc_Ratio.intNo⟩, x, .int 1, _, _, 1, 1, 200, rfl, R.same s2, .int 1, sz, ⟨by decide, by decide⟩, by decide, by decide, fun H3 s3 => ⟨_, rfl, ite2 (fun c3 => ⟨_, rfl, mk2 ((k2 ?_).of (s2.trans s3))⟩) fun c3 => ⟨rfl, s2.trans s3, ?_⟩⟩⟩
          · have := of_decide_eq_true c2
            show shareOk r = false
            unfold shareOk
            rw [decide_eq_false (p := (0 : Qr) ≤ r) (fun z => by have := (_root_.Rat.le_iff 0 r).mp z; rw [q0n, q0d] at this; omega)]
            simp
          · have := of_decide_eq_true c3
            show shareOk r = false
            unfold shareOk
            rw [decide_eq_false (p := r ≤ (1 : Qr)) (fun z => by have := (_root_.Rat.le_iff r 1).mp z; rw [q1n, q1d] at this; omega)]
            simp
          · have d2 := of_decide_eq_false (Bool.eq_false_iff.mpr c2)
            have d3 := of_decide_eq_false (Bool.eq_false_iff.mpr c3)
            unfold shareOk
            rw [decide_eq_true (p := r.den ≤ 1000) (by omega), decide_eq_true (p := (0 : Qr) ≤ r) ((_root_.Rat.le_iff 0 r).mpr (by rw [q0n, q0d]; omega)), decide_eq_true (p := r ≤ (1 : Qr)) ((_root_.Rat.le_iff r 1).mpr (by rw [q1n, q1d]; omega))]
            rfl
      rintro σ' H1 ⟨rfl, s1, e⟩
      exact ⟨_, rfl, k1 e H1 s1⟩
theorem ok_gain (T : Ctx K mg) : FnOk P w K mg base (L2.CX P w) 11 T.f_gain T.fd_gain ["chances", "share", "lot"] (spGain K T.c_Chances T.c_Ratio T.c_BadNumber) := by
  refine T.F_gain.okX sc_gain (fun vs H Q E h => ?_) (fun cdv A outer s H vs Q E hr h => ?_)
  · obtain ⟨c, s, y, l, o, xs, rfl, _⟩ := h
    rfl
  · obtain ⟨c, s, y, l, o, xs, rfl, G, hs, L, k1, k2⟩ := h
    refine ⟨_, (pss_cons (ps_expr (pe_call (ok_check_share T) (hr.mono (by decide)) (by rfl) T.g_check_share T.F_check_share.kp T.b_check_share .nil (passes_call (takes_of rfl rfl rfl rfl) (fun _ _ _ _ h => h)) (pa_cons (pv 1) pa_nil)))
      (pss_cons (ps_set (i := 3) sc_gain.nd rfl (Or.inl rfl) (pe_meth (pv 0) T.cl_Chances T.me_Chances_alone (ok_Chances_alone T) (hr.mono (by decide)) T.b_Chances_alone .nil (passes_call (takes_of rfl rfl rfl rfl) (fun _ _ _ _ h => h)) (pa_cons (pv 2) pa_nil)))
      (pss_cons (ps_set (i := 4) sc_gain.nd rfl (Or.inl rfl) (pe_meth (pv 0) T.cl_Chances T.me_Chances_alone (ok_Chances_alone T) (hr.mono (by decide)) T.b_Chances_alone .nil (passes_call (takes_of rfl rfl rfl rfl) (fun _ _ _ _ h => h)) (pa_cons (pe_call (ok_others T) (hr.mono (by decide)) (by rfl) T.g_others T.F_others.kp T.b_others .nil (passes_call (takes_of rfl rfl rfl rfl) (fun _ _ _ _ h => h)) (pa_cons (pe_callB (call_lenO T.me_Chances_len.at_ T.me_Chances_len.fn (ok_Chances_len T) (hr.mono (by decide)) T.b_Chances_len pass0) (by rfl) T.m_len (by decide +kernel) (pa_cons (pv 0) pa_nil)) (pa_cons (pv 2) pa_nil))) pa_nil)))
      (pss_one (ps_ret (pe_op (op_ownB T.oc_Ratio T.oh_Ratio_sub T.me_Ratio_sub.fn (ok_Ratio_sub T) (hr.mono (by decide)) T.b_Ratio_sub pass0) (pe_op (op_ownB T.oc_Ratio T.oh_Ratio_mul T.me_Ratio_mul.fn (ok_Ratio_mul T) (hr.mono (by decide)) T.b_Ratio_mul pass0) (pe_op (op_ownR T.oc_Ratio PySem.F.slot_int_sub PySem.F.entry_int_sub PySem.F.args_int_sub_2 slotargs_sub PySem.F.fills_int_sub T.oh_Ratio_sub T.oh_Ratio_rsub T.me_Ratio_rsub.fn (ok_Ratio_rsub T) (hr.mono (by decide)) T.b_Ratio_rsub pass0) pe_int (pv 1)) (pv 3)) (pe_op (op_ownB T.oc_Ratio T.oh_Ratio_mul T.me_Ratio_mul.fn (ok_Ratio_mul T) (hr.mono (by decide)) T.b_Ratio_mul pass0) (pv 1) (pv 4)))))))), ?_⟩
    refine ⟨_, rfl, s, o, rfl, hs, fun ok H1 s1 => ?_, fun no => k1 no⟩
    obtain ⟨r, rfl⟩ : ∃ r, o = some r := by
      cases o with
      | none => cases ok
      | some r => exact ⟨r, rfl⟩
    obtain ⟨k2, k3⟩ := k2 r rfl ok
    have hs := hs.same s1
    refine ⟨_, rfl, (G.same s1).meth (by decide +kernel) ⟨_, rfl, c, y, l, xs, rfl, G.same s1, L.same s1, fun e1 v1 H2 s2 U1 => ?_, fun z e => (k2 z e).of s1⟩⟩
    have t2 := s1.trans s2
    obtain ⟨b, rfl, hb, sc⟩ := L.same t2
    have gc := copies_good G.len.1 G.len.2.1
    have ll := G.len.2.1
    refine ⟨_, rfl, (G.same t2).meth (by decide +kernel) ⟨_, rfl, _, rfl, (G.same t2).isC, _, _, rfl, G.same t2, _, rfl, by omega, _, rfl, _, b, xs, rfl, kn_int _, hb, sc, fun z => (by rw [gc] at z; cases z), fun n en g1 g8 => ?_⟩⟩
    obtain rfl : l.length = n := by
      have : ((l.length : Nat) : Int) = (n : Int) := by injection en
      omega
    refine ⟨fun e2 p H3 s3 np hp => ?_, fun z e => (k2 z e).of t2⟩
    have n256 := pow_le8 g8
    have m2 : 2 ^ l.length - 1 - maskV xs < 2 ^ l.length := by
      have := Nat.two_pow_pos l.length
      omega
    have A4 : LotArg K H3 (lotV (2 ^ l.length - 1 - maskV xs)) (.ref p) := Lot.arg ⟨p, rfl, .inl (.inl hp)⟩
    have t3 := t2.trans s3
    refine ⟨c, .ref p, l, _, rfl, G.same t3, A4, fun _ v4 H4 s4 U4 => ?_, fun z e => by rw [badOf_lotV m2 g8] at e; cases e⟩
    rw [mask_lotV (by omega)] at U4
    have z1 := (G.aloneSz (maskV xs)).mono (m := 200) (by decide)
    have z2 := (G.aloneSz (2 ^ l.length - 1 - maskV xs)).mono (m := 200) (by decide)
    have R := hs.1.same (s2.trans (s3.trans s4))
    refine ⟨_, rfl, rv_rsub R (z200 1 (by decide)) hs.2 (by decide) (by decide) fun v6 H6 s6 R6 => ?_⟩
    refine ⟨_, rfl, rv_mul R6 (U1.same (s3.trans (s4.trans s6))) (szq_sub (z200 1 (by decide)) hs.2) (z1.mono (by decide)) (by decide) (by decide) fun v7 H7 s7 R7 => ?_⟩
    refine ⟨_, rfl, _, rfl, rv_mul (R.same (s6.trans s7)) (U4.same (s6.trans s7)) hs.2 z2 (by decide) (by decide) fun v5 H5 s5 R5 => ?_⟩
    exact rv_sub (R7.same s5) R5 (n := 802) ((szq_mul (szq_sub (z200 1 (by decide)) hs.2) (z1.mono (m := 401) (by decide))).mono (by decide)) ((szq_mul hs.2 z2).mono (by decide)) (by decide) (by decide) fun v8 H8 s8 R8 => k3 e1 _ _ (t3.trans (s4.trans (s6.trans (s7.trans (s5.trans s8))))) R8
end
section
variable {P : Program} {w : World} {K : PySem.W.Frag} {mg : Str → Option Value} {base : Heap}
theorem ok_middle_lots (T : Ctx K mg) : FnOk P w K mg base (L2.CX P w) 7 T.f_middle_lots T.fd_middle_lots ["copies"] (spMiddle K) := by
  refine T.F_middle_lots.okX sc_middle_lots (fun vs H Q E h => ?_) (fun cdv A outer s H vs Q E hr h => ?_)
  · obtain ⟨n, rfl, _⟩ := h
    rfl
  · obtain ⟨n, rfl, n1, n8, k⟩ := h
    refine ⟨_, (pss_one (ps_ret (pe_slice sl_list (pe_call (ok_all_lots T) (hr.mono (by decide)) (by rfl) T.g_all_lots T.F_all_lots.kp T.b_all_lots .nil (passes_call (takes_of rfl rfl rfl rfl) (fun _ _ _ _ h => h)) (pa_cons (pv 0) pa_nil)) (po_some pe_int) (po_some (pe_un un_neg pe_int))))), ?_⟩
    refine ⟨_, rfl, .int n, rfl, kn_int _, fun e => ?_, fun n' en _ _ p ys H1 s1 np hp pr => ?_⟩
    · rw [copies_good n1 n8] at e
      cases e
    obtain rfl : n = n' := by
      injection en with en
      omega
    have len := prLen pr
    rw [List.length_range] at len
    have p2 : 2 ≤ 2 ^ n := Nat.pow_le_pow_right (n := 2) (i := 1) (by decide) n1
    refine ⟨1, rfl, _, rfl, -1, rfl, p, ys, rfl, SqL.of hp, fun q nq => k _ _ _ (s1.trans (same_upd nq)) upd_same ?_⟩
    have e1 : HT.sIx (2 ^ n) 0 (some 1) = 1 := (HT.sIx_nat (2 ^ n) 0 1).trans (by omega)
    have e2 : HT.sIx (2 ^ n) (2 ^ n) (some (-1)) = 2 ^ n - 1 := by
      show (if (-1 : Int) < 0 then ((-1 : Int) + ((2 ^ n : Nat) : Int)).toNat else min (-1 : Int).toNat (2 ^ n)) = 2 ^ n - 1
      rw [if_pos (by decide)]
      omega
    unfold cutV
    rw [len, e1, e2, show 2 ^ n - 1 - 1 = 2 ^ n - 2 by omega]
    unfold midL
    exact prTake (2 ^ n - 2) (prDrop 1 (prImp (fun _ _ (z : Lot K H1 _ _) => z.same (same_upd nq)) pr))
theorem ok_with_whole (T : Ctx K mg) : FnOk P w K mg base (L2.CX P w) 9 T.f_with_whole T.fd_with_whole ["copies", "lots"] (spWithWhole K T.c_Family) := by
  refine T.F_with_whole.okX sc_with_whole (fun vs H Q E h => ?_) (fun cdv A outer s H vs Q E hr h => ?_)
  · obtain ⟨n, p, ms, ys, rfl, _⟩ := h
    rfl
  · obtain ⟨n, p, ms, ys, rfl, n1, n8, hp, pr, lm, hm, k⟩ := h
    refine ⟨_, (pss_one (ps_ret (pe_makeS2 T.M_Family (ok_Family_init T) (hr.mono (by decide)) (by rfl) T.gc_Family (passes_call (takes_of rfl rfl rfl rfl) (fun _ _ _ _ h => h)) (pa_cons (pv 0) (pa_cons (pe_call (ok_whole_lot T) (hr.mono (by decide)) (by rfl) T.g_whole_lot T.F_whole_lot.kp T.b_whole_lot .nil (passes_call (takes_of rfl rfl rfl rfl) (fun _ _ _ _ h => h)) (pa_cons (pv 0) pa_nil)) (StX.pa_star (pv 1) pa_nil)))))), ?_⟩
    refine ⟨_, rfl, _, rfl, .int n, rfl, rfl, fun e => ?_, fun n' en _ _ p1 H1 s1 np1 hp1 => ?_⟩
    · rw [copies_good n1 n8] at e
      cases e
    obtain rfl : n = n' := by
      injection en with en
      omega
    have pr1 := prImp (fun _ _ (z : Lot K H _ _) => z.same s1) pr
    refine ⟨_, rfl, p, ys, rfl, .inr (s1.seq hp), ?_⟩
    have p2 : 2 ≤ 2 ^ n := Nat.pow_le_pow_right (n := 2) (i := 1) (by decide) n1
    have n256 := pow_le8 n8
    have hw : Lot K H1 (2 ^ n - 1) (.ref p1) := ⟨p1, rfl, .inl (.inl hp1)⟩
    show ∀ x dx, _
    rw [List.append_nil]
    have all : ∀ m ∈ (2 ^ n - 1) :: ms, m < 2 ^ n ∧ m ≠ 0 ∧ m < 256 := fun m h => by
      rcases List.mem_cons.mp h with rfl | z
      · exact ⟨by omega, by omega, by omega⟩
      · have := hm m z
        exact ⟨by omega, by omega, by omega⟩
    have ll := prLen pr
    refine mk_fam (xss := ((2 ^ n - 1) :: ms).map lotV) n1 n8 (prMapL (prImp (fun m y (h : Lot K H1 m y) => h.arg) (.cons hw pr1))) (by show ys.length + 1 ≤ 1000; omega) (fun z => by simp at z) (badFrom_lots all) fun a H2 s2 F => ?_
    rw [masks_lots fun m h => (all m h).2.2] at F
    exact k _ _ (s1.trans s2) F
theorem ok_most_worth (T : Ctx K mg) : FnOk P w K mg base (L2.CX P w) 13 T.f_most_worth T.fd_most_worth ["chances", "share"] (spMost K T.c_Chances T.c_Ratio T.c_BadNumber) := by
  refine T.F_most_worth.okX sc_most_worth (fun vs H Q E h => ?_) (fun cdv A outer s H vs Q E hr h => ?_)
  · obtain ⟨c, s, l, o, rfl, _⟩ := h
    rfl
  · obtain ⟨c, s, l, o, rfl, G, S, k1, k2⟩ := h
    refine ⟨_, (pss_cons (ps_expr (pe_call (ok_check_share T) (hr.mono (by decide)) (by rfl) T.g_check_share T.F_check_share.kp T.b_check_share .nil (passes_call (takes_of rfl rfl rfl rfl) (fun _ _ _ _ h => h)) (pa_cons (pv 1) pa_nil)))
      (pss_cons (ps_set (i := 2) sc_most_worth.nd rfl (Or.inl rfl) (pe_callB (call_lenO T.me_Chances_len.at_ T.me_Chances_len.fn (ok_Chances_len T) (hr.mono (by decide)) T.b_Chances_len pass0) (by rfl) T.m_len (by decide +kernel) (pa_cons (pv 0) pa_nil)))
      (pss_cons (ps_setLc (i := 3) (own := [("lot", 4)]) (g := gName 4) (tt := tYes) rfl sc_most_worth.nd rfl rfl (sw_true rfl rfl rfl (by decide +kernel)) (pi_list (pe_call (ok_middle_lots T) (hr.mono (by decide)) (by rfl) T.g_middle_lots T.F_middle_lots.kp T.b_middle_lots .nil (passes_call (takes_of rfl rfl rfl rfl) (fun _ _ _ _ h => h)) (pa_cons (pv 2) pa_nil))) (blkOk_by (own := [("lot", 4)]) (N := ["chances", "share", "copies", "gains", "lot", "one"]) (sc := defScope s_most_worth) (by decide +kernel)) (fun _ _ _ _ _ => (pg_name (i := 4) sc_most_worth.nd rfl (Or.inl rfl))) (fun _ _ _ _ _ => pts_nil) (fun _ _ _ _ _ => (pe_call (ok_gain T) (hr.mono (by decide)) (by rfl) T.g_gain T.F_gain.kp T.b_gain .nil passL (pa_cons (pv 0) (pa_cons (pv 1) (pa_cons (pv 4) pa_nil))))))
      (pss_one (ps_ret (pe_op ((op_ownB T.oc_Ratio T.oh_Ratio_add T.me_Ratio_add.fn (ok_Ratio_add T) (hr.mono (by decide)) T.b_Ratio_add pass0).or (op_ownI T.oc_Ratio T.oh_Ratio_add T.me_Ratio_add.fn T.oh_Ratio_radd (.inr ⟨_, rfl⟩) T.ih_add T.ihr_add (ok_Ratio_add T) (hr.mono (by decide)) T.b_Ratio_add pass0)) (pe_op (op_ownB T.oc_Ratio T.oh_Ratio_add T.me_Ratio_add.fn (ok_Ratio_add T) (hr.mono (by decide)) T.b_Ratio_add pass0) (pv 1) (pe_call (ok_gain T) (hr.mono (by decide)) (by rfl) T.g_gain T.F_gain.kp T.b_gain .nil (passes_call (takes_of rfl rfl rfl rfl) (fun _ _ _ _ h => h)) (pa_cons (pv 0) (pa_cons (pv 1) (pa_cons (pe_call (ok_whole_lot T) (hr.mono (by decide)) (by rfl) T.g_whole_lot T.F_whole_lot.kp T.b_whole_lot .nil (passes_call (takes_of rfl rfl rfl rfl) (fun _ _ _ _ h => h)) (pa_cons (pv 2) pa_nil)) pa_nil))))) (pe_callB (cr_sumO rfl (sumC (n := 8) (by decide) (by decide) T.oc_Ratio T.oh_Ratio_add T.me_Ratio_add.fn T.oh_Ratio_radd T.me_Ratio_radd.fn (ok_Ratio_add T) T.b_Ratio_add (ok_Ratio_radd T) T.b_Ratio_radd) (hr.mono (by decide))) (by rfl) T.m_sum (by decide +kernel) (pa_cons (pe_lc (own := [("one", 5)]) (g := gName 5) (tt := _) rfl sc_most_worth.nd (pi_list (pv 3)) (blkOk_by (own := [("one", 5)]) (N := ["chances", "share", "copies", "gains", "lot", "one"]) (sc := defScope s_most_worth) (by decide +kernel)) (fun _ _ _ _ _ => (pg_name (i := 5) sc_most_worth.nd rfl (Or.inl rfl))) (fun _ _ _ _ _ => (pts_one (pt_cmpR (ownCK (K := K) rfl (op_ownC (fun _ _ => rfl) T.me_Ratio_gt.at_ T.me_Ratio_gt.fn (ok_Ratio_gt T) (hr.mono (by decide)) T.b_Ratio_gt pass0)) (pv 5) pe_int (nomark _)))) (fun _ _ _ _ _ => (pv 5))) pa_nil)))))))), ?_⟩
    refine ⟨_, rfl, s, o, rfl, S, fun ok H1 s1 => ?_, k1⟩
    obtain ⟨r, rfl, okr⟩ := some_of ok
    have G1 := G.same s1
    have S1 := S.same s1
    obtain ⟨n1, n8, okL⟩ := G.len
    have n256 := pow_le8 n8
    have p2 : 2 ≤ 2 ^ l.length := Nat.pow_le_pow_right (n := 2) (i := 1) (by decide) n1
    have gainOf : ∀ {H' : Hp} {m : Nat} {y : V} {Q : VK} {E : XK}, Same H1 H' → m < 2 ^ l.length → LotArg K H' (lotV m) y → (∀ v H2, Same H' H2 → RV T.c_Ratio H2 v (gainQ l r m) → Q v H2) → spGain K T.c_Chances T.c_Ratio T.c_BadNumber [c, s, y] H' Q E := fun {H' m y Q E} sm hm hy q => gain_of (G1.same sm) (S1.same sm) okr hm hy q
    refine ⟨_, rfl, _, rfl, G1.isC, _, l, rfl, G1, l.length, rfl, (by omega), ?_⟩
    refine ⟨_, rfl, l.length, rfl, n1, n8, fun p2 ys2 H2 s2 hp2 pr2 => ⟨p2, rfl, ⟨_, SqL.of hp2⟩, fun D nD => ?_⟩⟩
    have len2 := prLen pr2
    rw [midL_len] at len2
    refine lc_itA (walk_list (K := K) (a := p2) (xs := ys2)) (fun i => gainQ l r (i + 1)) (fun g y H => RV T.c_Ratio H y g) (fun _ _ _ _ e h => ratT h e) nD (fun H' e => SqL.of (e _ _ hp2)) (by omega) ?_ ?_
    · rintro i x Ha Hb kk hi sm ⟨rfl, hx⟩ h1
      have im : i < 2 ^ l.length - 2 := by omega
      obtain ⟨m, em, hL⟩ := prAt pr2 hx
      rw [midL_at im] at em
      cases em
      refine ⟨rfl, _, rfl, _, rfl, _, rfl, gainOf (s2.trans sm) (by omega) (hL.same sm).arg fun v Hc sc R => h1 _ _ sc R⟩
    intro H3 ys3 s3 hD3 pr3
    rw [len2] at pr3
    have len3 := prLen pr3
    rw [List.length_map, List.length_range] at len3
    have e1 : (1 : Nat) ≤ l.length := n1
    refine ⟨_, rfl, _, rfl, _, rfl, _, rfl, .int l.length, rfl, rfl, fun e => absurd ((copies_good n1 n8).symm.trans e) (by decide), fun n' en _ _ pw H4 s4 npw hpw => ?_⟩
    obtain rfl : l.length = n' := by
      injection en with en
      omega
    have t4 := s2.trans (s3.trans s4)
    have hw : Lot K H4 (2 ^ l.length - 1) (.ref pw) := ⟨pw, rfl, .inl (.inl hpw)⟩
    refine gainOf t4 (by omega) hw.arg fun v5 H5 s5 R5 => ?_
    refine rv_add (n := 100) (S1.1.same (t4.trans s5)) R5 (share_sz okr) (gain_sz G okr _) (by decide) (by decide) fun v6 H6 s6 R6 => ?_
    have t6 := s4.trans (s5.trans s6)
    refine ⟨_, rfl, D, rfl, ⟨_, SqL.of (t6 _ _ hD3)⟩, fun D7 nD7 => ?_⟩
    refine lc_itM (walk_list (K := K) (a := D) (xs := ys3)) (fun i => if upper l r false (i + 1) = true then some (i + 1) else none) (fun m y H => RV T.c_Ratio H y (gainQ l r m)) (fun _ _ _ _ e h => ratT h e) nD7 (fun H' e => SqL.of (e _ _ (t6 _ _ hD3))) (by omega) ?_ ?_
    · rintro i x Ha Hb kk N hi sm ⟨rfl, hx⟩ q1 q2
      obtain ⟨g, eg, R⟩ := prAt pr3 hx
      have im : i < 2 ^ l.length - 2 := by omega
      rw [List.getElem?_map, List.getElem?_range im] at eg
      cases eg
      have R := RV.same R (t6.trans sm)
      refine ⟨rfl, _, rfl, rv_gt0 T.oc_Ratio R (gain_sz G okr _) (by decide) (by decide) fun Hc sc => ⟨_, rfl, ite2 (fun z => ?_) fun z => ?_⟩⟩
      · exact ⟨_, rfl, q1 _ _ _ sc (by unfold upper; rw [if_neg (by decide : ¬ (false = true)), if_pos z]) (R.same sc)⟩
      · exact q2 _ sc (by unfold upper; rw [if_neg (by decide : ¬ (false = true)), if_neg z])
    intro H8 ys8 s8 hD8 pr8
    rw [len3, mid_filter (upper l r false)] at pr8
    have len8 := prLen pr8
    have most := most_sum G.pos okL (share_num okr).1 (share_num okr).2.1 n1 n8
    have lms : ((midL l.length).filter (upper l r false)).length ≤ 256 := by
      refine Nat.le_trans (List.length_filter_le _ _) ?_
      rw [midL_len]
      omega
    generalize (midL l.length).filter (upper l r false) = ms at *
    have zT : ∀ i, Szq 100 (sumL (gainQ l r) (ms.take i)) := fun i => sumL_sz G okr (by rw [List.length_take]; omega)
    refine ⟨D7, ys8, fun i tot Hx => Same H8 Hx ∧ ((i = 0 ∧ tot = .int 0) ∨ (0 < i ∧ RV T.c_Ratio Hx tot (sumL (gainQ l r) (ms.take i)))), E0, rfl, fun i tot Hx h => SqL.of (h.1 _ _ hD8), ⟨Same.refl _, .inl ⟨rfl, rfl⟩⟩, ?_, ?_, ?_, ?_⟩
    · rintro x Hx hx ⟨sx, _⟩
      obtain ⟨m, em, R⟩ := prAt pr8 hx
      have R := RV.same R sx
      have et : ms.take 1 = [m] := by rw [List.take_add_one, em]; rfl
      refine ⟨R.isC, 0, rfl, sp_add0 R (gain_sz G okr m) (by decide) (by decide) fun z Hy sy Rz => ⟨sx.trans sy, .inr ⟨by decide, ?_⟩⟩⟩
      rw [et]
      show RV T.c_Ratio Hy z (gainQ l r m + 0)
      rw [show gainQ l r m + 0 = gainQ l r m by grind]
      exact Rz
    · rintro i tot x Hx hi hx ⟨sx, h⟩
      obtain ⟨m, em, R⟩ := prAt pr8 hx
      have R := RV.same R sx
      rcases h with ⟨rfl, _⟩ | ⟨_, Rt⟩
      · omega
      refine ⟨Rt.isC, R.isC, sp_add Rt R (zT i) (gain_sz G okr m) (by decide) (by decide) fun z Hy sy Rz => ⟨sx.trans sy, .inr ⟨by omega, ?_⟩⟩⟩
      rw [List.take_add_one, em]
      show RV T.c_Ratio Hy z (sumL (gainQ l r) (ms.take i ++ [m]))
      rw [sumL_snoc]
      exact Rz
    · rintro i tot Hx hi ⟨_, h⟩
      rcases h with ⟨rfl, _⟩ | ⟨_, Rt⟩
      · omega
      · obtain ⟨a, dx, fs, e, _⟩ := Rt.isC
        exact ⟨a, e⟩
    rintro z Hz ⟨sz, h⟩
    have R6' := R6.same (s8.trans sz)
    have z6 := szq_add (share_sz okr) (gain_sz G okr (2 ^ l.length - 1))
    have fin : ∀ {v9 H9}, Same Hz H9 → RV T.c_Ratio H9 v9 (mostQ l r) → Q v9 H9 := fun {v9 H9} s9 R9 => k2 r rfl okr _ _ (s1.trans (s2.trans (s3.trans (t6.trans (s8.trans (sz.trans s9)))))) R9
    rcases h with ⟨e0, rfl⟩ | ⟨_, Rt⟩
    · have em : ms = [] := by
        cases ms with
        | nil => rfl
        | cons a b => rw [e0] at len8; simp at len8
      subst em
      refine .inr ⟨R6'.isC, ⟨0, rfl⟩, sp_add0 R6' z6 (by decide) (by decide) fun v9 H9 s9 R9 => fin s9 ?_⟩
      rw [← most]
      show RV T.c_Ratio H9 v9 (r + gainQ l r (2 ^ l.length - 1) + 0)
      rw [show r + gainQ l r (2 ^ l.length - 1) + 0 = r + gainQ l r (2 ^ l.length - 1) by grind]
      exact R9
    · rw [len8, List.take_length] at Rt
      have zt := zT ms.length
      rw [List.take_length] at zt
      refine .inl (rv_add (n := 201) R6' Rt z6 (zt.mono (by decide)) (by decide) (by decide) fun v9 H9 s9 R9 => fin s9 ?_)
      rw [← most]
      exact R9
theorem ok_least_writes (T : Ctx K mg) : FnOk P w K mg base (L2.CX P w) 13 T.f_least_writes T.fd_least_writes ["chances", "share"] (spBestF K false T.c_Chances T.c_Ratio T.c_Family T.c_BadNumber) := by
  refine T.F_least_writes.okX sc_least_writes (fun vs H Q E h => ?_) (fun cdv A outer s H vs Q E hr h => ?_)
  · obtain ⟨c, s, l, o, rfl, _⟩ := h
    rfl
  · obtain ⟨c, s, l, o, rfl, G, S, k1, k2⟩ := h
    refine ⟨_, (pss_cons (ps_expr (pe_call (ok_check_share T) (hr.mono (by decide)) (by rfl) T.g_check_share T.F_check_share.kp T.b_check_share .nil (passes_call (takes_of rfl rfl rfl rfl) (fun _ _ _ _ h => h)) (pa_cons (pv 1) pa_nil)))
      (pss_cons (ps_set (i := 2) sc_least_writes.nd rfl (Or.inl rfl) (pe_callB (call_lenO T.me_Chances_len.at_ T.me_Chances_len.fn (ok_Chances_len T) (hr.mono (by decide)) T.b_Chances_len pass0) (by rfl) T.m_len (by decide +kernel) (pa_cons (pv 0) pa_nil)))
      (pss_one (ps_ret (pe_call (ok_with_whole T) (hr.mono (by decide)) (by rfl) T.g_with_whole T.F_with_whole.kp T.b_with_whole .nil (passes_call (takes_of rfl rfl rfl rfl) (fun _ _ _ _ h => h)) (pa_cons (pv 2) (pa_cons (pe_lc (own := [("lot", 3)]) (g := gName 3) (tt := _) rfl sc_least_writes.nd (pi_list (pe_call (ok_middle_lots T) (hr.mono (by decide)) (by rfl) T.g_middle_lots T.F_middle_lots.kp T.b_middle_lots .nil (passes_call (takes_of rfl rfl rfl rfl) (fun _ _ _ _ h => h)) (pa_cons (pv 2) pa_nil))) (blkOk_by (own := [("lot", 3)]) (N := ["chances", "share", "copies", "lot"]) (sc := defScope s_least_writes) (by decide +kernel)) (fun _ _ _ _ _ => (pg_name (i := 3) sc_least_writes.nd rfl (Or.inl rfl))) (fun _ _ _ _ _ => (pts_one (pt_cmpR (ownCK (K := K) rfl (op_ownC (fun _ _ => rfl) T.me_Ratio_gt.at_ T.me_Ratio_gt.fn (ok_Ratio_gt T) (hr.mono (by decide)) T.b_Ratio_gt pass0)) (pe_call (ok_gain T) (hr.mono (by decide)) (by rfl) T.g_gain T.F_gain.kp T.b_gain .nil passL (pa_cons (pv 0) (pa_cons (pv 1) (pa_cons (pv 3) pa_nil)))) pe_int (nomark _)))) (fun _ _ _ _ _ => (pv 3))) pa_nil))))))), ?_⟩
    refine ⟨_, rfl, s, o, rfl, S, fun ok H1 s1 => ?_, k1⟩
    obtain ⟨r, rfl, okr⟩ := some_of ok
    have G1 := G.same s1
    have S1 := S.same s1
    obtain ⟨n1, n8, okL⟩ := G.len
    have n256 := pow_le8 n8
    have p2 : 2 ≤ 2 ^ l.length := Nat.pow_le_pow_right (n := 2) (i := 1) (by decide) n1
    refine ⟨_, rfl, _, rfl, G1.isC, _, l, rfl, G1, l.length, rfl, (by omega), ?_⟩
    refine ⟨_, rfl, _, rfl, l.length, rfl, n1, n8, fun p2 ys2 H2 s2 hp2 pr2 => ⟨p2, rfl, ⟨_, SqL.of hp2⟩, fun D nD => ?_⟩⟩
    have len2 := prLen pr2
    rw [midL_len] at len2
    refine lc_itM (walk_list (K := K) (a := p2) (xs := ys2)) (fun i => if upper l r false (i + 1) = true then some (i + 1) else none) (fun m y H => Lot K H m y) (fun _ _ _ _ e h => h.sameT e) nD (fun H' e => SqL.of (e _ _ hp2)) (by omega) ?_ ?_
    · rintro i x Ha Hb kk N hi sm ⟨rfl, hx⟩ q1 q2
      have im : i < 2 ^ l.length - 2 := by omega
      obtain ⟨m, em, hL⟩ := prAt pr2 hx
      rw [midL_at im] at em
      cases em
      have hL := hL.same sm
      refine ⟨rfl, _, rfl, _, rfl, _, rfl, gain_of (G1.same (s2.trans sm)) (S1.same (s2.trans sm)) okr (by omega) hL.arg fun v Hc sc R => ?_⟩
      refine rv_gt0 T.oc_Ratio R (gain_sz G okr _) (by decide) (by decide) fun Hd sd => ⟨_, rfl, ite2 (fun z => ?_) fun z => ?_⟩
      · exact ⟨_, rfl, q1 _ _ _ (sc.trans sd) (by unfold upper; rw [if_neg (by decide : ¬ (false = true)), if_pos z]) (hL.same (sc.trans sd))⟩
      · exact q2 _ (sc.trans sd) (by unfold upper; rw [if_neg (by decide : ¬ (false = true)), if_neg z])
    intro H8 ys8 s8 hD8 pr8
    rw [len2, mid_filter (upper l r false)] at pr8
    have lms : ((midL l.length).filter (upper l r false)).length ≤ 256 := by
      refine Nat.le_trans (List.length_filter_le _ _) ?_
      rw [midL_len]
      omega
    refine ⟨l.length, D, _, ys8, rfl, n1, n8, SqL.of hD8, pr8, by omega, fun m hm => ?_, fun v H9 s9 F => k2 r rfl okr _ _ (s1.trans (s2.trans (s8.trans s9))) F⟩
    have := midL_iff.mp (List.mem_filter.mp hm).1
    omega
theorem ok_greatest_writes (T : Ctx K mg) : FnOk P w K mg base (L2.CX P w) 13 T.f_greatest_writes T.fd_greatest_writes ["chances", "share"] (spBestF K true T.c_Chances T.c_Ratio T.c_Family T.c_BadNumber) := by
  refine T.F_greatest_writes.okX sc_greatest_writes (fun vs H Q E h => ?_) (fun cdv A outer s H vs Q E hr h => ?_)
  · obtain ⟨c, s, l, o, rfl, _⟩ := h
    rfl
  · obtain ⟨c, s, l, o, rfl, G, S, k1, k2⟩ := h
    refine ⟨_, (pss_cons (ps_expr (pe_call (ok_check_share T) (hr.mono (by decide)) (by rfl) T.g_check_share T.F_check_share.kp T.b_check_share .nil (passes_call (takes_of rfl rfl rfl rfl) (fun _ _ _ _ h => h)) (pa_cons (pv 1) pa_nil)))
      (pss_cons (ps_set (i := 2) sc_greatest_writes.nd rfl (Or.inl rfl) (pe_callB (call_lenO T.me_Chances_len.at_ T.me_Chances_len.fn (ok_Chances_len T) (hr.mono (by decide)) T.b_Chances_len pass0) (by rfl) T.m_len (by decide +kernel) (pa_cons (pv 0) pa_nil)))
      (pss_one (ps_ret (pe_call (ok_with_whole T) (hr.mono (by decide)) (by rfl) T.g_with_whole T.F_with_whole.kp T.b_with_whole .nil (passes_call (takes_of rfl rfl rfl rfl) (fun _ _ _ _ h => h)) (pa_cons (pv 2) (pa_cons (pe_lc (own := [("lot", 3)]) (g := gName 3) (tt := _) rfl sc_greatest_writes.nd (pi_list (pe_call (ok_middle_lots T) (hr.mono (by decide)) (by rfl) T.g_middle_lots T.F_middle_lots.kp T.b_middle_lots .nil (passes_call (takes_of rfl rfl rfl rfl) (fun _ _ _ _ h => h)) (pa_cons (pv 2) pa_nil))) (blkOk_by (own := [("lot", 3)]) (N := ["chances", "share", "copies", "lot"]) (sc := defScope s_greatest_writes) (by decide +kernel)) (fun _ _ _ _ _ => (pg_name (i := 3) sc_greatest_writes.nd rfl (Or.inl rfl))) (fun _ _ _ _ _ => (pts_one (pt_cmpR (ownCK (K := K) rfl (op_ownC (fun _ _ => rfl) T.me_Ratio_ge.at_ T.me_Ratio_ge.fn (ok_Ratio_ge T) (hr.mono (by decide)) T.b_Ratio_ge pass0)) (pe_call (ok_gain T) (hr.mono (by decide)) (by rfl) T.g_gain T.F_gain.kp T.b_gain .nil passL (pa_cons (pv 0) (pa_cons (pv 1) (pa_cons (pv 3) pa_nil)))) pe_int (nomark _)))) (fun _ _ _ _ _ => (pv 3))) pa_nil))))))), ?_⟩
    refine ⟨_, rfl, s, o, rfl, S, fun ok H1 s1 => ?_, k1⟩
    obtain ⟨r, rfl, okr⟩ := some_of ok
    have G1 := G.same s1
    have S1 := S.same s1
    obtain ⟨n1, n8, okL⟩ := G.len
    have n256 := pow_le8 n8
    have p2 : 2 ≤ 2 ^ l.length := Nat.pow_le_pow_right (n := 2) (i := 1) (by decide) n1
    refine ⟨_, rfl, _, rfl, G1.isC, _, l, rfl, G1, l.length, rfl, (by omega), ?_⟩
    refine ⟨_, rfl, _, rfl, l.length, rfl, n1, n8, fun p2 ys2 H2 s2 hp2 pr2 => ⟨p2, rfl, ⟨_, SqL.of hp2⟩, fun D nD => ?_⟩⟩
    have len2 := prLen pr2
    rw [midL_len] at len2
    refine lc_itM (walk_list (K := K) (a := p2) (xs := ys2)) (fun i => if upper l r true (i + 1) = true then some (i + 1) else none) (fun m y H => Lot K H m y) (fun _ _ _ _ e h => h.sameT e) nD (fun H' e => SqL.of (e _ _ hp2)) (by omega) ?_ ?_
    · rintro i x Ha Hb kk N hi sm ⟨rfl, hx⟩ q1 q2
      have im : i < 2 ^ l.length - 2 := by omega
      obtain ⟨m, em, hL⟩ := prAt pr2 hx
      rw [midL_at im] at em
      cases em
      have hL := hL.same sm
      refine ⟨rfl, _, rfl, _, rfl, _, rfl, gain_of (G1.same (s2.trans sm)) (S1.same (s2.trans sm)) okr (by omega) hL.arg fun v Hc sc R => ?_⟩
      refine rv_ge0 T.oc_Ratio R (gain_sz G okr _) (by decide) (by decide) fun Hd sd => ⟨_, rfl, ite2 (fun z => ?_) fun z => ?_⟩
      · exact ⟨_, rfl, q1 _ _ _ (sc.trans sd) (by unfold upper; rw [if_pos rfl, if_pos z]) (hL.same (sc.trans sd))⟩
      · exact q2 _ (sc.trans sd) (by unfold upper; rw [if_pos rfl, if_neg z])
    intro H8 ys8 s8 hD8 pr8
    rw [len2, mid_filter (upper l r true)] at pr8
    have lms : ((midL l.length).filter (upper l r true)).length ≤ 256 := by
      refine Nat.le_trans (List.length_filter_le _ _) ?_
      rw [midL_len]
      omega
    refine ⟨l.length, D, _, ys8, rfl, n1, n8, SqL.of hD8, pr8, by omega, fun m hm => ?_, fun v H9 s9 F => k2 r rfl okr _ _ (s1.trans (s2.trans (s8.trans s9))) F⟩
    have := midL_iff.mp (List.mem_filter.mp hm).1
    omega
theorem ok_is_best (T : Ctx K mg) : FnOk P w K mg base (L2.CX P w) 14 T.f_is_best T.fd_is_best ["chances", "share", "writes"] (spIsBest K T.c_Chances T.c_Ratio T.c_Family T.c_BadNumber T.c_Unlike) := by
  refine T.F_is_best.okX sc_is_best (fun vs H Q E h => ?_) (fun cdv A outer s H vs Q E hr h => ?_)
  · obtain ⟨c, s, w, l, o, n, f, rfl, _⟩ := h
    rfl
  · obtain ⟨c, s, w, l, o, n, f, rfl, G, S, F, k1, k2⟩ := h
    refine ⟨_, (pss_cons (ps_set (i := 3) sc_is_best.nd rfl (Or.inl rfl) (pe_call (ok_least_writes T) (hr.mono (by decide)) (by rfl) T.g_least_writes T.F_least_writes.kp T.b_least_writes .nil (passes_call (takes_of rfl rfl rfl rfl) (fun _ _ _ _ h => h)) (pa_cons (pv 0) (pa_cons (pv 1) pa_nil))))
      (pss_one (ps_ret (pe_and (pe_cmpR (op_ownC (fun _ _ => rfl) T.me_Family_le.at_ T.me_Family_le.fn (ok_Family_le T) (hr.mono (by decide)) T.b_Family_le (passes_call (takes_of rfl rfl rfl rfl) (fun _ _ _ _ h => h))) (pv 3) (pv 2) (nomark _)) (pe_one (pe_cmpR (op_ownC (fun _ _ => rfl) T.me_Family_le.at_ T.me_Family_le.fn (ok_Family_le T) (hr.mono (by decide)) T.b_Family_le (passes_call (takes_of rfl rfl rfl rfl) (fun _ _ _ _ h => h))) (pv 2) (pe_call (ok_greatest_writes T) (hr.mono (by decide)) (by rfl) T.g_greatest_writes T.F_greatest_writes.kp T.b_greatest_writes .nil (passes_call (takes_of rfl rfl rfl rfl) (fun _ _ _ _ h => h)) (pa_cons (pv 0) (pa_cons (pv 1) pa_nil))) (nomark _))))))), ?_⟩
    refine ⟨_, rfl, _, rfl, c, s, l, o, rfl, G, S, k1, fun r er okr v3 H1 s1 F1 => ?_⟩
    obtain ⟨k3, k4⟩ := k2 r er okr
    by_cases e : l.length = n
    rotate_left
    · refine ⟨_, rfl, _, rfl, F1.isC, ⟨_, (F.same s1).ty T.ic_Family, by simp [PySem.W.notFirst]⟩, v3, w, _, _, _, _, rfl, F1, F.same s1, fun z => absurd z e, fun _ H' s' => k3 e _ (s1.trans s')⟩
    subst e
    have k4 := k4 rfl
    refine ⟨_, rfl, _, rfl, fam_le T.ic_Family F1 (F.same s1) fun H2 s2 => ⟨_, rfl, ?_⟩⟩
    have t2 := s1.trans s2
    cases e1 : leB l.length (upB (bestL l r false)) f with
    | false =>
      refine iteF ?_
      have := k4 H2 t2
      rw [e1] at this
      exact this
    | true =>
      refine iteT ⟨_, rfl, _, rfl, _, rfl, c, s, l, o, rfl, G.same t2, S.same t2, fun z => (by rw [er] at z; exact absurd (okr.symm.trans z) (by decide)), fun r' er' _ v4 H3 s3 F3 => ?_⟩
      cases er.symm.trans er'
      refine fam_le T.ic_Family (F.same (t2.trans s3)) F3 fun H4 s4 => ?_
      have := k4 H4 (t2.trans (s3.trans s4))
      rw [e1] at this
      exact this
end
section
variable {P : Program} {w : World} {K : PySem.W.Frag} {mg : Str → Option Value} {base : Heap}
theorem ok_lot_break (T : Ctx K mg) : FnOk P w K mg base (L2.CX P w) 9 T.f_lot_break T.fd_lot_break ["chances", "lot"] (spBreak K T.c_Chances T.c_Ratio) := by
  refine T.F_lot_break.okX sc_lot_break (fun vs H Q E h => ?_) (fun cdv A outer s H vs Q E hr h => ?_)
  · obtain ⟨c, y, l, m, rfl, _⟩ := h
    rfl
  · obtain ⟨c, y, l, m, rfl, G, hm, hL, k⟩ := h
    refine ⟨_, (pss_cons (ps_set (i := 2) sc_lot_break.nd rfl (Or.inl rfl) (pe_meth (pv 0) T.cl_Chances T.me_Chances_alone (ok_Chances_alone T) (hr.mono (by decide)) T.b_Chances_alone .nil (passes_call (takes_of rfl rfl rfl rfl) (fun _ _ _ _ h => h)) (pa_cons (pv 1) pa_nil)))
      (pss_one (ps_ret (pe_meth (pv 2) T.cl_Ratio T.me_Ratio_divided (ok_Ratio_divided T) (hr.mono (by decide)) T.b_Ratio_divided .nil (passes_call (takes_of rfl rfl rfl rfl) (fun _ _ _ _ h => h)) (pa_cons (pe_op (op_ownB T.oc_Ratio T.oh_Ratio_add T.me_Ratio_add.fn (ok_Ratio_add T) (hr.mono (by decide)) T.b_Ratio_add pass0) (pv 2) (pe_meth (pv 0) T.cl_Chances T.me_Chances_alone (ok_Chances_alone T) (hr.mono (by decide)) T.b_Chances_alone .nil (passes_call (takes_of rfl rfl rfl rfl) (fun _ _ _ _ h => h)) (pa_cons (pe_call (ok_others T) (hr.mono (by decide)) (by rfl) T.g_others T.F_others.kp T.b_others .nil (passes_call (takes_of rfl rfl rfl rfl) (fun _ _ _ _ h => h)) (pa_cons (pe_callB (call_lenO T.me_Chances_len.at_ T.me_Chances_len.fn (ok_Chances_len T) (hr.mono (by decide)) T.b_Chances_len pass0) (by rfl) T.m_len (by decide +kernel) (pa_cons (pv 0) pa_nil)) (pa_cons (pv 1) pa_nil))) pa_nil))) pa_nil))))), ?_⟩
    obtain ⟨n1, n8, ok⟩ := G.len
    have n256 := pow_le8 n8
    refine ⟨_, rfl, G.meth (by decide +kernel) ⟨_, rfl, c, y, l, lotV m, rfl, G, hL.arg, fun _ v2 H2 s2 U2 => ?_, fun z e => (by rw [badOf_lotV hm n8] at e; cases e)⟩⟩
    rw [mask_lotV (by omega)] at U2
    obtain ⟨b, rfl, hb, sc⟩ := hL.arg.same s2
    have gc := copies_good n1 n8
    have U2' := U2
    obtain ⟨⟨a2, d2, rfl, ha2⟩, _, _⟩ := U2'
    refine ⟨_, rfl, a2, d2, _, rfl, ha2, rfR_no _ _ dvd_no1 dvd_no2, ?_⟩
    refine ⟨_, rfl, _, rfl, (G.same s2).meth (by decide +kernel) ⟨_, rfl, _, rfl, (G.same s2).isC, _, _, rfl, G.same s2, _, rfl, by omega, _, rfl, _, b, lotV m, rfl, kn_int _, hb, sc, fun z => (by rw [gc] at z; cases z), fun n en g1 g8 => ?_⟩⟩
    obtain rfl : l.length = n := by
      have : ((l.length : Nat) : Int) = (n : Int) := by injection en
      omega
    refine ⟨fun _ p H3 s3 np hp => ?_, fun z e => (by rw [badOf_lotV hm n8] at e; cases e)⟩
    rw [mask_lotV (by omega)] at hp
    have m2 : 2 ^ l.length - 1 - m < 2 ^ l.length := by omega
    have A4 : LotArg K H3 (lotV (2 ^ l.length - 1 - m)) (.ref p) := Lot.arg ⟨p, rfl, .inl (.inl hp)⟩
    have t3 := s2.trans s3
    refine ⟨c, .ref p, l, _, rfl, G.same t3, A4, fun _ v4 H4 s4 U4 => ?_, fun z e => by rw [badOf_lotV m2 n8] at e; cases e⟩
    rw [mask_lotV (by omega)] at U4
    have pa := alone_pos G.pos ok hm
    have pb := alone_pos G.pos ok m2
    refine rv_add (RV.same U2 (s3.trans s4)) U4 (G.aloneSz _) (G.aloneSz _) (by decide) (by decide) fun v5 H5 s5 U5 => ?_
    refine rv_div (n := 201) (RV.same U2 (s3.trans (s4.trans s5))) U5 ((G.aloneSz _).mono (by decide)) (szq_add (G.aloneSz _) (G.aloneSz _)) (by grind) (by decide) (by decide) fun v6 H6 s6 U6 => ?_
    exact k _ _ (t3.trans (s4.trans (s5.trans s6))) U6
theorem ok_lot_breaks (T : Ctx K mg) : FnOk P w K mg base (L2.CX P w) 10 T.f_lot_breaks T.fd_lot_breaks ["chances"] (spBreaks0 K T.c_Chances T.c_Ratio) := by
  refine T.F_lot_breaks.okX sc_lot_breaks (fun vs H Q E h => ?_) (fun cdv A outer s H vs Q E hr h => ?_)
  · obtain ⟨c, l, rfl, _⟩ := h
    rfl
  · obtain ⟨c, l, rfl, G, k⟩ := h
    refine ⟨_, (pss_cons (ps_set (i := 1) sc_lot_breaks.nd rfl (Or.inl rfl) (pe_call (ok_middle_lots T) (hr.mono (by decide)) (by rfl) T.g_middle_lots T.F_middle_lots.kp T.b_middle_lots .nil (passes_call (takes_of rfl rfl rfl rfl) (fun _ _ _ _ h => h)) (pa_cons (pe_callB (call_lenO T.me_Chances_len.at_ T.me_Chances_len.fn (ok_Chances_len T) (hr.mono (by decide)) T.b_Chances_len pass0) (by rfl) T.m_len (by decide +kernel) (pa_cons (pv 0) pa_nil)) pa_nil)))
      (pss_one (ps_ret (pe_lc (own := [("lot", 2)]) (g := gName 2) (tt := tYes) rfl sc_lot_breaks.nd (pi_list (pv 1)) (blkOk_by (own := [("lot", 2)]) (N := ["chances", "lots", "lot"]) (sc := defScope s_lot_breaks) (by decide +kernel)) (fun _ _ _ _ _ => (pg_name (i := 2) sc_lot_breaks.nd rfl (Or.inl rfl))) (fun _ _ _ _ _ => pts_nil) (fun _ _ _ _ _ => (pe_tup (pa_cons (pv 2) (pa_cons (pe_call (ok_lot_break T) (hr.mono (by decide)) (by rfl) T.g_lot_break T.F_lot_break.kp T.b_lot_break .nil passL (pa_cons (pv 0) (pa_cons (pv 2) pa_nil))) pa_nil)))))))), ?_⟩
    obtain ⟨n1, n8, ok⟩ := G.len
    have n256 := pow_le8 n8
    have p2 : 2 ≤ 2 ^ l.length := Nat.pow_le_pow_right (n := 2) (i := 1) (by decide) n1
    refine ⟨_, rfl, _, rfl, G.isC, _, l, rfl, G, l.length, rfl, (by omega), ?_⟩
    refine ⟨l.length, rfl, n1, n8, fun p2 ys2 H2 s2 hp2 pr2 => ⟨_, rfl, p2, rfl, ⟨_, SqL.of hp2⟩, fun D nD => ?_⟩⟩
    have len2 := prLen pr2
    rw [midL_len] at len2
    refine lc_itA (walk_list (K := K) (a := p2) (xs := ys2)) (fun i => i + 1) (fun m y H => BrT K T.c_Ratio l H m y) (fun _ _ _ _ e h => h.sameT e) nD (fun H' e => SqL.of (e _ _ hp2)) (by omega) ?_ ?_
    · rintro i x Ha Hb kk hi sm ⟨rfl, hx⟩ h1
      have im : i < 2 ^ l.length - 2 := by omega
      obtain ⟨m, em, hL⟩ := prAt pr2 hx
      rw [midL_at im] at em
      cases em
      have hL := hL.same sm
      refine ⟨rfl, _, rfl, _, rfl, _, rfl, c, x, l, i + 1, rfl, G.same (s2.trans sm), by omega, hL, fun v Hc sc R => ?_⟩
      exact ⟨(by show 2 ≤ sizeLine; decide), fun p np => h1 _ _ (sc.trans (same_upd np)) ⟨p, _, _, rfl, .inl (.inl upd_same), (hL.same sc).same (same_upd np), RV.same R (same_upd np)⟩⟩
    intro H3 ys3 s3 hD3 pr3
    rw [len2] at pr3
    exact k D ys3 H3 (s2.trans s3) hD3 (by rw [midL_map]; exact pr3)
theorem ok_breaks (T : Ctx K mg) : FnOk P w K mg base (L2.CX P w) 11 T.f_breaks T.fd_breaks ["chances"] (spBreaks K T.c_Chances T.c_Ratio) := by
  refine T.F_breaks.okX sc_breaks (fun vs H Q E h => ?_) (fun cdv A outer s H vs Q E hr h => ?_)
  · obtain ⟨c, l, rfl, _⟩ := h
    rfl
  · obtain ⟨c, l, rfl, G, k⟩ := h
    refine ⟨_, (pss_cons (ps_set (i := 1) sc_breaks.nd rfl (Or.inl rfl) (pe_lst pa_nil))
      (pss_cons (ps_for (passes_of rfl) rfl (pi_list (pe_call (ok_lot_breaks T) (hr.mono (by decide)) (by rfl) T.g_lot_breaks T.F_lot_breaks.kp T.b_lot_breaks .nil (passes_call (takes_of rfl rfl rfl rfl) (fun _ _ _ _ h => h)) (pa_cons (pv 0) pa_nil))) (pg_tup rfl (pgs_cons (pg_name (i := 2) sc_breaks.nd rfl (Or.inl rfl)) (pgs_cons (pg_name (i := 3) sc_breaks.nd rfl (Or.inr rfl)) pgs_nil)))
        (pss_cons (ps_set (i := 4) sc_breaks.nd rfl (Or.inl rfl) (pe_callB call_len_seq (by rfl) T.m_len (by decide +kernel) (pa_cons (pe_lc (own := [("known", 5)]) (g := gName 5) (tt := _) rfl sc_breaks.nd (pi_list (pv 1)) (blkOk_by (own := [("known", 5)]) (N := ["chances", "found", "_", "turn", "place", "known"]) (sc := defScope s_breaks) (by decide +kernel)) (fun _ _ _ _ _ => (pg_name (i := 5) sc_breaks.nd rfl (Or.inl rfl))) (fun _ _ _ _ _ => (pts_one (pt_cmpR (ownCK (K := K) rfl (op_ownC (fun _ _ => rfl) T.me_Ratio_lt.at_ T.me_Ratio_lt.fn (ok_Ratio_lt T) (hr.mono (by decide)) T.b_Ratio_lt pass0)) (pv 5) (pv 3) (nomark _)))) (fun _ _ _ _ _ => (pv 5))) pa_nil)))
        (pss_one (ps_if (PW.pt (pw_or (pt_cmpR op_eq (pv 4) (pe_callB call_len_seq (by rfl) T.m_len (by decide +kernel) (pa_cons (pv 1) pa_nil)) (nomark _)) (pw_or1 (pt_cmpR (op_ownNe T.oc_Ratio T.me_Ratio_eq.at_ T.me_Ratio_eq.fn (ok_Ratio_eq T) (hr.mono (by decide)) T.b_Ratio_eq pass0) (pe_ix ix_list (pv 1) (pv 4) (fun _ _ => rfl)) (pv 3) (nomark _)))))
          (pss_one (ps_expr (pe_bm PySem.F.plainAttrs_list PySem.F.slot_list_insert PySem.F.type_list_insert mt_insert (pv 1) (pa_cons (pv 4) (pa_cons (pv 3) pa_nil)))))
          pss_nil))))
      (pss_one (ps_ret (pv 1))))), ?_⟩
    obtain ⟨n1, n8, ok⟩ := G.len
    have n256 := pow_le8 n8
    refine ⟨(by show 0 ≤ sizeLine; decide), fun D nD => ?_⟩
    have s1 : Same H (upd H D (.lst [])) := same_upd nD
    refine ⟨_, rfl, c, l, rfl, G.same s1, fun p0 ys0 H2 s2 hp0 pr0 => ?_⟩
    have len0 := prLen pr0
    rw [midL_len] at len0
    have hD2 := s2 _ _ (upd_same : upd H D (.lst []) D = some (.lst []))
    have ne0 : ys0 ≠ [] → p0 ≠ D := fun z e => by
      subst e
      rw [hD2] at hp0
      cases hp0
      exact z rfl
    refine ⟨p0, rfl, ⟨_, SqL.of hp0⟩, for_list (K := K) (a := p0) (xs := ys0) (fun i σ H' => i ≤ ys0.length ∧ Same H H' ∧ H' p0 = some (.lst ys0) ∧ Paired (fun m y => BrT K T.c_Ratio l H' m y) (midL l.length) ys0 ∧ (∃ v2 v3 v4 v5, σ = [some c, some (.ref D), v2, v3, v4, v5]) ∧ ∃ xs, H' D = some (.lst xs) ∧ Paired (fun t y => RV T.c_Ratio H' y t) ((((midL l.length).take i).map (breakQ l)).foldl insB []) xs)
      ⟨Nat.zero_le _, s1.trans s2, hp0, pr0, ⟨_, _, _, _, rfl⟩, [], hD2, .nil⟩ (fun i σ H' _ h => SqL.of h.2.2.1) ?_ ?_⟩
    · rintro i x σ H3 hx ⟨hi, s3, hp3, pr3, ⟨v2, v3, v4, v5, rfl⟩, xs, hD3, px⟩
      obtain ⟨m, em, t, y, r, rfl, hT, hL, R⟩ := prAt pr3 hx
      have mi : m ∈ midL l.length := List.mem_of_getElem? em
      have mb := midL_iff.mp mi
      have mlt : m < 2 ^ l.length := by omega
      have next : (((midL l.length).take (i + 1)).map (breakQ l)).foldl insB [] = insB ((((midL l.length).take i).map (breakQ l)).foldl insB []) (breakQ l m) := by
        rw [List.take_add_one, em, List.map_append, List.foldl_append]
        rfl
      have fl := fold_len (((midL l.length).take i).map (breakQ l)) []
      rw [List.length_map, List.length_take, List.length_nil] at fl
      have sz : ∀ z ∈ (((midL l.length).take i).map (breakQ l)).foldl insB [], Szq 400 z := fun z hz => by
        rcases ((fold_insB _ [] List.Pairwise.nil).2 z).mp hz with q | q
        · simp at q
        · obtain ⟨m', hm', rfl⟩ := List.mem_map.mp q
          have := midL_iff.mp (List.mem_of_mem_take hm')
          exact break_sz G (by omega)
      have st := break_sz G mlt
      rw [next]
      generalize (((midL l.length).take i).map (breakQ l)).foldl insB [] = ts at *
      have lx := prLen px
      have ilt : i < ys0.length := (List.getElem?_eq_some_iff.mp hx).1
      have nep := ne0 fun z => by rw [z] at ilt; simp at ilt
      have e1000 : (1000 : Nat) < sizeLine := by decide
      refine ⟨t, _, rfl, hT, rfl, _, _, rfl, _, _, rfl, rfl, ?_⟩
      refine ⟨_, rfl, D, rfl, ⟨_, SqL.of hD3⟩, fun D2 nD2 => ?_⟩
      refine lc_itM (walk_list (K := K) (a := D) (xs := xs)) (fun i => if decide (ts.getD i 0 < breakQ l m) = true then some (ts.getD i 0) else none) (fun t y H => RV T.c_Ratio H y t) (fun _ _ _ _ e h => ratT h e) nD2 (fun H' e => SqL.of (e _ _ hD3)) (by omega) ?_ ?_
      · rintro j z Ha Hb kk N hj sm ⟨rfl, hz⟩ q1 q2
        obtain ⟨tj, ej, Rj⟩ := prAt px hz
        have Rj := RV.same Rj sm
        have ed : ts.getD j 0 = tj := by rw [List.getD_eq_getElem?_getD, ej]; rfl
        refine ⟨rfl, _, rfl, _, rfl, rv_lt T.ic_Ratio Rj (RV.same R sm) (sz _ (List.mem_of_getElem? ej)) st (by decide) (by decide) fun Hc sc => ⟨_, rfl, ite2 (fun c => ?_) fun c => ?_⟩⟩
        · exact ⟨_, rfl, q1 _ _ _ sc (by rw [ed, if_pos c]) (RV.same Rj sc)⟩
        · exact q2 _ sc (by rw [ed, if_neg c])
      intro H4 ys4 s4 hD4 pr4
      rw [lx, rng_filter] at pr4
      have len4 := prLen pr4
      refine ⟨D2, ys4, rfl, .inl (SqL.of hD4), ?_⟩
      have hD5 := s4 _ _ hD3
      have hp5 := s4 _ _ hp3
      have pr5 := prImp (fun _ _ (z : BrT K T.c_Ratio l H3 _ _) => z.sameT (Same.toT s4)) pr3
      have px5 := prImp (fun _ _ (z : RV T.c_Ratio H3 _ _) => z.same s4) px
      have R5 := RV.same R s4
      have t5 := s3.trans s4
      have fle := filt_le (xs := ts) (breakQ l m)
      have ib : insB ts (breakQ l m) = if ys4.length = ts.length ∨ ts[ys4.length]? ≠ some (breakQ l m) then ts.take ys4.length ++ [breakQ l m] ++ ts.drop ys4.length else ts := by
        unfold insB
        rw [len4]
      rw [ib]
      refine ⟨_, rfl, _, rfl, D, xs, rfl, .inl (SqL.of hD5), rfl, _, rfl, ?_⟩
      have key : (decide (V.int (ys4.length : Nat) = V.int (xs.length : Nat))) = decide (ys4.length = ts.length) := by
        rw [← lx]
        refine decide_eq_decide.mpr ⟨fun z => ?_, fun z => by rw [z]⟩
        injection z with z
        omega
      rw [key]
      have stay : ∀ o, SameT H4 (upd H4 D (.lst o)) := fun o => sameT_upd hD5
      have done : (ys4.length = ts.length ∨ ts[ys4.length]? ≠ some (breakQ l m)) → ∀ v : Option V, _ := fun z v =>
        (⟨by omega, same_upd2 t5 nD, by rw [upd_ne nep]; exact hp5, prImp (fun _ _ q => BrT.sameT q (stay _)) pr5, ⟨_, _, _, _, rfl⟩, xs.take ys4.length ++ [r] ++ xs.drop ys4.length, upd_same, by
          rw [if_pos z]
          exact prImp (fun _ _ q => ratT q (stay _)) (prApp (prApp (prTake _ px5) (.cons R5 .nil)) (prDrop _ px5))⟩ :
          i + 1 ≤ ys0.length ∧ Same H (upd H4 D (.lst (xs.take ys4.length ++ [r] ++ xs.drop ys4.length))) ∧ upd H4 D (.lst (xs.take ys4.length ++ [r] ++ xs.drop ys4.length)) p0 = some (.lst ys0) ∧ Paired (fun m y => BrT K T.c_Ratio l (upd H4 D (.lst (xs.take ys4.length ++ [r] ++ xs.drop ys4.length))) m y) (midL l.length) ys0 ∧ (∃ v2 v3 v4 v5, [some c, some (.ref D), some y, some r, some (V.int (ys4.length : Nat)), v] = [some c, some (.ref D), v2, v3, v4, v5]) ∧ ∃ xs', upd H4 D (.lst (xs.take ys4.length ++ [r] ++ xs.drop ys4.length)) D = some (.lst xs') ∧ Paired (fun t y => RV T.c_Ratio (upd H4 D (.lst (xs.take ys4.length ++ [r] ++ xs.drop ys4.length))) y t) (if ys4.length = ts.length ∨ ts[ys4.length]? ≠ some (breakQ l m) then ts.take ys4.length ++ [breakQ l m] ++ ts.drop ys4.length else ts) xs')
      refine ite2 (fun c1 => iteT ?_) fun c1 => ?_
      · refine ⟨_, rfl, .inl ⟨rfl, _, SqL.of hD5⟩, _, rfl, _, rfl, D, xs, _, r, rfl, rfl, hD5, by omega, by omega, by omega, ?_⟩
        exact done (.inl (of_decide_eq_true c1)) _
      · have c2 : ys4.length ≠ ts.length := fun z => c1 (decide_eq_true z)
        obtain ⟨z, hz⟩ : ∃ z, xs[ys4.length]? = some z := ⟨xs[ys4.length]'(by omega), List.getElem?_eq_getElem _⟩
        obtain ⟨tz, ez, Rz⟩ := prAt px5 hz
        refine ⟨_, rfl, _, rfl, D, _, _, z, rfl, rfl, SqL.of hD5, atI_nat hz, _, rfl, rv_neD T.ic_Ratio Rz R5 ⟨_, rfl, ite2 (fun c3 => ?_) fun c3 => ?_⟩⟩
        · have c4 : tz ≠ breakQ l m := by simpa using c3
          refine ⟨_, rfl, .inl ⟨rfl, _, SqL.of hD5⟩, _, rfl, _, rfl, D, xs, _, r, rfl, rfl, hD5, by omega, by omega, by omega, ?_⟩
          exact done (.inr fun q => c4 (by rw [ez] at q; exact Option.some.inj q)) _
        · have c4 : tz = breakQ l m := by simpa using c3
          refine ⟨by omega, t5, hp5, pr5, ⟨_, _, _, _, rfl⟩, xs, hD5, ?_⟩
          rw [if_neg fun q => ?_]
          · exact px5
          · rcases q with q | q
            · exact c2 q
            · exact q (by rw [ez, c4])
    · rintro σ H3 ⟨hi, s3, hp3, pr3, ⟨v2, v3, v4, v5, rfl⟩, xs, hD3, px⟩
      rw [List.take_of_length_le (by rw [midL_len]; omega)] at px
      exact ⟨_, rfl, k D xs H3 s3 hD3 px⟩
end
section
variable {P : Program} {w : World} {K : PySem.W.Frag} {mg : Str → Option Value} {base : Heap}
theorem ok_piece (T : Ctx K mg) : FnOk P w K mg base (L2.CX P w) 11 T.f_piece T.fd_piece ["chances", "turns", "start", "end"] (spPiece K T.c_Chances T.c_Ratio T.c_Family) := by
  refine T.F_piece.okX sc_piece (fun vs H Q E h => ?_) (fun cdv A outer s H vs Q E hr h => ?_)
  · obtain ⟨c, p, a, b, l, ys, i, rfl, _⟩ := h
    rfl
  · obtain ⟨c, p, a, b, l, ys, i, rfl, G, hp, pr, hi, Ra, Rb, k⟩ := h
    refine ⟨_, (pss_cons (ps_set (i := 4) sc_piece.nd rfl (Or.inl rfl) (pe_call (ok_with_whole T) (hr.mono (by decide)) (by rfl) T.g_with_whole T.F_with_whole.kp T.b_with_whole .nil (passes_call (takes_of rfl rfl rfl rfl) (fun _ _ _ _ h => h)) (pa_cons (pe_callB (call_lenO T.me_Chances_len.at_ T.me_Chances_len.fn (ok_Chances_len T) (hr.mono (by decide)) T.b_Chances_len pass0) (by rfl) T.m_len (by decide +kernel) (pa_cons (pv 0) pa_nil)) (pa_cons (pe_lc (own := [("lot", 5), ("turn", 6)]) (g := gTup K 2 (gCons (gName 5) (gCons (gName 6) gNil))) (tt := _) rfl sc_piece.nd (pi_list (pv 1)) (blkOk_by (own := [("lot", 5), ("turn", 6)]) (N := ["chances", "turns", "start", "end", "writes", "lot", "turn", "height", "slope"]) (sc := defScope s_piece) (by decide +kernel)) (fun _ _ _ _ _ => (pg_tup rfl (pgs_cons (pg_name (i := 5) sc_piece.nd rfl (Or.inl rfl)) (pgs_cons (pg_name (i := 6) sc_piece.nd rfl (Or.inl rfl)) pgs_nil)))) (fun _ _ _ _ _ => (pts_one (pt_cmpR (ownCK (K := K) rfl (op_ownC (fun _ _ => rfl) T.me_Ratio_gt.at_ T.me_Ratio_gt.fn (ok_Ratio_gt T) (hr.mono (by decide)) T.b_Ratio_gt pass0)) (pv 6) (pv 2) (nomark _)))) (fun _ _ _ _ _ => (pv 5))) pa_nil))))
      (pss_cons (ps_set (i := 7) sc_piece.nd rfl (Or.inl rfl) (pe_meth (pv 0) T.cl_Chances T.me_Chances_up (ok_Chances_up T) (hr.mono (by decide)) T.b_Chances_up .nil (passes_call (takes_of rfl rfl rfl rfl) (fun _ _ _ _ h => h)) (pa_cons (pv 4) pa_nil)))
      (pss_cons (ps_set (i := 8) sc_piece.nd rfl (Or.inl rfl) (pe_op (op_ownB T.oc_Ratio T.oh_Ratio_sub T.me_Ratio_sub.fn (ok_Ratio_sub T) (hr.mono (by decide)) T.b_Ratio_sub pass0) (pe_meth (pv 0) T.cl_Chances T.me_Chances_up (ok_Chances_up T) (hr.mono (by decide)) T.b_Chances_up .nil (passes_call (takes_of rfl rfl rfl rfl) (fun _ _ _ _ h => h)) (pa_cons (pe_meth0 (pv 4) T.cl_Family T.me_Family_dual (ok_Family_dual T) (hr.mono (by decide)) T.b_Family_dual .nil pass0) pa_nil)) (pv 7)))
      (pss_one (ps_ret (pe_tup (pa_cons (pv 2) (pa_cons (pv 3) (pa_cons (pv 8) (pa_cons (pv 7) (pa_cons (pv 4) pa_nil))))))))))), ?_⟩
    obtain ⟨n1, n8, ok⟩ := G.len
    have n256 := pow_le8 n8
    have p2 : 2 ≤ 2 ^ l.length := Nat.pow_le_pow_right (n := 2) (i := 1) (by decide) n1
    have ly := prLen pr
    rw [midL_len] at ly
    have sa := bnd_sz G (i := i) (by omega)
    refine ⟨_, rfl, _, rfl, G.isC, _, l, rfl, G, l.length, rfl, (by omega), ?_⟩
    refine ⟨_, rfl, p, rfl, ⟨_, hp⟩, fun D nD => ?_⟩
    refine lc_itM (walk_list (K := K) (a := p) (xs := ys)) (fun j => if upper l (bnd l i) false (j + 1) = true then some (j + 1) else none) (fun m y H => Lot K H m y) (fun _ _ _ _ e h => h.sameT e) nD (fun H' e => e.seq hp) (by omega) ?_ ?_
    · rintro j x Ha Hb kk N hj sm ⟨rfl, hx⟩ q1 q2
      have im : j < 2 ^ l.length - 2 := by omega
      obtain ⟨m, em, t, y, r, rfl, hT, hL, R⟩ := prAt pr hx
      rw [midL_at im] at em
      cases em
      have up := (upper_break G.pos ok (m := j + 1) (by omega) (bnd l i)).1
      refine ⟨t, _, rfl, Same.seqT sm hT, rfl, _, _, rfl, _, _, rfl, rfl, rfl, _, rfl, _, rfl, rv_gt T.ic_Ratio (RV.same R sm) (RV.same Ra sm) (break_sz G (by omega)) sa (by decide) (by decide) fun Hc sc => ⟨_, rfl, ite2 (fun z => ?_) fun z => ?_⟩⟩
      · exact ⟨_, rfl, q1 _ _ _ sc (by rw [up, if_pos z]) ((hL.same sm).same sc)⟩
      · exact q2 _ sc (by rw [up, if_neg z])
    intro H2 zs s2 hD pz
    rw [ly, mid_filter (upper l (bnd l i) false)] at pz
    have lms : ((midL l.length).filter (upper l (bnd l i) false)).length ≤ 256 := by
      refine Nat.le_trans (List.length_filter_le _ _) ?_
      rw [midL_len]
      omega
    refine ⟨l.length, D, _, zs, rfl, n1, n8, SqL.of hD, pz, by omega, fun m hm => ?_, fun v H3 s3 F => ?_⟩
    · have := midL_iff.mp (List.mem_filter.mp hm).1
      omega
    have t3 := s2.trans s3
    have G3 := G.same t3
    have F : Fam K T.c_Family H3 v l.length (wriB l (bnd l i)) := F
    refine ⟨_, rfl, G3.meth (by decide +kernel) ⟨_, rfl, c, v, l, l.length, _, rfl, G3, F, fun _ g H4 s4 Rg => ?_, fun z => absurd rfl z⟩⟩
    have G4 := G3.same s4
    refine ⟨_, rfl, G4.meth (by decide +kernel) ⟨_, rfl, (F.same s4).meth m_dual ⟨_, _, _, rfl, F.same s4, fun u H5 s5 F5 => ?_⟩⟩⟩
    refine ⟨c, u, l, l.length, _, rfl, G4.same s5, F5, fun _ g2 H6 s6 Rg2 => ?_, fun z => absurd rfl z⟩
    refine ⟨_, rfl, rv_sub (n := 100) Rg2 (RV.same Rg (s5.trans s6)) (G.upSz _) (G.upSz _) (by decide) (by decide) fun d H7 s7 Rd => ?_⟩
    have t4 := s4.trans (s5.trans (s6.trans s7))
    have t7 := t3.trans t4
    refine ⟨_, rfl, _, rfl, _, rfl, _, rfl, _, rfl, (by show 5 ≤ sizeLine; decide), fun q nq => ?_⟩
    have t8 := t7.trans (same_upd (o := .tup [a, b, d, g, v]) nq)
    refine k _ _ t8 ⟨q, a, b, d, g, v, rfl, .inl (.inl upd_same), RV.same Ra t8, RV.same Rb t8, RV.same Rd (same_upd nq), RV.same Rg ((s5.trans (s6.trans s7)).trans (same_upd nq)), (F.same t4).same (same_upd nq)⟩
theorem ok_Curve_init (T : Ctx K mg) : FnOk P w K mg base (L2.CX P w) 13 T.f_Curve_init T.fd_Curve_init ["self", "chances"] (spCurve0 K T.c_Curve T.c_Chances T.c_Ratio T.c_Family) := by
  refine T.F_Curve_init.okX sc_Curve_init (fun vs H Q E h => ?_) (fun cdv A outer s H vs Q E hr h => ?_)
  · obtain ⟨a, dx, c, l, rfl, _⟩ := h
    rfl
  · obtain ⟨a, dx, c, l, rfl, ha, G, k⟩ := h
    refine ⟨_, (pss_cons (ps_set (i := 2) sc_Curve_init.nd rfl (Or.inr rfl) (pe_call (ok_lot_breaks T) (hr.mono (by decide)) (by rfl) T.g_lot_breaks T.F_lot_breaks.kp T.b_lot_breaks .nil (passes_call (takes_of rfl rfl rfl rfl) (fun _ _ _ _ h => h)) (pa_cons (pv 1) pa_nil)))
      (pss_cons (ps_set (i := 3) sc_Curve_init.nd rfl (Or.inl rfl) (pe_op op_cat (pe_op op_cat (pe_lst (pa_cons (pe_make T.M_Ratio (ok_Ratio_init T) (hr.mono (by decide)) (by rfl) T.gc_Ratio T.b_Ratio_init1 T.v_Ratio_init1 (passes_call (takes_of rfl rfl rfl rfl) (fun _ _ _ _ h => h)) (pa_cons pe_int pa_nil)) pa_nil)) (pe_call (ok_breaks T) (hr.mono (by decide)) (by rfl) T.g_breaks T.F_breaks.kp T.b_breaks .nil (passes_call (takes_of rfl rfl rfl rfl) (fun _ _ _ _ h => h)) (pa_cons (pv 1) pa_nil))) (pe_lst (pa_cons (pe_make T.M_Ratio (ok_Ratio_init T) (hr.mono (by decide)) (by rfl) T.gc_Ratio T.b_Ratio_init1 T.v_Ratio_init1 (passes_call (takes_of rfl rfl rfl rfl) (fun _ _ _ _ h => h)) (pa_cons pe_int pa_nil)) pa_nil))))
      (pss_one (ps_fld (pv 0) (pe_callTy call_tuple_of (by rfl) T.m_tuple (by decide +kernel) (pa_cons (pe_lc (own := [("start", 4), ("end", 5)]) (g := gTup K 2 (gCons (gName 4) (gCons (gName 5) gNil))) (tt := tYes) rfl sc_Curve_init.nd (RZ.pi_zipA (by rfl) T.m_zip (pa_cons (pv 3) (pa_cons (pe_slice sl_list (pv 3) (po_some pe_int) po_none) pa_nil))) (blkOk_by (own := [("start", 4), ("end", 5)]) (N := ["self", "chances", "turns", "bounds", "start", "end"]) (sc := defScope s_Curve_init) (by decide +kernel)) (fun _ _ _ _ _ => (pg_tup rfl (pgs_cons (pg_name (i := 4) sc_Curve_init.nd rfl (Or.inl rfl)) (pgs_cons (pg_name (i := 5) sc_Curve_init.nd rfl (Or.inl rfl)) pgs_nil)))) (fun _ _ _ _ _ => pts_nil) (fun _ _ _ _ _ => (pe_call (ok_piece T) (hr.mono (by decide)) (by rfl) T.g_piece T.F_piece.kp T.b_piece .nil passL (pa_cons (pv 1) (pa_cons (pv 2) (pa_cons (pv 4) (pa_cons (pv 5) pa_nil))))))) pa_nil)) rfl)))), ?_⟩
    obtain ⟨n1, n8, ok⟩ := G.len
    have bl := breaks_le G
    have e1000 : (1000 : Nat) ≤ sizeLine := by decide
    refine ⟨_, rfl, c, l, rfl, G, fun p1 ys1 H1 s1 h1 pr1 => ?_⟩
    refine mk_ratio1 fun a2 H2 s2 R2 => ⟨(by show 1 ≤ sizeLine; decide), fun q2 n2 => ?_⟩
    have w2 := same_upd (o := .lst [.ref a2]) n2
    have t2 := s1.trans (s2.trans w2)
    refine ⟨_, rfl, c, l, rfl, G.same t2, fun p3 bs H3 s3 h3 pb => ?_⟩
    have lb := prLen pb
    refine ⟨q2, p3, _, _, rfl, rfl, s3 _ _ upd_same, h3, (by show 1 + bs.length ≤ sizeLine; omega), fun q4 n4 => ?_⟩
    have w4 := same_upd (o := .lst ([.ref a2] ++ bs)) n4
    refine mk_ratio1 fun a5 H5 s5 R5 => ⟨(by show 1 ≤ sizeLine; decide), fun q5 n5 => ?_⟩
    have w5 := same_upd (o := .lst [.ref a5]) n5
    refine ⟨q4, q5, _, _, rfl, rfl, w5 _ _ (s5 _ _ upd_same), upd_same, (by simp only [List.length_append, List.length_singleton]; omega), fun q6 n6 => ?_⟩
    have w6 := same_upd (o := .lst ([.ref a2] ++ bs ++ [.ref a5])) n6
    have t36 := s3.trans (w4.trans (s5.trans (w5.trans w6)))
    have t6 := t2.trans t36
    have pbs : Paired (fun t y => RV T.c_Ratio (upd (upd H5 q5 (.lst [.ref a5])) q6 (.lst ([.ref a2] ++ bs ++ [.ref a5]))) y t) (bndL l) ([.ref a2] ++ bs ++ [.ref a5]) := by
      have p0 : RV T.c_Ratio H2 (.ref a2) 0 := R2
      have p1 : RV T.c_Ratio H5 (.ref a5) 1 := R5
      exact .cons (RV.same p0 (w2.trans t36)) (prApp (prImp (fun _ _ z => RV.same z (w4.trans (s5.trans (w5.trans w6)))) pb) (.cons (RV.same p1 (w5.trans w6)) .nil))
    have h6 : (upd (upd H5 q5 (.lst [.ref a5])) q6 (.lst ([.ref a2] ++ bs ++ [.ref a5]))) q6 = some (.lst ([.ref a2] ++ bs ++ [.ref a5])) := upd_same
    have h16 := (s2.trans (w2.trans t36)) _ _ h1
    have pr6 := prImp (fun _ _ (z : BrT K T.c_Ratio l H1 _ _) => z.sameT (Same.toT (s2.trans (w2.trans t36)))) pr1
    generalize [V.ref a2] ++ bs ++ [V.ref a5] = zs at *
    generalize upd (upd H5 q5 (.lst [.ref a5])) q6 (.lst zs) = H6 at *
    have lz := prLen pbs
    rw [bndL_len] at lz
    refine ⟨_, rfl, _, rfl, 1, rfl, q6, zs, rfl, SqL.of h6, fun q7 n7 => ?_⟩
    have w7 := same_upd (o := .lst (cutV zs (some 1) none)) n7
    have ec : cutV zs (some 1) none = zs.drop 1 := by
      have e1 : HT.sIx zs.length 0 (some 1) = 1 := (HT.sIx_nat zs.length 0 1).trans (by omega)
      have e2 : HT.sIx zs.length zs.length none = zs.length := rfl
      unfold cutV
      rw [e1, e2, List.take_of_length_le (by simp)]
    rw [ec] at w7 ⊢
    refine ⟨q6, q7, _, _, rfl, .inl ⟨SqL.of (w7 _ _ h6), SqL.of upd_same, fun D nD => ?_⟩⟩
    refine lc_itA (walk_zip (K := K) (n := (breaksL l).length + 1) (by rw [List.length_drop]; omega)) (fun i => i) (fun i y H => RowT K T.c_Ratio T.c_Family l H i y) (fun _ _ _ _ e h => h.sameT e) nD (fun H' e => ⟨e.seq (SqL.of (w7 _ _ h6)), e.seq (SqL.of upd_same)⟩) (by omega) ?_ ?_
    · rintro i x Ha Hb kk hi sm ⟨t, y, z, rfl, nt, rfl, hy, hz⟩ g1
      have hz : (zs.drop 1)[i]? = some z := hz
      rw [List.getElem?_drop] at hz
      obtain ⟨b1, eb1, Ry⟩ := prAt pbs hy
      obtain ⟨b2, eb2, Rz⟩ := prAt pbs hz
      rw [bnd_at (by omega)] at eb1
      rw [bnd_at (by omega)] at eb2
      cases eb1
      cases eb2
      have st := sm.trans (same_upd (o := .tup [y, z]) nt)
      have w8 := w7.trans st
      refine ⟨t, _, rfl, .inl (.inl upd_same), rfl, _, _, rfl, _, _, rfl, rfl, rfl, _, rfl, _, rfl, _, rfl, _, rfl, ?_⟩
      refine ⟨c, p1, y, z, l, ys1, i, rfl, G.same (t6.trans w8), SqL.of (w8 _ _ h16), prImp (fun _ _ z => z.sameT (Same.toT w8)) pr6, by omega, RV.same Ry w8, by rw [Nat.add_comm]; exact RV.same Rz w8, fun r Hc sc R => g1 _ _ ((same_upd nt).trans sc) R⟩
    intro H8 rs s8 hD pr
    rw [List.map_id'] at pr
    refine ⟨D, rs, rfl, .inl ⟨SqL.of hD, fun tr ntr => ?_⟩⟩
    have w9 := same_upd (o := .tup rs) ntr
    have t9 := t6.trans (w7.trans (s8.trans w9))
    have ha9 := t9 _ _ ha
    refine ⟨_, rfl, a, T.c_Curve, dx, _, rfl, ha9, T.cl_Curve, T.n_Curve_rows, by decide, ?_⟩
    have ex := exc_at (a := a) (H := upd H8 tr (.tup rs)) (o := .ins T.c_Curve dx (curF tr))
    refine k _ (fun b o hb nb => ex b o nb (t9 _ _ hb)) ⟨a, dx, tr, rs, rfl, upd_same, seqT_exc ha9 ex (.inl (.inl upd_same)), prImp (fun _ _ z => (z.same w9).exc ha9 ex) pr, _, _, G⟩
theorem ok_Curve_call (T : Ctx K mg) : FnOk P w K mg base (L2.CX P w) 11 T.f_Curve_call T.fd_Curve_call ["self", "share"] (spCurCall K T.c_Curve T.c_Chances T.c_Ratio T.c_Family T.c_BadNumber) := by
  refine T.F_Curve_call.okX sc_Curve_call (fun vs H Q E h => ?_) (fun cdv A outer s H vs Q E hr h => ?_)
  · obtain ⟨x, s, l, o, rfl, _⟩ := h
    rfl
  · obtain ⟨x, s, l, o, rfl, U, S, k1, k2⟩ := h
    refine ⟨_, (pss_cons (ps_expr (pe_call (ok_check_share T) (hr.mono (by decide)) (by rfl) T.g_check_share T.F_check_share.kp T.b_check_share .nil (passes_call (takes_of rfl rfl rfl rfl) (fun _ _ _ _ h => h)) (pa_cons (pv 1) pa_nil)))
      (pss_cons (ps_setLc (i := 2) (own := [("row", 3)]) (g := gName 3) (tt := _) rfl sc_Curve_call.nd rfl rfl (sw_true rfl rfl rfl (by decide +kernel)) (pi_tup (pe_fld (pv 0) rfl)) (blkOk_by (own := [("row", 3)]) (N := ["self", "share", "fitting", "row", "slope", "height"]) (sc := defScope s_Curve_call) (by decide +kernel)) (fun _ _ _ _ _ => (pg_name (i := 3) sc_Curve_call.nd rfl (Or.inl rfl))) (fun _ _ _ _ _ => (pts_one (PW.pt (pw_and (pt_cmpR (ownCK (K := K) rfl (op_ownC (fun _ _ => rfl) T.me_Ratio_le.at_ T.me_Ratio_le.fn (ok_Ratio_le T) (hr.mono (by decide)) T.b_Ratio_le pass0)) (pe_ix (ixK_tup (K := K) rfl) (pv 3) pe_int (fun _ _ => rfl)) (pv 1) (nomark _)) (pw_and1 (pt_cmpR (ownCK (K := K) rfl (op_ownC (fun _ _ => rfl) T.me_Ratio_le.at_ T.me_Ratio_le.fn (ok_Ratio_le T) (hr.mono (by decide)) T.b_Ratio_le pass0)) (pv 1) (pe_ix (ixK_tup (K := K) rfl) (pv 3) pe_int (fun _ _ => rfl)) (nomark _))))))) (fun _ _ _ _ _ => (pv 3)))
      (pss_cons (ps_asg (pe_slice sl_tupA (pe_ix ix_list (pv 2) pe_int (fun _ _ => rfl)) (po_some pe_int) (po_some pe_int)) (pg_tup rfl (pgs_cons (pg_name (i := 4) sc_Curve_call.nd rfl (Or.inl rfl)) (pgs_cons (pg_name (i := 5) sc_Curve_call.nd rfl (Or.inl rfl)) pgs_nil))))
      (pss_one (ps_ret (pe_op (op_ownB T.oc_Ratio T.oh_Ratio_add T.me_Ratio_add.fn (ok_Ratio_add T) (hr.mono (by decide)) T.b_Ratio_add pass0) (pv 5) (pe_op (op_ownB T.oc_Ratio T.oh_Ratio_mul T.me_Ratio_mul.fn (ok_Ratio_mul T) (hr.mono (by decide)) T.b_Ratio_mul pass0) (pv 4) (pv 1)))))))), ?_⟩
    refine ⟨_, rfl, s, o, rfl, S, fun ok H1 s1 => ?_, k1⟩
    obtain ⟨r, rfl, okr⟩ := some_of ok
    have S1 := S.same s1
    obtain ⟨a, dx, tr, ys, rfl, ha, h2, h3, H0, c, G⟩ := U.same s1
    obtain ⟨n1, n8, okL⟩ := G.len
    have bl := breaks_le G
    have ly := prLen h3
    rw [List.length_range] at ly
    obtain ⟨r0, r1, _⟩ := share_num okr
    have zr := (share_sz okr).mono (m := 400) (by decide)
    refine ⟨_, rfl, a, T.c_Curve, dx, _, _, rfl, ha, T.cl_Curve, T.n_Curve_rows, curF_rows _, tr, rfl, ⟨_, h2⟩, fun D nD => ?_⟩
    refine lc_itM (walk_tup (K := K) (a := tr) (xs := ys)) (fun i => if (decide (bnd l i ≤ r) && decide (r ≤ bnd l (i + 1))) = true then some i else none) (fun i y H => RowT K T.c_Ratio T.c_Family l H i y) (fun _ _ _ _ e h => h.sameT e) nD (fun H' e => Same.seqT e h2) (by omega) ?_ ?_
    · rintro i x Ha Hb kk N hi sm ⟨rfl, hx⟩ q1 q2
      obtain ⟨j, ej, R⟩ := prAt h3 hx
      rw [List.getElem?_range (by omega)] at ej
      cases ej
      have R := R.same sm
      obtain ⟨t, y1, y2, y3, y4, y5, rfl, hT, R1, R2, R3, R4, F5⟩ := id R
      refine ⟨rfl, _, rfl, t, _, _, _, rfl, rfl, hT, at_of (j := 0) rfl rfl, _, rfl, rv_le T.ic_Ratio R1 (S1.1.same sm) (bnd_sz G (by omega)) zr (by decide) (by decide) fun Hc sc => ⟨_, rfl, ite2 (fun z => ?_) fun z => ?_⟩⟩
      · refine ⟨_, rfl, _, rfl, t, _, _, _, rfl, rfl, Same.seqT sc hT, at_of (j := 1) rfl rfl, rv_le T.ic_Ratio (S1.1.same (sm.trans sc)) (R2.same sc) zr (bnd_sz G (by omega)) (by decide) (by decide) fun Hd sd => ⟨_, rfl, ite2 (fun z2 => ?_) fun z2 => ?_⟩⟩
        · exact ⟨_, rfl, q1 _ _ _ (sc.trans sd) (by rw [z, z2]; rfl) ((R.same sc).same sd)⟩
        · exact q2 _ (sc.trans sd) (by rw [z, show decide (r ≤ bnd l (i + 1)) = false by simpa using z2]; rfl)
      · exact q2 _ sc (by rw [show decide (bnd l i ≤ r) = false by simpa using z]; rfl)
    intro H2 zs s2 hD pz
    rw [ly, filt_map (fun i => decide (bnd l i ≤ r) && decide (r ≤ bnd l (i + 1)))] at pz
    obtain ⟨i0, hi0, e1, e2⟩ := fit_ex r0 (breaksL l).length (by rw [bnd_last]; exact r1)
    have mem : i0 ∈ (List.range ((breaksL l).length + 1)).filter (fun i => decide (bnd l i ≤ r) && decide (r ≤ bnd l (i + 1))) := by
      rw [List.mem_filter, List.mem_range]
      exact ⟨by omega, by rw [decide_eq_true e1, decide_eq_true e2]; rfl⟩
    have all : ∀ i ∈ (List.range ((breaksL l).length + 1)).filter (fun i => decide (bnd l i ≤ r) && decide (r ≤ bnd l (i + 1))), i ≤ (breaksL l).length ∧ bnd l i ≤ r ∧ r ≤ bnd l (i + 1) := fun i hi => by
      rw [List.mem_filter, List.mem_range, Bool.and_eq_true, decide_eq_true_eq, decide_eq_true_eq] at hi
      exact ⟨by omega, hi.2⟩
    generalize (List.range ((breaksL l).length + 1)).filter (fun i => decide (bnd l i ≤ r) && decide (r ≤ bnd l (i + 1))) = fs at *
    have nz : 0 < fs.length := List.length_pos_of_mem mem
    have ei : fs[0]? = some fs[0] := List.getElem?_eq_getElem nz
    obtain ⟨hi, b1, b2⟩ := all _ (List.mem_of_getElem? ei)
    obtain ⟨z, ez, t, y1, y2, y3, y4, y5, rfl, hT, R1, R2, R3, R4, F5⟩ := prAt2 pz ei
    generalize fs[0] = i at *
    have S2 := S1.1.same s2
    refine ⟨_, rfl, D, zs, 0, _, rfl, rfl, SqL.of hD, at_of (j := 0) rfl ez, 2, rfl, 4, rfl, t, _, rfl, hT, fun z => absurd z.1 (by show ¬ (HT.sIx 5 0 (some 2) = 0); decide), fun _ p np => ?_⟩
    have w3 := same_upd (o := .tup (cutV [y1, y2, y3, y4, y5] (some 2) (some 4))) np
    refine ⟨p, [y3, y4], rfl, .inl (.inl upd_same), rfl, _, _, rfl, _, _, rfl, rfl, ?_⟩
    refine ⟨_, rfl, _, rfl, _, rfl, rv_mul (n := 201) (RV.same R3 w3) (RV.same S2 w3) (slope_sz G _) ((share_sz okr).mono (by decide)) (by decide) (by decide) fun v4 H4 s4 R5 => ?_⟩
    refine rv_add (n := 402) (RV.same R4 (w3.trans s4)) R5 ((height_sz G _).mono (by decide)) ((szq_mul (slope_sz G _) ((share_sz okr).mono (by decide))).mono (by decide)) (by decide) (by decide) fun v5 H5 s5 R6 => ?_
    rw [cur_most G.pos okL hi b1 b2 n1 n8] at R6
    exact k2 r rfl okr _ _ (s1.trans (s2.trans (w3.trans (s4.trans s5)))) R6
end
/-! ### each copy alone; one copy more -/
def spEach (K : PySem.W.Frag) (C CB : Addr) : Sp := fun vs H Q E => ∃ c : V, vs = [c] ∧ scalV c = true ∧ (good c (some 1) (some 8) = false → Err CB H E "copies" c) ∧
  ∀ n : Nat, c = .int n → 1 ≤ n → n ≤ 8 → ∀ r H', Same H H' → Fam K C H' r n (upB (eachL n)) → Q r H'
def spWider (K : PySem.W.Frag) (C CB : Addr) : Sp := fun vs H Q E => ∃ (x : V) (n : Nat) (f : Nat → Bool), vs = [x] ∧ Fam K C H x n f ∧ (n < 8 → ∀ r H', Same H H' → Fam K C H' r (n + 1) (wideB n f) → Q r H') ∧ (n = 8 → Err CB H E "copies" (.int 9))
section
variable {P : Program} {w : World} {K : PySem.W.Frag} {mg : Str → Option Value} {base : Heap}
theorem ok_Family_each (T : Ctx K mg) : FnOk P w K mg base (L2.CX P w) 9 T.f_Family_each T.fd_Family_each ["copies"] (spEach K T.c_Family T.c_BadNumber) := by
  refine T.F_Family_each.okX sc_Family_each (fun vs H Q E h => ?_) (fun cdv A outer s H vs Q E hr h => ?_)
  · obtain ⟨c, rfl, _⟩ := h
    rfl
  · obtain ⟨c, rfl, kn, k1, k2⟩ := h
    refine ⟨_, (pss_cons (ps_expr (pe_call (ok_check_copies T) (hr.mono (by decide)) (by rfl) T.g_check_copies T.F_check_copies.kp T.b_check_copies .nil (passes_call (takes_of rfl rfl rfl rfl) (fun _ _ _ _ h => h)) (pa_cons (pv 0) pa_nil)))
      (pss_cons (ps_setLc (i := 1) (own := [("copy", 2)]) (g := gName 2) (tt := tYes) rfl sc_Family_each.nd rfl rfl (sw_true rfl rfl rfl (by decide +kernel)) (pi_range1 (by rfl) T.m_range (pa_cons (pv 0) pa_nil)) (blkOk_by (own := [("copy", 2)]) (N := ["copies", "lots", "copy"]) (sc := defScope s_Family_each) (by decide +kernel)) (fun _ _ _ _ _ => (pg_name (i := 2) sc_Family_each.nd rfl (Or.inl rfl))) (fun _ _ _ _ _ => pts_nil) (fun _ _ _ _ _ => (pe_tup (pa_cons (pv 2) pa_nil))))
      (pss_one (ps_ret (pe_makeS2 T.M_Family (ok_Family_init T) (hr.mono (by decide)) (by rfl) T.gc_Family (passes_call (takes_of rfl rfl rfl rfl) (fun _ _ _ _ h => h)) (pa_cons (pv 0) (StX.pa_star (pv 1) pa_nil))))))), ?_⟩
    refine ⟨_, rfl, c, rfl, kn_scal kn, fun h => ?_, k1⟩
    obtain ⟨n, rfl, n1, n8⟩ := good_copies h
    have h256 := pow_le8 n8
    refine ⟨_, rfl, n, rfl, by omega, by omega, fun D nD => ?_⟩
    rw [Int.toNat_natCast]
    have lo := (plain_each n (by omega) n1).2.2
    refine lc_itA (walk_range (lo := 0) (n := n)) (fun c => 1 <<< c) (fun m y H => Lot K H m y) (fun _ _ _ _ e h => h.sameT e) nD (fun _ _ => trivial) (by omega) ?_ ?_
    · rintro c x H1 H2 k hc s1 ⟨rfl, rfl⟩ h1
      refine ⟨rfl, _, rfl, (by show 1 ≤ sizeLine; decide), fun u nu => h1 _ _ (same_upd nu) ⟨u, rfl, .inl (.inl ?_)⟩⟩
      rw [upd_same]
      unfold lotV
      rw [lo c hc]
      simp
    intro H1 ys s1 hD pr
    have e1 : ∀ m ∈ eachL n, m < 2 ^ n ∧ m ≠ 0 ∧ m < 256 := fun m hm => by
      obtain ⟨c, hc, rfl⟩ := List.mem_map.mp hm
      have hc := List.mem_range.mp hc
      rw [Nat.one_shiftLeft]
      have h2 : 2 ^ c < 2 ^ n := Nat.pow_lt_pow_right (by decide) hc
      have h3 := Nat.two_pow_pos c
      exact ⟨h2, by omega, by omega⟩
    have el := prLen pr
    rw [List.length_map, List.length_range] at el
    refine ⟨_, rfl, _, rfl, D, ys, rfl, .inr (SqL.of hD), ?_⟩
    show ∀ x dx, _
    rw [List.append_nil]
    refine mk_fam (xss := (eachL n).map lotV) n1 n8 (prMapL (prImp (fun m y (h : Lot K H1 m y) => h.arg) pr)) (by omega) (fun z => ?_) (badFrom_lots e1) fun a H2 s2 G => ?_
    · have z := congrArg List.length z
      unfold eachL at z
      rw [List.length_map, List.length_map, List.length_range] at z
      simp at z
      omega
    · rw [masks_lots fun m hm => (e1 m hm).2.2] at G
      exact k2 n rfl n1 n8 _ H2 (s1.trans s2) G
end
section
variable {P : Program} {w : World} {K : PySem.W.Frag} {mg : Str → Option Value} {base : Heap}
theorem ok_l_chances (T : Ctx K mg) : FnOk P w K mg base CX0 2 T.f_l_chances T.fd_l_chances ["_law_script", "_law_state", "_law_most"] (spRaw K) := by
  refine T.F_l_chances.ok sc_l_chances (fun vs H Q E h => ?_) (fun cdv A outer s H vs Q E hr h => ?_)
  · obtain ⟨l, t, M, H0, rfl, _⟩ := h
    rfl
  · obtain ⟨l, t, M, H0, rfl, D, M1, M8, q⟩ := h
    refine ⟨_, (pss_cons (ps_set (i := 3) sc_l_chances.nd rfl (Or.inl rfl) (pe_call (ok_l_draw T) (hr.mono (by decide)) (by rfl) T.g_l_draw T.F_l_draw.kp T.b_l_draw .nil pass0 (pa_cons (pv 0) (pa_cons (pv 1) (pa_cons pe_int pa_nil)))))
      (pss_cons (ps_set (i := 4) sc_l_chances.nd rfl (Or.inl rfl) (pe_lst pa_nil))
      (pss_cons (ps_for PassesOwn.never rfl (pi_range1 (by rfl) T.m_range (pa_cons (pe_op op_add pe_int (pe_call (ok_l_draw T) (hr.mono (by decide)) (by rfl) T.g_l_draw T.F_l_draw.kp T.b_l_draw .nil pass0 (pa_cons (pv 0) (pa_cons (pv 1) (pa_cons (pv 2) pa_nil))))) pa_nil)) (pg_name (i := 5) sc_l_chances.nd rfl (Or.inl rfl))
        (pss_cons (ps_set (i := 6) sc_l_chances.nd rfl (Or.inl rfl) (pe_op op_add pe_int (pe_call (ok_l_draw T) (hr.mono (by decide)) (by rfl) T.g_l_draw T.F_l_draw.kp T.b_l_draw .nil pass0 (pa_cons (pv 0) (pa_cons (pv 1) (pa_cons pe_int pa_nil))))))
        (pss_cons (ps_set (i := 7) sc_l_chances.nd rfl (Or.inl rfl) (pe_op op_fdiv (pe_op op_add (pv 6) pe_int) pe_int))
        (pss_cons (ps_set (i := 8) sc_l_chances.nd rfl (Or.inl rfl) (pe_tup (pa_cons (pe_op op_add (pv 7) (pe_call (ok_l_draw T) (hr.mono (by decide)) (by rfl) T.g_l_draw T.F_l_draw.kp T.b_l_draw .nil pass0 (pa_cons (pv 0) (pa_cons (pv 1) (pa_cons (pe_op op_sub (pv 6) (pv 7)) pa_nil))))) (pa_cons (pv 6) pa_nil))))
        (Evl.pss_cut (ps_if (PW.pt (pw_and (pt_cmpR op_eq (pv 3) pe_int (nomark _)) (pw_and1 (pt_cmpR op_gt (pv 5) pe_int (nomark _)))))
          (pss_one (ps_set (i := 8) sc_l_chances.nd rfl (Or.inl rfl) (pe_ix ix_list (pv 4) pe_int (fun _ _ => rfl))))
          pss_nil)
        (Evl.pss_cut (ps_if (pt_cmpR op_eq (pv 3) pe_int (nomark _))
          (pss_one (ps_set (i := 8) sc_l_chances.nd rfl (Or.inl rfl) (pe_ix ix_list (pe_lst (pa_cons (pe_tup (pa_cons pe_int (pa_cons pe_int pa_nil))) (pa_cons (pe_tup (pa_cons pe_int (pa_cons pe_int pa_nil))) pa_nil))) (pe_call (ok_l_draw T) (hr.mono (by decide)) (by rfl) T.g_l_draw T.F_l_draw.kp T.b_l_draw .nil pass0 (pa_cons (pv 0) (pa_cons (pv 1) (pa_cons pe_int pa_nil)))) (fun _ _ => rfl))))
          pss_nil)
        (pss_one (ps_expr (pe_bm PySem.F.plainAttrs_list PySem.F.slot_list_append PySem.F.type_list_append mt_append (pv 4) (pa_cons (pv 8) pa_nil))))))))))
      (pss_one (ps_ret (pv 4)))))), ?_⟩
    have e100 : (100 : Nat) < sizeLine := by decide
    refine ⟨_, rfl, _, rfl, l, t, 4, H0, rfl, D, by decide, by decide, fun kd H1 a1 a2 b1 D1 => ?_⟩
    refine ⟨(by show 0 ≤ sizeLine; decide), fun p np => ?_⟩
    have D2 := D1.mono (same_upd (o := .lst []) np)
    have npt := D1.ne np
    have npH : H p = none := by
      cases e : H p with
      | none => rfl
      | some o =>
        have := b1 p npt |>.trans e
        rw [np] at this
        cases this
    refine ⟨_, rfl, _, rfl, _, rfl, l, t, M, H0, rfl, D2, by omega, by omega, fun x H3 c1 c2 b3 D3 => ?_⟩
    obtain ⟨n, hn⟩ : ∃ n : Nat, 1 + x = (n : Int) := ⟨(1 + x).toNat, by omega⟩
    have hp3 := b3 _ npt |>.trans (upd_same (H := H1) (o := .lst []))
    have x3 : Exc t H H3 := (b1.exc.trans (exc_upd np)).trans b3.exc
    refine ⟨_, _, rfl, rfl, n, congrArg (fun z => [V.int z]) hn, by omega, by omega, ?_⟩
    rw [Int.toNat_natCast]
    refine for_range (n := n) (fun i σ' H' => Exc t H H' ∧ Drw K H0 l t H' ∧ ∃ rs ys v5 v6 v7 v8, σ' = [some (.ref l), some (.ref t), some (.int M), some (.int kd), some (.ref p), v5, v6, v7, v8] ∧ H' p = some (.lst ys) ∧ Paired (PrT K H') rs ys ∧ rs.length = i ∧ ∀ r ∈ rs, goodR r) ⟨x3, D3, [], [], _, _, _, _, rfl, hp3, .nil, rfl, fun r hr => by cases hr⟩ ?_ ?_
    · rintro i σ' H4 hi ⟨x4, D4, rs, ys, v5, v6, v7, v8, rfl, hp4, pr4, lrs, gd⟩
      have p0 : H0 p = none := D1.same.free np
      refine ⟨_, rfl, _, rfl, l, t, 7, H0, rfl, D4, by decide, by decide, fun x H5 a1 a2 b5 D5 => ?_⟩
      obtain ⟨u, hu⟩ : ∃ u : Int, 2 + x = u := ⟨_, rfl⟩
      refine opN (z := .int u) (congrArg V.int hu) ?_
      refine ⟨_, rfl, _, _, rfl, rfl, _, _, rfl, rfl, ⟨by decide, by decide⟩, ?_⟩
      refine ⟨_, rfl, _, rfl, _, rfl, _, rfl, _, rfl, _, _, rfl, rfl, l, t, _, H0, rfl, D5, by omega, by omega, fun y H6 c1 c2 b6 D6 => ?_⟩
      refine ⟨_, _, rfl, rfl, _, rfl, (by show 2 ≤ sizeLine; decide), fun p7 np7 => ?_⟩
      have s7 := same_upd (o := .tup [V.int ((u + 1) / 2 + y), .int u]) np7
      have st6 := But.t D4 (b5.trans b6)
      have hp6 := (b5.trans b6) _ npt |>.trans hp4
      have pr6 := prImp (fun _ _ (z : PrT K H4 _ _) => z.sameT st6) pr4
      have x6 : Exc t H H6 := x4.trans (b5.trans b6).exc
      have g7 : goodR ((u + 1) / 2 + y, u) := by
        refine ⟨?_, ?_, ?_, ?_⟩
        · show 2 ≤ u; omega
        · show u ≤ 12; omega
        · show (u + 1) / 2 + y < u; omega
        · show u ≤ 2 * ((u + 1) / 2 + y); omega
      have D7 := D6.mono s7
      have hp7 := s7 _ _ hp6
      have pr7 := prImp (fun _ _ (z : PrT K H6 _ _) => z.same s7) pr6
      have x7 := x6.trans (exc_same s7)
      have h7 : SqT K (upd H6 p7 (.tup [V.int ((u + 1) / 2 + y), .int u])) p7 [.int ((u + 1) / 2 + y, u).1, .int ((u + 1) / 2 + y, u).2] := .inl (.inl upd_same)
      generalize upd H6 p7 (.tup [V.int ((u + 1) / 2 + y), .int u]) = H7 at *
      refine ⟨fun σ' H' => H' = H7 ∧ ∃ rc pc, σ' = [some (.ref l), some (.ref t), some (.int M), some (.int kd), some (.ref p), some (.int (0 + (i : Int))), some (.int u), some (.int ((u + 1) / 2)), some (.ref pc)] ∧ goodR rc ∧ SqT K H' pc [.int rc.1, .int rc.2], ?_, ?_⟩
      · refine ⟨_, rfl, rfl, _, rfl, ite2 (fun _ => ?_) fun _ => ⟨rfl, _, p7, rfl, g7, h7⟩⟩
        refine ⟨_, rfl, _, _, rfl, rfl, _, rfl, ite2 (fun z => ?_) fun _ => ⟨rfl, _, p7, rfl, g7, h7⟩⟩
        have z := of_decide_eq_true z
        have er : rs[0]? = some (rs[0]'(by omega)) := List.getElem?_eq_getElem (by omega)
        obtain ⟨y0, ey, p2, rfl, h2⟩ := prAt2 pr7 er
        exact ⟨_, rfl, p, ys, _, _, rfl, rfl, SqL.of hp7, at_of (j := 0) rfl ey, rfl, rs[0], p2, rfl, gd _ (List.mem_of_getElem? er), h2⟩
      rintro σ' H8 ⟨rfl, rc, pc, rfl, gc, hc⟩
      refine ⟨fun σ' H' => Exc t H H' ∧ Drw K H0 l t H' ∧ H' p = some (.lst ys) ∧ Paired (PrT K H') rs ys ∧ ∃ rc pc, σ' = [some (.ref l), some (.ref t), some (.int M), some (.int kd), some (.ref p), some (.int (0 + (i : Int))), some (.int u), some (.int ((u + 1) / 2)), some (.ref pc)] ∧ goodR rc ∧ SqT K H' pc [.int rc.1, .int rc.2], ?_, ?_⟩
      · refine ⟨_, rfl, rfl, _, rfl, ite2 (fun _ => ?_) fun _ => ⟨x7, D7, hp7, pr7, _, pc, rfl, gc, hc⟩⟩
        refine ⟨(by show 2 ≤ sizeLine; decide), fun t1 nt1 => ⟨(by show 2 ≤ sizeLine; decide), fun t2 nt2 => ⟨(by show 2 ≤ sizeLine; decide), fun t3 nt3 => ?_⟩⟩⟩
        have w1 := same_upd (o := .tup [V.int 1, .int 2]) nt1
        have w2 := same_upd (o := .tup [V.int 3, .int 4]) nt2
        have w3 := same_upd (o := .lst [V.ref t1, .ref t2]) nt3
        have w := w1.trans (w2.trans w3)
        have D9 := D7.mono w
        have n3 : t3 ≠ t := (D7.mono (w1.trans w2)).ne nt3
        refine ⟨_, rfl, _, rfl, l, t, 2, H0, rfl, D9, by decide, by decide, fun z H9 e1 e2 b9 D10 => ?_⟩
        have st9 := But.t D9 b9
        have h1 := st9.seqT (K := K) (xs := [V.int 1, .int 2]) (a := t1) (.inl (.inl (w3 _ _ (w2 _ _ upd_same))))
        have h2 := st9.seqT (K := K) (xs := [V.int 3, .int 4]) (a := t2) (.inl (.inl (w3 _ _ upd_same)))
        have h3 : SqL K H9 t3 [V.ref t1, .ref t2] := SqL.of (b9 _ n3 |>.trans upd_same)
        have done : ∀ rc pc, goodR rc → SqT K H9 pc [.int rc.1, .int rc.2] → Exc t H H9 ∧ Drw K H0 l t H9 ∧ H9 p = some (.lst ys) ∧ Paired (PrT K H9) rs ys ∧ ∃ rc' pc', [some (V.ref l), some (.ref t), some (.int M), some (.int kd), some (.ref p), some (.int (0 + (i : Int))), some (.int u), some (.int ((u + 1) / 2)), some (.ref pc)] = [some (.ref l), some (.ref t), some (.int M), some (.int kd), some (.ref p), some (.int (0 + (i : Int))), some (.int u), some (.int ((u + 1) / 2)), some (.ref pc')] ∧ goodR rc' ∧ SqT K H9 pc' [.int rc'.1, .int rc'.2] := fun rc pc g h =>
          ⟨(x7.trans (exc_same w)).trans b9.exc, D10, b9 _ npt |>.trans (w _ _ hp7), prImp (fun _ _ (z : PrT K _ _ _) => (z.same w).sameT st9) pr7, rc, pc, rfl, g, h⟩
        rcases (show z = 0 ∨ z = 1 by omega) with rfl | rfl
        · exact ⟨t3, _, _, _, rfl, rfl, h3, at_of (j := 0) rfl rfl, done (1, 2) t1 ⟨by decide, by decide, by decide, by decide⟩ h1⟩
        · exact ⟨t3, _, _, _, rfl, rfl, h3, at_of (j := 1) rfl rfl, done (3, 4) t2 ⟨by decide, by decide, by decide, by decide⟩ h2⟩
      rintro σ' H9 ⟨x9, D9, hp9, pr9, rc, pc, rfl, gc, hc⟩
      have ly := prLen pr9
      have st : SameT H9 (upd H9 p (.lst (ys ++ [V.ref pc]))) := fun b o e nl => (upd_ne (fun z => by
        subst z
        rw [hp9] at e
        cases e
        exact nl _ rfl)).trans e
      refine ⟨_, rfl, .inl ⟨rfl, _, SqL.of hp9⟩, _, rfl, p, _, _, rfl, rfl, hp9, by omega, ?_⟩
      refine ⟨fun b o nb e => ?_, D9.updN (H := H9) p0 npt, rs ++ [rc], ys ++ [.ref pc], _, _, _, _, rfl, upd_same, prApp (prImp (fun _ _ (z : PrT K H9 _ _) => z.sameT st) pr9) (.cons ⟨pc, rfl, st.seqT hc⟩ .nil), by rw [List.length_append, lrs]; rfl, fun r hr => ?_⟩
      · rw [upd_ne (ne_of_none e npH)]
        exact x9 b o nb e
      · rcases List.mem_append.mp hr with z | z
        · exact gd r z
        · rw [List.mem_singleton.mp z]
          exact gc
    rintro σ' H4 ⟨x4, D4, rs, ys, v5, v6, v7, v8, rfl, hp4, pr4, lrs, gd⟩
    exact ⟨_, rfl, q rs ys p H4 x4 D4 npH hp4 pr4 (by omega) (by omega) gd⟩
theorem ok_l_share (T : Ctx K mg) : FnOk P w K mg base CX0 2 T.f_l_share T.fd_l_share ["_law_script", "_law_state"] (spLShare K) := by
  refine T.F_l_share.ok sc_l_share (fun vs H Q E h => ?_) (fun cdv A outer s H vs Q E hr h => ?_)
  · obtain ⟨l, t, H0, rfl, _⟩ := h
    rfl
  · obtain ⟨l, t, H0, rfl, D, q⟩ := h
    refine ⟨_, (pss_cons (ps_set (i := 2) sc_l_share.nd rfl (Or.inl rfl) (pe_op op_add pe_int (pe_call (ok_l_draw T) (hr.mono (by decide)) (by rfl) T.g_l_draw T.F_l_draw.kp T.b_l_draw .nil pass0 (pa_cons (pv 0) (pa_cons (pv 1) (pa_cons pe_int pa_nil))))))
      (pss_one (ps_ret (pe_tup (pa_cons (pe_call (ok_l_draw T) (hr.mono (by decide)) (by rfl) T.g_l_draw T.F_l_draw.kp T.b_l_draw .nil pass0 (pa_cons (pv 0) (pa_cons (pv 1) (pa_cons (pe_op op_add (pv 2) pe_int) pa_nil)))) (pa_cons (pv 2) pa_nil)))))), ?_⟩
    refine ⟨_, rfl, _, rfl, l, t, 8, H0, rfl, D, by decide, by decide, fun x H1 a1 a2 b1 D1 => ?_⟩
    obtain ⟨u, hu⟩ : ∃ u : Int, 1 + x = u := ⟨_, rfl⟩
    refine opN (z := .int u) (congrArg V.int hu) ?_
    refine ⟨_, rfl, _, rfl, _, rfl, _, _, rfl, rfl, l, t, _, H0, rfl, D1, by omega, by omega, fun y H2 c1 c2 b2 D2 => ?_⟩
    refine ⟨_, rfl, (by show 2 ≤ sizeLine; decide), fun p np => ?_⟩
    refine q (y, u) p _ ⟨?_, ?_, c1, ?_⟩ ((b1.exc.trans b2.exc).trans (exc_upd np)) (D2.mono (same_upd np)) (((b1.trans b2) p (D2.ne np)).symm.trans np) upd_same
    · show 1 ≤ u
      omega
    · show u ≤ 12
      omega
    · show y ≤ u
      omega
theorem ok_l_ratios (T : Ctx K mg) : FnOk P w K mg base CX0 12 T.f_l_ratios T.fd_l_ratios ["_law_chances_here"] (spRatios K T.c_Ratio) := by
  refine T.F_l_ratios.ok sc_l_ratios (fun vs H Q E h => ?_) (fun cdv A outer s H vs Q E hr h => ?_)
  · obtain ⟨p, rs, ys, rfl, _⟩ := h
    rfl
  · obtain ⟨p, rs, ys, rfl, hp, pr, l8, gd, q⟩ := h
    refine ⟨_, (pss_one (ps_ret (pe_lc (own := [("_law_chance", 1)]) (g := gName 1) (tt := tYes) rfl sc_l_ratios.nd (pi_list (pv 0)) (blkOk_by (own := [("_law_chance", 1)]) (N := ["_law_chances_here", "_law_chance"]) (sc := defScope s_l_ratios) (by decide +kernel)) (fun _ _ _ _ _ => (pg_name (i := 1) sc_l_ratios.nd rfl (Or.inl rfl))) (fun _ _ _ _ _ => pts_nil) (fun _ _ _ _ _ => (pe_make T.M_Ratio (ok_Ratio_init T) (hr.mono (by decide)) (by rfl) T.gc_Ratio T.b_Ratio_init2 T.v_Ratio_init2 passL (pa_cons (pe_ix (ixK_tup (K := K) rfl) (pv 1) pe_int (fun _ _ => rfl)) (pa_cons (pe_ix (ixK_tup (K := K) rfl) (pv 1) pe_int (fun _ _ => rfl)) pa_nil))))))), ?_⟩
    have len := prLen pr
    refine ⟨_, rfl, p, rfl, ⟨_, hp⟩, fun D nD => ?_⟩
    refine lc_itA (walk_list (K := K) (a := p) (xs := ys)) (fun i => lowR (rs.getD i (1, 2))) (fun r y H => Rat T.c_Ratio H y r.1 r.2) (fun _ _ _ _ e h => ratT h e) nD (fun H' e => e.seq hp) (by omega) ?_ ?_
    · rintro i x Ha Hb kk hi sm ⟨rfl, hx⟩ h1
      obtain ⟨r, er, p5, rfl, h5⟩ := prAt pr hx
      obtain ⟨g1, g2, g3, g4⟩ := gd r (List.mem_of_getElem? er)
      have h5 := Same.seqT sm h5
      refine ⟨rfl, _, rfl, p5, _, _, _, rfl, rfl, h5, at_of (j := 0) rfl rfl, _, rfl, p5, _, _, _, rfl, rfl, h5, at_of (j := 1) rfl rfl, mk_ratio (by omega) (sz_log (n := 200) (by omega) (by decide) (by decide)) fun a pp qq H6 s6 R nf => ?_⟩
      obtain ⟨rfl, rfl⟩ := low_of (by omega) nf
      refine h1 _ _ s6 ?_
      rw [List.getD_eq_getElem?_getD, er]
      exact R
    intro H' zs sm hD prz
    refine q D zs H' sm hD ?_
    have e : (List.range ys.length).map (fun i => lowR (rs.getD i (1, 2))) = rs.map lowR := by
      rw [len]
      exact range_get lowR (1, 2) rs
    rw [e] at prz
    exact prz
theorem ok_l_power (T : Ctx K mg) : FnOk P w K mg base CX0 1 T.f_l_power T.fd_l_power ["_law_many"] spPower := by
  refine T.F_l_power.ok sc_l_power (fun vs H Q E h => ?_) (fun cdv A outer s H vs Q E hr h => ?_)
  · obtain ⟨n, rfl, _⟩ := h
    rfl
  · obtain ⟨n, rfl, n8, q⟩ := h
    refine ⟨_, (pss_cons (ps_set (i := 1) sc_l_power.nd rfl (Or.inl rfl) pe_int)
      (pss_cons (ps_for PassesOwn.never rfl (pi_range1 (by rfl) T.m_range (pa_cons (pv 0) pa_nil)) (pg_name (i := 2) sc_l_power.nd rfl (Or.inl rfl))
        (pss_one (ps_set (i := 1) sc_l_power.nd rfl (Or.inl rfl) (pe_op op_mul (pv 1) pe_int))))
      (pss_one (ps_ret (pv 1))))), ?_⟩
    refine ⟨_, rfl, _, rfl, by omega, by omega, ?_⟩
    rw [Int.toNat_natCast]
    refine for_range (n := n) (fun i σ' H' => H' = H ∧ ∃ v, σ' = [some (.int n), some (.int ((2 ^ i : Nat) : Int)), v]) ⟨rfl, _, rfl⟩ ?_ ?_
    · rintro i σ' H' hi ⟨rfl, v, rfl⟩
      refine ⟨_, rfl, _, _, rfl, rfl, .inr ⟨by omega, by omega⟩, rfl, some (.int (0 + (i : Int))), ?_⟩
      rw [show ((2 ^ (i + 1) : Nat) : Int) = ((2 ^ i : Nat) : Int) * 2 by rw [Nat.pow_succ, Int.natCast_mul]; rfl]
      rfl
    rintro σ' H' ⟨rfl, v, rfl⟩
    exact ⟨_, rfl, q⟩
theorem ok_l_has (T : Ctx K mg) : FnOk P w K mg base CX0 2 T.f_l_has T.fd_l_has ["_law_code", "_law_copy"] spHas := by
  refine T.F_l_has.ok sc_l_has (fun vs H Q E h => ?_) (fun cdv A outer s H vs Q E hr h => ?_)
  · obtain ⟨m, c, rfl, _⟩ := h
    rfl
  · obtain ⟨m, c, rfl, hm, hc, q⟩ := h
    refine ⟨_, (pss_one (ps_ret (pe_cmpR op_eq (pe_op op_mod (pe_op op_fdivN (pv 0) (pe_call (ok_l_power T) (hr.mono (by decide)) (by rfl) T.g_l_power T.F_l_power.kp T.b_l_power .nil pass0 (pa_cons (pv 1) pa_nil))) pe_int) pe_int (nomark _)))), ?_⟩
    have p1 := Nat.two_pow_pos c
    have p256 := pow_le8 hc
    refine ⟨_, rfl, _, rfl, c, rfl, hc, _, _, rfl, rfl, ⟨by omega, by omega⟩, _, _, rfl, rfl, show (0 : Int) < 2 by decide, rfl, ?_⟩
    have e : decide (V.int (((m : Int).fdiv ((2 ^ c : Nat) : Int)) % 2) = V.int 1) = m.testBit c := by
      rw [Int.fdiv_eq_ediv_of_nonneg _ (by omega), ← Int.natCast_ediv, Nat.testBit_eq_decide_div_mod_eq]
      refine decide_eq_decide.mpr ⟨fun z => ?_, fun z => ?_⟩
      · injection z with z
        omega
      · exact congrArg V.int (by omega)
    show Q (V.bl (decide (V.int (((m : Int).fdiv ((2 ^ c : Nat) : Int)) % 2) = V.int 1))) H
    rw [e]
    exact q
theorem ok_l_lot (T : Ctx K mg) : FnOk P w K mg base CX0 3 T.f_l_lot T.fd_l_lot ["_law_many", "_law_code"] (spALot K) := by
  refine T.F_l_lot.ok sc_l_lot (fun vs H Q E h => ?_) (fun cdv A outer s H vs Q E hr h => ?_)
  · obtain ⟨n, m, rfl, _⟩ := h
    rfl
  · obtain ⟨n, m, rfl, n8, hm, q⟩ := h
    refine ⟨_, (pss_one (ps_ret (pe_callTy call_tuple_of (by rfl) T.m_tuple (by decide +kernel) (pa_cons (pe_lc (own := [("_law_copy", 2)]) (g := gName 2) (tt := _) rfl sc_l_lot.nd (pi_range1 (by rfl) T.m_range (pa_cons (pv 0) pa_nil)) (blkOk_by (own := [("_law_copy", 2)]) (N := ["_law_many", "_law_code", "_law_copy"]) (sc := defScope s_l_lot) (by decide +kernel)) (fun _ _ _ _ _ => (pg_name (i := 2) sc_l_lot.nd rfl (Or.inl rfl))) (fun _ _ _ _ _ => (pts_one (pt_val (pe_call (ok_l_has T) (hr.mono (by decide)) (by rfl) T.g_l_has T.F_l_has.kp T.b_l_has .nil pass0 (pa_cons (pv 1) (pa_cons (pv 2) pa_nil)))))) (fun _ _ _ _ _ => (pv 2))) pa_nil)))), ?_⟩
    have n256 := pow_le8 n8
    refine ⟨_, rfl, _, rfl, by omega, by omega, fun D nD => ?_⟩
    rw [Int.toNat_natCast]
    refine lc_itM (walk_range (lo := 0) (n := n)) (fun c => if m.testBit c = true then some c else none) (fun c y _ => y = V.int (c : Nat)) (fun _ _ _ _ _ h => h) nD (fun _ _ => trivial) (by omega) ?_ ?_
    · rintro c x Ha Hb kk N hi sm ⟨rfl, rfl⟩ q1 q2
      refine ⟨rfl, _, rfl, _, rfl, m, c, (by show [V.int ↑m, V.int (0 + (c : Int))] = [V.int ↑m, V.int ↑c]; rw [Int.zero_add]), by omega, by omega, m.testBit c, rfl, ?_⟩
      cases e : m.testBit c with
      | true => exact iteT ⟨_, rfl, q1 _ _ _ (Same.refl _) (by rw [e] <;> rfl) (by show V.int (0 + (c : Int)) = V.int (c : Nat); rw [Int.zero_add])⟩
      | false => exact iteF (q2 _ (Same.refl _) (by rw [e] <;> rfl))
    intro H' ys sm hD pr
    have e1 : (List.range n).filterMap (fun c => if m.testBit c = true then some c else none) = oneL m := by
      rw [oneL_n n8 hm]
      have := range_filterM (fun c => m.testBit c) (fun c => c) n
      rw [List.map_id'] at this
      exact this
    rw [e1] at pr
    have e2 : ys = lotV m := by
      have := paired_fn (prUnmapL (f := fun c => c) (by rw [List.map_id']; exact pr))
      rw [this]
      unfold lotV lotL
      rw [List.map_map]
      rfl
    rw [e2] at hD
    exact ⟨D, _, rfl, .inl ⟨SqL.of hD, fun p np => q p _ (sm.trans (same_upd np)) (.inl (.inl upd_same))⟩⟩
theorem ok_l_made (T : Ctx K mg) : FnOk P w K mg base CX0 14 T.f_l_made T.fd_l_made ["_law_chances_here"] (spMade K T.c_Chances T.c_Ratio) := by
  refine T.F_l_made.ok sc_l_made (fun vs H Q E h => ?_) (fun cdv A outer s H vs Q E hr h => ?_)
  · obtain ⟨p, rs, ys, rfl, _⟩ := h
    rfl
  · obtain ⟨p, rs, ys, rfl, hp, pr, n1, n8, gd, q⟩ := h
    refine ⟨_, (pss_cons (ps_set (i := 1) sc_l_made.nd rfl (Or.inl rfl) (pe_call (ok_l_ratios T) (hr.mono (by decide)) (by rfl) T.g_l_ratios T.F_l_ratios.kp T.b_l_ratios .nil pass0 (pa_cons (pv 0) pa_nil)))
      (pss_cons (ps_set (i := 2) sc_l_made.nd rfl (Or.inl rfl) (StX.pe_makeR T.M_Chances (ok_Chances_init T) (hr.mono (by decide)) (by rfl) T.gc_Chances passL (pa_cons (pe_ix ix_list (pv 1) pe_int (fun _ _ => rfl)) pa_nil)))
      (pss_cons (ps_for PassesOwn.never rfl (pi_list (pe_slice sl_list (pv 1) (po_some pe_int) po_none)) (pg_name (i := 3) sc_l_made.nd rfl (Or.inl rfl))
        (pss_one (ps_set (i := 2) sc_l_made.nd rfl (Or.inl rfl) (pe_op (op_ownB T.oc_Chances T.oh_Chances_add T.me_Chances_add.fn (ok_Chances_add T) (hr.mono (by decide)) T.b_Chances_add passL) (pv 2) (StX.pe_makeR T.M_Chances (ok_Chances_init T) (hr.mono (by decide)) (by rfl) T.gc_Chances passL (pa_cons (pv 3) pa_nil))))))
      (pss_one (ps_ret (pv 2)))))), ?_⟩
    refine ⟨_, rfl, p, rs, ys, rfl, hp, pr, n8, gd, fun q0 zs H1 s1 hq prz => ?_⟩
    have okL : ∀ x ∈ rs.map lowR, chanceOk x.1 x.2 = true := fun x hx => by
      obtain ⟨r, hr, rfl⟩ := List.mem_map.mp hx
      exact low_ok (gd r hr)
    have lL : (rs.map lowR).length = rs.length := List.length_map _
    generalize rs.map lowR = L at *
    obtain ⟨r0, rr, rfl⟩ : ∃ r0 rr, L = r0 :: rr := List.exists_cons_of_ne_nil (by intro z; rw [z] at lL; simp at lL; omega)
    cases prz with
    | @cons _ z0 _ zr h0 prz =>
    refine ⟨_, rfl, q0, _, _, _, rfl, rfl, SqL.of hq, at_of (j := 0) rfl rfl, ?_⟩
    refine mk_chs (l := [r0]) (.cons h0 .nil) (fun r hr => by rw [List.mem_singleton.mp hr]; exact okL r0 List.mem_cons_self) (by simp) (by simp) fun v H2 s2 G2 => ?_
    have t2 := s1.trans s2
    have hq2 := s2 _ _ hq
    refine ⟨_, rfl, _, rfl, q0, _, rfl, SqL.of hq2, fun q3 n3 => ?_⟩
    rw [cut_one]
    have s3 := same_upd (o := .lst zr) n3
    have t3 := t2.trans s3
    have len := prLen prz
    refine ⟨q3, rfl, ⟨_, SqL.of upd_same⟩, for_list (K := K) (a := q3) (xs := zr) (fun i σ' H' => Same H1 H' ∧ Same H H' ∧ H' q3 = some (.lst zr) ∧ ∃ v o, σ' = [some (.ref p), some (.ref q0), some v, o] ∧ Chs K T.c_Chances T.c_Ratio H' v (r0 :: rr.take i))
      ⟨s2.trans s3, t3, upd_same, _, _, rfl, G2.same s3⟩ (fun i σ' H' _ h => SqL.of h.2.2.1) ?_ ?_⟩
    · rintro i x σ' H4 hx ⟨w4, s4, h4, v, o, rfl, G4⟩
      obtain ⟨r, er, R⟩ := prAt prz hx
      have R := Rat.same R w4
      have li := List.getElem?_eq_some_iff.mp er |>.1
      refine ⟨_, rfl, _, rfl, mk_chs (l := [r]) (.cons R .nil) (fun r' hr => by rw [List.mem_singleton.mp hr]; exact okL r (List.mem_cons_of_mem _ (List.mem_of_getElem? er))) (by simp) (by simp) fun v7 H7 s7 G7 => ?_⟩
      simp only [List.length_cons] at lL
      refine ch_add (G4.same s7) G7 (by simp; omega) fun w8 H8 s8 G8 => ?_
      have t8 := s7.trans s8
      refine ⟨w4.trans t8, s4.trans t8, t8 _ _ h4, _, _, rfl, ?_⟩
      rw [List.take_add_one, er]
      exact G8
    rintro σ' H4 ⟨w4, s4, h4, v, o, rfl, G4⟩
    rw [len, List.take_length] at G4
    exact ⟨_, rfl, q _ _ s4 G4⟩
theorem ok_l_some_family (T : Ctx K mg) : FnOk P w K mg base CX0 12 T.f_l_some_family T.fd_l_some_family ["_law_script", "_law_state", "_law_many"] (spSomeF K T.c_Family) := by
  refine T.F_l_some_family.ok sc_l_some_family (fun vs H Q E h => ?_) (fun cdv A outer s H vs Q E hr h => ?_)
  · obtain ⟨l, t, n, H0, rfl, _⟩ := h
    rfl
  · obtain ⟨l, t, n, H0, rfl, D, n1, n8, q⟩ := h
    refine ⟨_, (pss_cons (ps_set (i := 3) sc_l_some_family.nd rfl (Or.inl rfl) (pe_op op_add pe_int (pe_call (ok_l_draw T) (hr.mono (by decide)) (by rfl) T.g_l_draw T.F_l_draw.kp T.b_l_draw .nil pass0 (pa_cons (pv 0) (pa_cons (pv 1) (pa_cons (pe_op op_sub (pe_call (ok_l_power T) (hr.mono (by decide)) (by rfl) T.g_l_power T.F_l_power.kp T.b_l_power .nil pass0 (pa_cons (pv 2) pa_nil)) pe_int) pa_nil))))))
      (pss_cons (ps_set (i := 4) sc_l_some_family.nd rfl (Or.inl rfl) (StX.pe_makeR T.M_Family (ok_Family_init T) (hr.mono (by decide)) (by rfl) T.gc_Family passL (pa_cons (pv 2) (pa_cons (pe_call (ok_l_lot T) (hr.mono (by decide)) (by rfl) T.g_l_lot T.F_l_lot.kp T.b_l_lot .nil pass0 (pa_cons (pv 2) (pa_cons (pv 3) pa_nil))) pa_nil))))
      (pss_cons (ps_for PassesOwn.never rfl (pi_range1 (by rfl) T.m_range (pa_cons (pe_call (ok_l_draw T) (hr.mono (by decide)) (by rfl) T.g_l_draw T.F_l_draw.kp T.b_l_draw .nil pass0 (pa_cons (pv 0) (pa_cons (pv 1) (pa_cons pe_int pa_nil)))) pa_nil)) (pg_name (i := 5) sc_l_some_family.nd rfl (Or.inl rfl))
        (pss_one (ps_set (i := 4) sc_l_some_family.nd rfl (Or.inl rfl) (pe_op (op_ownB T.oc_Family T.oh_Family_or T.me_Family_or.fn (ok_Family_or T) (hr.mono (by decide)) T.b_Family_or passL) (pv 4) (StX.pe_makeR T.M_Family (ok_Family_init T) (hr.mono (by decide)) (by rfl) T.gc_Family passL (pa_cons (pv 2) (pa_cons (pe_call (ok_l_lot T) (hr.mono (by decide)) (by rfl) T.g_l_lot T.F_l_lot.kp T.b_l_lot .nil pass0 (pa_cons (pv 2) (pa_cons (pe_op op_add pe_int (pe_call (ok_l_draw T) (hr.mono (by decide)) (by rfl) T.g_l_draw T.F_l_draw.kp T.b_l_draw .nil pass0 (pa_cons (pv 0) (pa_cons (pv 1) (pa_cons (pe_op op_sub (pe_call (ok_l_power T) (hr.mono (by decide)) (by rfl) T.g_l_power T.F_l_power.kp T.b_l_power .nil pass0 (pa_cons (pv 2) pa_nil)) pe_int) pa_nil))))) pa_nil))) pa_nil)))))))
      (pss_one (ps_ret (pv 4)))))), ?_⟩
    have n256 := pow_le8 n8
    have p2 : 2 ≤ 2 ^ n := Nat.pow_le_pow_right (n := 2) (i := 1) (by decide) n1
    refine ⟨_, rfl, _, rfl, _, rfl, n, rfl, n8, _, _, rfl, rfl, l, t, _, H0, rfl, D, by omega, by omega, fun x H1 a1 a2 b1 D1 => ?_⟩
    obtain ⟨m, hm⟩ : ∃ m : Nat, 1 + x = (m : Int) := ⟨(1 + x).toNat, by omega⟩
    refine opN (z := .int m) (congrArg V.int hm) ?_
    have m1 : 0 < m ∧ m < 2 ^ n := by omega
    have famOf : ∀ {H' : Hp} {m : Nat} {p : Addr} {Q : Addr → Hp → Prop} {E : XK}, 0 < m → m < 2 ^ n → SqT K H' p (lotV m) → (∀ a H2, Same H' H2 → Fam K T.c_Family H2 (.ref a) n (upB [m]) → Q a H2) → ∀ x dx, H' x = none → H' dx = none → dx ≠ x → spStar 2 (spFam0 K T.c_Family T.c_BadNumber T.c_BadLot) (.ref x :: (.int n :: [V.ref p])) (upd (upd H' dx (.own x)) x (.ins T.c_Family dx [])) (fun v H2 => v = .non ∧ Q x H2) E := fun {H' m p Q E} h1 h2 hp k =>
      mk_fam (xss := [lotV m]) n1 n8 (.cons (Lot.arg ⟨p, rfl, hp⟩) .nil) (by show 1 ≤ 1000; decide) (by simp) (badFrom_lots (ms := [m]) fun x hx => by rw [List.mem_singleton.mp hx]; exact ⟨h2, by omega, by omega⟩) fun a H2 s2 F => by
        rw [show [lotV m].map maskV = [m] from by rw [List.map_cons, mask_lotV (by omega)] <;> rfl] at F
        exact k a H2 s2 F
    refine ⟨_, rfl, _, rfl, _, rfl, n, m, rfl, n8, m1.2, fun p3 H3 s3 hp3 => famOf m1.1 m1.2 hp3 fun a4 H4 s4 F4 => ?_⟩
    have D4 := D1.mono (s3.trans s4)
    have x4 : Exc t H H4 := b1.exc.trans (exc_same (s3.trans s4))
    refine ⟨_, rfl, _, rfl, l, t, 4, H0, rfl, D4, by decide, by decide, fun z H5 c1 c2 b5 D5 => ?_⟩
    refine ⟨z, rfl, by omega, by omega, ?_⟩
    refine for_range (n := z.toNat) (fun i σ' H' => Exc t H H' ∧ Drw K H0 l t H' ∧ ∃ v f v5, σ' = [some (.ref l), some (.ref t), some (.int n), some (.int m), some v, v5] ∧ Fam K T.c_Family H' v n f) ⟨x4.trans b5.exc, D5, _, _, _, rfl, F4.sameT (But.t D4 b5)⟩ ?_ ?_
    · rintro i σ' H6 hi ⟨x6, D6, v, f, v5, rfl, F6⟩
      refine ⟨_, rfl, _, rfl, _, rfl, _, rfl, _, rfl, _, rfl, n, rfl, n8, _, _, rfl, rfl, l, t, _, H0, rfl, D6, by omega, by omega, fun y H7 e1 e2 b7 D7 => ?_⟩
      obtain ⟨m', hm'⟩ : ∃ m : Nat, 1 + y = (m : Int) := ⟨(1 + y).toNat, by omega⟩
      refine ⟨_, _, rfl, rfl, n, m', (by show [V.int ↑n, V.int (1 + y)] = [V.int ↑n, V.int ↑m']; rw [hm']), n8, by omega, fun p8 H8 s8 hp8 => famOf (by omega) (by omega) hp8 fun a9 H9 s9 F9 => ?_⟩
      have t9 := s8.trans s9
      refine fam_or ((F6.sameT (But.t D6 b7)).same t9) F9 fun v10 H10 s10 F10 => ?_
      exact ⟨(x6.trans b7.exc).trans (exc_same (t9.trans s10)), D7.mono (t9.trans s10), _, _, _, rfl, F10⟩
    rintro σ' H6 ⟨x6, D6, v, f, v5, rfl, F6⟩
    exact ⟨_, rfl, q v f H6 x6 D6 F6⟩
end

theorem rL_rv {CR p q : Addr} {H : Hp} {ds : List Qr} {ys zs : List V} {g : Bool → Bool} {Q : VK} (hp : H p = some (.lst ys)) (hq : H q = some (.lst zs)) (h : Paired (fun t y => RV CR H y t) ds ys) (h' : Paired (fun t y => RV CR H y t) ds zs) (k : ∀ H', Same H H' → Q (.bl (g true)) H') : rCmpB (DLstB (DIt CR)) g (.ref p) (.ref q) H Q := by
  have l1 := prLen h
  have l2 := prLen h'
  refine ⟨true, ⟨p, q, ys, zs, fun _ => true, rfl, rfl, hp, hq, by omega, fun j x y h1 h2 => ?_, ?_⟩, k⟩
  · obtain ⟨b1, e1, R1⟩ := prAt h h1
    obtain ⟨b2, e2, R2⟩ := prAt h' h2
    cases e1.symm.trans e2
    exact .inr ⟨_, _, _, _, R1, R2, by simp⟩
  · rw [allB_len (by omega)]
    simp
def spBrkH (K : PySem.W.Frag) (C CR : Addr) : Sp := fun vs H Q _ => ∃ c l, vs = [c] ∧ Chs K C CR H c l ∧ ∀ H', Same H H' → Q (.bl true) H'
def spLaw (K : PySem.W.Frag) : Sp := fun vs H Q _ => ∃ (a : Addr) (ns : List Int), vs = [.ref a] ∧ SqL K H a (ns.map V.int) ∧ ns.length ≤ 63 ∧ ∀ H', Q (.bl true) H'
section
variable {P : Program} {w : World} {K : PySem.W.Frag} {mg : Str → Option Value} {base : Heap}
theorem ok_l_breaks_hold (T : Ctx K mg) : FnOk P w K mg base CX0 12 T.f_l_breaks_hold T.fd_l_breaks_hold ["_law_chances_here"] (spBrkH K T.c_Chances T.c_Ratio) := by
  refine T.F_l_breaks_hold.ok sc_l_breaks_hold (fun vs H Q E h => ?_) (fun cdv A outer s H vs Q E hr h => ?_)
  · obtain ⟨c, l, rfl, _⟩ := h
    rfl
  · obtain ⟨c, l, rfl, G, q⟩ := h
    refine ⟨_, (pss_cons (ps_set (i := 1) sc_l_breaks_hold.nd rfl (Or.inr rfl) (pe_call (ok_breaks T) (hr.mono (by decide)) (by rfl) T.g_breaks T.F_breaks.kp T.b_breaks .nil passL (pa_cons (pv 0) pa_nil)))
      (pss_cons (ps_if (pt_cmpR (op_cmpB (fun _ _ => rfl) (rcB_lstN mon_it (eqB_it (ok_Ratio_eq T) T.me_Ratio_eq.at_ T.me_Ratio_eq.fn T.b_Ratio_eq pass0)) (hr.mono (by decide))) (pe_lc (own := [("_law_share_here", 2)]) (g := gName 2) (tt := tYes) rfl sc_l_breaks_hold.nd (pi_list (pe_revL (pv 1))) (blkOk_by (own := [("_law_share_here", 2)]) (N := ["_law_chances_here", "_law_found", "_law_share_here", "_law_k"]) (sc := defScope s_l_breaks_hold) (by decide +kernel)) (fun _ _ _ _ _ => (pg_name (i := 2) sc_l_breaks_hold.nd rfl (Or.inl rfl))) (fun _ _ _ _ _ => pts_nil) (fun _ _ _ _ _ => (pe_op (op_ownR T.oc_Ratio PySem.F.slot_int_sub PySem.F.entry_int_sub PySem.F.args_int_sub_2 slotargs_sub PySem.F.fills_int_sub T.oh_Ratio_sub T.oh_Ratio_rsub T.me_Ratio_rsub.fn (ok_Ratio_rsub T) (hr.mono (by decide)) T.b_Ratio_rsub pass0) pe_int (pv 2)))) (pv 1) (nomark _))
        (pss_one (ps_ret pe_bl))
        pss_nil)
      (pss_one (ps_ret (pe_callB (cr_all rfl) (by rfl) T.m_all (by decide +kernel) (pa_cons (pe_lc (own := [("_law_k", 3)]) (g := gName 3) (tt := tYes) rfl sc_l_breaks_hold.nd (pi_range1 (by rfl) T.m_range (pa_cons (pe_op op_sub (pe_callB call_len_seq (by rfl) T.m_len (by decide +kernel) (pa_cons (pv 1) pa_nil)) pe_int) pa_nil)) (blkOk_by (own := [("_law_k", 3)]) (N := ["_law_chances_here", "_law_found", "_law_share_here", "_law_k"]) (sc := defScope s_l_breaks_hold) (by decide +kernel)) (fun _ _ _ _ _ => (pg_name (i := 3) sc_l_breaks_hold.nd rfl (Or.inl rfl))) (fun _ _ _ _ _ => pts_nil) (fun _ _ _ _ _ => (pe_cmpR (ownCK (K := K) rfl (op_ownC (fun _ _ => rfl) T.me_Ratio_lt.at_ T.me_Ratio_lt.fn (ok_Ratio_lt T) (hr.mono (by decide)) T.b_Ratio_lt pass0)) (pe_ix (ixK_list (K := K) rfl) (pv 1) (pv 3) (fun _ _ => rfl)) (pe_ix (ixK_list (K := K) rfl) (pv 1) (pe_op op_add (pv 3) pe_int) (fun _ _ => rfl)) (nomark _)))) pa_nil)))))), ?_⟩
    obtain ⟨n1, n8, ok⟩ := G.len
    have bl := breaks_le G
    refine ⟨_, rfl, c, l, rfl, G, fun p bs H1 s1 h1 pb => ?_⟩
    have lb := prLen pb
    refine ⟨_, rfl, p, bs, rfl, SqL.of h1, fun p2 np2 => ?_⟩
    have s2 := same_upd (o := .lst bs.reverse) np2
    refine ⟨p2, rfl, ⟨_, SqL.of upd_same⟩, fun D nD => ?_⟩
    have one : Szq 400 (((1 : Int)) : Qr) := (z200 1 (by decide)).mono (by decide)
    have sz : ∀ b, b ∈ breaksL l → Szq 400 b := fun b hb => by
      obtain ⟨m, hm, rfl⟩ := (breaks_mem l b).mp hb
      have hm' := midL_iff.mp hm
      exact break_sz G (by omega)
    have pr : Paired (fun t y => RV T.c_Ratio H1 y t) (breaksL l).reverse bs.reverse := by
      have rev : ∀ {xs : List Qr} {ys : List V}, Paired (fun t y => RV T.c_Ratio H1 y t) xs ys → Paired (fun t y => RV T.c_Ratio H1 y t) xs.reverse ys.reverse := fun {xs ys} h => by
        induction h with
        | nil => exact .nil
        | cons a _ ih => rw [List.reverse_cons, List.reverse_cons]; exact prApp ih (.cons a .nil)
      exact rev pb
    have lr := prLen pr
    refine lc_itA (walk_list (K := K) (a := p2) (xs := bs.reverse)) (fun i => 1 - (breaksL l).reverse.getD i 0) (fun t y H => RV T.c_Ratio H y t) (fun _ _ _ _ e h => ratT h e) nD (fun H' e => e.seq (SqL.of upd_same)) (by rw [List.length_reverse]; omega) ?_ ?_
    · rintro i x Ha Hb kk hi sm ⟨rfl, hx⟩ g1
      obtain ⟨b, eb, R⟩ := prAt pr hx
      have R := RV.same R (s2.trans sm)
      refine ⟨rfl, _, rfl, rv_rsub (n := 400) R one (sz b (List.mem_reverse.mp (List.mem_of_getElem? eb))) (by decide) (by decide) fun v Hc sc Rv => g1 _ _ sc ?_⟩
      rw [List.getD_eq_getElem?_getD, eb]
      exact Rv
    intro H3 cs s3 hD3 pc
    have ec : (List.range bs.reverse.length).map (fun i => 1 - (breaksL l).reverse.getD i 0) = breaksL l := by
      refine List.ext_getElem? fun i => ?_
      have eL : (breaksL l).reverse.length = bs.reverse.length := lr.symm
      have e2 := congrArg (fun z => z[i]?) (breaks_oth G.pos ok)
      rw [← e2]
      show _ = ((breaksL l).reverse.map (fun b => 1 - b))[i]?
      by_cases h : i < bs.reverse.length
      · rw [List.getElem?_map, List.getElem?_range h, List.getElem?_map, Option.map_some, List.getD_eq_getElem?_getD, List.getElem?_eq_getElem (by omega)]
        rfl
      · rw [List.getElem?_eq_none (by simpa using h), List.getElem?_eq_none (by rw [List.length_map]; omega)]
    rw [ec] at pc
    have t3 := s2.trans s3
    refine ⟨_, rfl, rL_rv hD3 (t3 _ _ h1) pc (prImp (fun _ _ z => RV.same z t3) pb) fun H4 s4 => ⟨_, rfl, iteF ?_⟩⟩
    have t4 := t3.trans s4
    have h4 := t4 _ _ h1
    have pb4 := prImp (fun _ _ (z : RV T.c_Ratio H1 _ _) => z.same t4) pb
    refine ⟨_, rfl, p, bs, rfl, .inl (SqL.of h4), _, _, rfl, rfl, _, rfl, by omega, by omega, fun D5 nD5 => ?_⟩
    refine lc_itA (walk_range (lo := 0) (n := (((bs.length : Nat) : Int) - 1).toNat)) (fun _ => V.bl true) (fun a y _ => y = a) (fun _ _ _ _ _ h => h) nD5 (fun _ _ => trivial) (by omega) ?_ ?_
    · rintro i x Ha Hb kk hi sm ⟨rfl, rfl⟩ g1
      have hb := sm _ _ h4
      obtain ⟨b1, eb1⟩ : ∃ b, (breaksL l)[i]? = some b := ⟨(breaksL l)[i]'(by omega), List.getElem?_eq_getElem _⟩
      obtain ⟨b2, eb2⟩ : ∃ b, (breaksL l)[i + 1]? = some b := ⟨(breaksL l)[i + 1]'(by omega), List.getElem?_eq_getElem _⟩
      obtain ⟨y1, ey1, R1⟩ := prAt2 pb4 eb1
      obtain ⟨y2, ey2, R2⟩ := prAt2 pb4 eb2
      have lt : b1 < b2 := by
        obtain ⟨g1, g2⟩ := List.getElem?_eq_some_iff.mp eb1
        obtain ⟨g3, g4⟩ := List.getElem?_eq_some_iff.mp eb2
        have := (List.pairwise_iff_getElem.mp (breaks_asc l)) i (i + 1) g1 g3 (by omega)
        rwa [g2, g4] at this
      refine ⟨rfl, _, rfl, _, rfl, p, bs, _, y1, rfl, rfl, SqL.of hb, atI0 ey1, _, rfl, _, rfl, _, _, rfl, rfl, p, bs, _, y2, rfl, rfl, SqL.of hb, at_of (j := i + 1) (by omega) ey2, rv_lt T.ic_Ratio (RV.same R1 sm) (RV.same R2 sm) (sz b1 (List.mem_of_getElem? eb1)) (sz b2 (List.mem_of_getElem? eb2)) (by decide) (by decide) fun Hc sc => g1 _ _ sc ?_⟩
      rw [decide_eq_true lt]
    intro H6 es s6 hD6 pe
    have ee := paired_fn (prUnmapL pe)
    refine ⟨D5, (List.range (((bs.length : Nat) : Int) - 1).toNat).map (fun _ => true), rfl, ?_, ?_⟩
    · rw [List.map_map]
      rw [ee] at hD6
      exact SqL.of hD6
    · rw [show ((List.range (((bs.length : Nat) : Int) - 1).toNat).map (fun _ => true)).all id = true by simp]
      exact q _ (s1.trans (t4.trans s6))
theorem ok_law (T : Ctx K mg) : FnOk P w K mg base CX0 20 T.f_law T.fd_law ["_law_script"] (spLaw K) := by
  refine T.F_law.ok sc_law (fun vs H Q E h => ?_) (fun cdv A outer s H vs Q E hr h => ?_)
  · obtain ⟨a, ns, rfl, _⟩ := h
    rfl
  · obtain ⟨l, ns, rfl, hS, hlen, q⟩ := h
    refine ⟨_, (pss_cons (ps_set (i := 1) sc_law.nd rfl (Or.inl rfl) (pe_call (ok_l_start T) (hr.mono (by decide)) (by rfl) T.g_l_start T.F_l_start.kp T.b_l_start .nil pass0 (pa_cons (pv 0) pa_nil)))
      (pss_cons (ps_set (i := 2) sc_law.nd rfl (Or.inl rfl) (pe_call (ok_l_chances T) (hr.mono (by decide)) (by rfl) T.g_l_chances T.F_l_chances.kp T.b_l_chances .nil pass0 (pa_cons (pv 0) (pa_cons (pv 1) (pa_cons pe_int pa_nil)))))
      (pss_cons (ps_set (i := 3) sc_law.nd rfl (Or.inl rfl) (pe_callB call_len_seq (by rfl) T.m_len (by decide +kernel) (pa_cons (pv 2) pa_nil)))
      (pss_cons (ps_set (i := 4) sc_law.nd rfl (Or.inl rfl) (pe_call (ok_l_made T) (hr.mono (by decide)) (by rfl) T.g_l_made T.F_l_made.kp T.b_l_made .nil pass0 (pa_cons (pv 2) pa_nil)))
      (pss_cons (ps_set (i := 5) sc_law.nd rfl (Or.inl rfl) (pe_call (ok_l_share T) (hr.mono (by decide)) (by rfl) T.g_l_share T.F_l_share.kp T.b_l_share .nil pass0 (pa_cons (pv 0) (pa_cons (pv 1) pa_nil))))
      (pss_cons (ps_set (i := 6) sc_law.nd rfl (Or.inl rfl) (pe_make T.M_Ratio (ok_Ratio_init T) (hr.mono (by decide)) (by rfl) T.gc_Ratio T.b_Ratio_init2 T.v_Ratio_init2 passL (pa_cons (pe_ix ix_tup (pv 5) pe_int (fun _ _ => rfl)) (pa_cons (pe_ix ix_tup (pv 5) pe_int (fun _ _ => rfl)) pa_nil))))
      (pss_cons (ps_set (i := 7) sc_law.nd rfl (Or.inl rfl) (pe_op (op_ownR T.oc_Ratio PySem.F.slot_int_sub PySem.F.entry_int_sub PySem.F.args_int_sub_2 slotargs_sub PySem.F.fills_int_sub T.oh_Ratio_sub T.oh_Ratio_rsub T.me_Ratio_rsub.fn (ok_Ratio_rsub T) (hr.mono (by decide)) T.b_Ratio_rsub pass0) pe_int (pv 6)))
      (pss_cons (ps_if (pt_cmpR (op_ownNe T.oc_Ratio T.me_Ratio_eq.at_ T.me_Ratio_eq.fn (ok_Ratio_eq T) (hr.mono (by decide)) T.b_Ratio_eq pass0) (pe_call (ok_most_worth T) (hr.mono (by decide)) (by rfl) T.g_most_worth T.F_most_worth.kp T.b_most_worth .nil passL (pa_cons (pv 4) (pa_cons (pv 6) pa_nil))) (pe_call (ok_most_worth T) (hr.mono (by decide)) (by rfl) T.g_most_worth T.F_most_worth.kp T.b_most_worth .nil passL (pa_cons (pv 4) (pa_cons (pv 7) pa_nil))) (nomark _))
        (pss_one (ps_ret pe_bl))
        pss_nil)
      (pss_cons (ps_set (i := 8) sc_law.nd rfl (Or.inl rfl) (pe_call (ok_least_writes T) (hr.mono (by decide)) (by rfl) T.g_least_writes T.F_least_writes.kp T.b_least_writes .nil passL (pa_cons (pv 4) (pa_cons (pv 6) pa_nil))))
      (pss_cons (ps_set (i := 9) sc_law.nd rfl (Or.inl rfl) (pe_call (ok_greatest_writes T) (hr.mono (by decide)) (by rfl) T.g_greatest_writes T.F_greatest_writes.kp T.b_greatest_writes .nil passL (pa_cons (pv 4) (pa_cons (pv 6) pa_nil))))
      (Evl.pss_cut (ps_if (PW.pt (pw_or (pt_cmpR (op_ownNe T.oc_Family T.me_Family_eq.at_ T.me_Family_eq.fn (ok_Family_eq T) (hr.mono (by decide)) T.b_Family_eq pass0) (pe_meth0 (pv 8) T.cl_Family T.me_Family_dual (ok_Family_dual T) (hr.mono (by decide)) T.b_Family_dual .nil pass0) (pe_call (ok_greatest_writes T) (hr.mono (by decide)) (by rfl) T.g_greatest_writes T.F_greatest_writes.kp T.b_greatest_writes .nil passL (pa_cons (pv 4) (pa_cons (pv 7) pa_nil))) (nomark _)) (pw_or1 (pt_cmpR (op_ownNe T.oc_Family T.me_Family_eq.at_ T.me_Family_eq.fn (ok_Family_eq T) (hr.mono (by decide)) T.b_Family_eq pass0) (pe_meth0 (pv 9) T.cl_Family T.me_Family_dual (ok_Family_dual T) (hr.mono (by decide)) T.b_Family_dual .nil pass0) (pe_call (ok_least_writes T) (hr.mono (by decide)) (by rfl) T.g_least_writes T.F_least_writes.kp T.b_least_writes .nil passL (pa_cons (pv 4) (pa_cons (pv 7) pa_nil))) (nomark _)))))
        (pss_one (ps_ret pe_bl))
        pss_nil)
      (pss_cons (ps_for PassesOwn.never rfl (pi_list (pe_call (ok_all_lots T) (hr.mono (by decide)) (by rfl) T.g_all_lots T.F_all_lots.kp T.b_all_lots .nil passL (pa_cons (pv 3) pa_nil))) (pg_name (i := 10) sc_law.nd rfl (Or.inl rfl))
        (pss_one (ps_if (pt_cmpR (op_ownNe T.oc_Ratio T.me_Ratio_eq.at_ T.me_Ratio_eq.fn (ok_Ratio_eq T) (hr.mono (by decide)) T.b_Ratio_eq pass0) (pe_op (op_ownB T.oc_Ratio T.oh_Ratio_add T.me_Ratio_add.fn (ok_Ratio_add T) (hr.mono (by decide)) T.b_Ratio_add pass0) (pe_call (ok_gain T) (hr.mono (by decide)) (by rfl) T.g_gain T.F_gain.kp T.b_gain .nil passL (pa_cons (pv 4) (pa_cons (pv 6) (pa_cons (pv 10) pa_nil)))) (pe_call (ok_gain T) (hr.mono (by decide)) (by rfl) T.g_gain T.F_gain.kp T.b_gain .nil passL (pa_cons (pv 4) (pa_cons (pv 7) (pa_cons (pe_call (ok_others T) (hr.mono (by decide)) (by rfl) T.g_others T.F_others.kp T.b_others .nil passL (pa_cons (pv 3) (pa_cons (pv 10) pa_nil))) pa_nil))))) (pe_make T.M_Ratio (ok_Ratio_init T) (hr.mono (by decide)) (by rfl) T.gc_Ratio T.b_Ratio_init1 T.v_Ratio_init1 passL (pa_cons pe_int pa_nil)) (nomark _))
          (pss_one (ps_ret pe_bl))
          pss_nil)))
      (pss_cons (ps_for PassesOwn.never rfl (pi_list (pe_lst (pa_cons (pv 8) (pa_cons (pv 9) (pa_cons (pe_call (ok_l_some_family T) (hr.mono (by decide)) (by rfl) T.g_l_some_family T.F_l_some_family.kp T.b_l_some_family .nil pass0 (pa_cons (pv 0) (pa_cons (pv 1) (pa_cons (pv 3) pa_nil)))) (pa_cons (pe_smeth (pe_glob (v := .ref T.c_Family) (by rfl) T.gc_Family rfl) T.sm_Family_each (ok_Family_each T) T.F_Family_each.kp (hr.mono (by decide)) T.b_Family_each passL (pa_cons (pv 3) pa_nil)) pa_nil)))))) (pg_name (i := 11) sc_law.nd rfl (Or.inl rfl))
        (pss_one (ps_if (pt_cmpR op_ne (pe_call (ok_is_best T) (hr.mono (by decide)) (by rfl) T.g_is_best T.F_is_best.kp T.b_is_best .nil passL (pa_cons (pv 4) (pa_cons (pv 6) (pa_cons (pv 11) pa_nil)))) (pe_call (ok_is_best T) (hr.mono (by decide)) (by rfl) T.g_is_best T.F_is_best.kp T.b_is_best .nil passL (pa_cons (pv 4) (pa_cons (pv 7) (pa_cons (pe_meth0 (pv 11) T.cl_Family T.me_Family_dual (ok_Family_dual T) (hr.mono (by decide)) T.b_Family_dual .nil pass0) pa_nil)))) (nomark _))
          (pss_one (ps_ret pe_bl))
          pss_nil)))
      (pss_cons (ps_set (i := 12) sc_law.nd rfl (Or.inl rfl) (pe_make T.M_Curve (ok_Curve_init T) (hr.mono (by decide)) (by rfl) T.gc_Curve T.b_Curve_init .nil passL (pa_cons (pv 4) pa_nil)))
      (pss_one (ps_ret (pe_and (pe_cmpR (op_ownC (fun _ _ => rfl) T.me_Ratio_eq.at_ T.me_Ratio_eq.fn (ok_Ratio_eq T) (hr.mono (by decide)) T.b_Ratio_eq pass0) (pe_callI T.me_Curve_call.at_ T.me_Curve_call.fn (fun_fnIn T.F_Curve_call) (ok_Curve_call T) (hr.mono (by decide)) T.b_Curve_call passL (pv 12) (pa_cons (pv 6) pa_nil)) (pe_callI T.me_Curve_call.at_ T.me_Curve_call.fn (fun_fnIn T.F_Curve_call) (ok_Curve_call T) (hr.mono (by decide)) T.b_Curve_call passL (pv 12) (pa_cons (pv 7) pa_nil)) (nomark _)) (pe_one (pe_call (ok_l_breaks_hold T) (hr.mono (by decide)) (by rfl) T.g_l_breaks_hold T.F_l_breaks_hold.kp T.b_l_breaks_hold .nil pass0 (pa_cons (pv 4) pa_nil)))))))))))))))))))), ?_⟩
    refine ⟨_, rfl, l, ns, rfl, hS, fun t H1 nt D1 b1 => ?_⟩
    refine ⟨_, rfl, _, rfl, l, t, 4, H, rfl, D1, by decide, by decide, fun rs ys p H2 e2 D2 np hp2 pr2 n1 n4 gd => ?_⟩
    have ly := prLen pr2
    refine ⟨_, rfl, p, ys, rfl, .inl (SqL.of hp2), ?_⟩
    rw [ly]
    refine ⟨_, rfl, p, rs, ys, rfl, SqL.of hp2, pr2, n1, by omega, gd, fun v4 H3 s3 G3 => ?_⟩
    have lL : (rs.map lowR).length = rs.length := List.length_map ..
    obtain ⟨L, eL⟩ : ∃ L, L = rs.map lowR := ⟨_, rfl⟩
    rw [← eL] at G3 lL
    obtain ⟨n, en⟩ : ∃ n, n = rs.length := ⟨_, rfl⟩
    rw [← en] at lL ⊢
    subst lL
    obtain ⟨n1', n8, okL⟩ := G3.len
    have pos := G3.pos
    refine ⟨_, rfl, _, rfl, l, t, H, rfl, D2.mono s3, fun r pp H4 g e4 D4 np4 hp4 => ?_⟩
    have G4 := G3.sameT (excT (D2.mono s3) e4)
    have ok0 := (goodS_ok g).1
    obtain ⟨g1, g2, g3, g4⟩ := id g
    refine ⟨_, rfl, pp, _, _, _, rfl, rfl, .inl (.inl hp4), at_of (j := 0) rfl rfl, _, rfl, pp, _, _, _, rfl, rfl, .inl (.inl hp4), at_of (j := 1) rfl rfl, mk_ratio (by omega) (sz_log (n := 10) (by omega) (by decide) (by decide)) fun a5 pq qq H5 s5 R5 nf => ?_⟩
    have R5 := rv_nf (by omega) nf R5
    generalize qd r.1 r.2 = r0 at *
    have ok1 := share_oth ok0
    obtain ⟨r00, r01, _⟩ := share_num ok0
    have S5 := shOf (K := K) R5 ok0
    have one : Szq 200 (((1 : Int)) : Qr) := z200 1 (by decide)
    refine ⟨_, rfl, rv_rsub (n := 200) R5 one S5.2 (by decide) (by decide) fun v7 H7 s7 R7 => ?_⟩
    have R7 : RV T.c_Ratio H7 v7 (1 - r0) := R7
    have S7 := shOf (K := K) R7 ok1
    have S5 := S5.same s7
    have G7 := G4.same (s5.trans s7)
    have D7 := D4.mono (s5.trans s7)
    refine ⟨_, rfl, _, rfl, most_of G7 S5 ok0 fun v8 H8 s8 R8 => ?_⟩
    refine ⟨_, rfl, _, rfl, most_of (G7.same s8) (S7.same s8) ok1 fun v9 H9 s9 R9 => ?_⟩
    refine rv_neF T.ic_Ratio (RV.same R8 s9) R9 (most_mirror pos okL r00 r01 n1' n8) ⟨_, rfl, iteF ?_⟩
    have t9 := s8.trans s9
    refine ⟨_, rfl, _, rfl, bestF_of (G7.same t9) (S5.same t9) ok0 fun v10 H10 s10 F10 => ?_⟩
    refine ⟨_, rfl, _, rfl, bestF_of (G7.same (t9.trans s10)) (S5.same (t9.trans s10)) ok0 fun v11 H11 s11 F11 => ?_⟩
    have t11 := t9.trans (s10.trans s11)
    have G11 := G7.same t11
    have S11 := S5.same t11
    have S11' := S7.same t11
    have F10 := F10.same s11
    have D11 := D7.mono t11
    clear G7 S5 S7 R5 R7 R8 R9 G3 G4 D7 D4 hp2 pr2
    refine ⟨fun σ' H' => Same H11 H' ∧ σ' = [some (.ref l), some (.ref t), some (.ref p), some (.int L.length), some v4, some (.ref pp), some (.ref a5), some v7, some v10, some v11, none, none, none], ?_, ?_⟩
    · refine ⟨_, rfl, F10.meth m_dual ⟨_, _, _, rfl, F10, fun u H12 s12 F12 => ?_⟩⟩
      refine ⟨_, rfl, _, rfl, bestF_of (G11.same s12) (S11'.same s12) ok1 fun v13 H13 s13 F13 => ?_⟩
      refine fam_neF T.ic_Family (F12.same s13) F13 (fun m hm => best_oth pos okL r00 r01 n1' n8 false hm) fun H14 s14 => ⟨_, rfl, iteF ?_⟩
      have t14 := s12.trans (s13.trans s14)
      have F14 := F11.same t14
      refine ⟨_, rfl, F14.meth m_dual ⟨_, _, _, rfl, F14, fun u H15 s15 F15 => ?_⟩⟩
      refine ⟨_, rfl, _, rfl, bestF_of (G11.same (t14.trans s15)) (S11'.same (t14.trans s15)) ok1 fun v16 H16 s16 F16 => ?_⟩
      exact fam_neF T.ic_Family (F15.same s16) F16 (fun m hm => best_oth pos okL r00 r01 n1' n8 true hm) fun H17 s17 => ⟨_, rfl, iteF ⟨t14.trans (s15.trans (s16.trans s17)), rfl⟩⟩
    rintro σ' H12 ⟨s12, rfl⟩
    have G12 := G11.same s12
    have S12 := S11.same s12
    have S12' := S11'.same s12
    have F12 := F10.same s12
    have F12' := F11.same s12
    have D12 := D11.mono s12
    clear G11 S11 S11' F10 F11 D11
    have n256 := pow_le8 n8
    refine ⟨_, rfl, .int L.length, rfl, kn_int _, fun z => absurd ((copies_good n1' n8).symm.trans z) (by decide), fun n' en' _ _ pL ysL H13 s13 npL hpL prL => ?_⟩
    obtain rfl : L.length = n' := by
      injection en' with en'
      omega
    refine ⟨pL, rfl, ⟨_, SqL.of hpL⟩, for_list (K := K) (a := pL) (xs := ysL) (fun i σ' H' => Same H13 H' ∧ ∃ v12, σ' = [some (.ref l), some (.ref t), some (.ref p), some (.int L.length), some v4, some (.ref pp), some (.ref a5), some v7, some v10, some v11, v12, none, none]) ⟨Same.refl _, _, rfl⟩ (fun i σ' H' _ h => SqL.of (h.1 _ _ hpL)) ?_ ?_⟩
    · rintro i x σ' H14 hx ⟨s14, v12, rfl⟩
      obtain ⟨m, em, hL⟩ := prAt prL hx
      have hm : m < 2 ^ L.length := List.mem_range.mp (List.mem_of_getElem? em)
      have t14 := s13.trans s14
      have hL := hL.same s14
      refine ⟨_, rfl, _, rfl, _, rfl, gain_of (G12.same t14) (S12.same t14) ok0 hm hL.arg fun v15 H15 s15 R15 => ?_⟩
      refine ⟨_, rfl, _, rfl, _, rfl, _, rfl, ?_⟩
      obtain ⟨b16, rfl, hb16, sc16⟩ := (hL.same s15).arg
      refine ⟨_, b16, lotV m, rfl, kn_int _, hb16, sc16, fun z => absurd ((copies_good n1' n8).symm.trans z) (by decide), fun n' en g1 g8 => ?_⟩
      obtain rfl : L.length = n' := by
        injection en with en
        omega
      refine ⟨fun _ q16 H16 s16 np16 hp16 => ?_, fun z e => (by rw [badOf_lotV hm n8] at e; cases e)⟩
      rw [mask_lotV (by omega)] at hp16
      have hL16 : Lot K H16 (2 ^ L.length - 1 - m) (.ref q16) := ⟨q16, rfl, .inl (.inl hp16)⟩
      have t16 := t14.trans (s15.trans s16)
      refine gain_of (G12.same t16) (S12'.same t16) ok1 (by omega) hL16.arg fun v17 H17 s17 R17 => ?_
      refine rv_add (n := 100) (RV.same R15 (s16.trans s17)) R17 (gain_sz G12 ok0 _) (gain_sz G12 ok1 _) (by decide) (by decide) fun v18 H18 s18 R18 => ?_
      refine mk_ratio1 fun a19 H19 s19 R19 => ?_
      have R19 : RV T.c_Ratio H19 (.ref a19) 0 := R19
      refine rv_neF T.ic_Ratio (RV.same R18 s19) R19 (by rw [gain_oth hm]; grind) ⟨_, rfl, iteF ⟨s14.trans (s15.trans (s16.trans (s17.trans (s18.trans s19)))), _, rfl⟩⟩
    rintro σ' H14 ⟨s14, v12, rfl⟩
    have t14 := s13.trans s14
    have D14 := D12.mono t14
    refine ⟨_, rfl, _, rfl, _, rfl, _, rfl, _, rfl, l, t, L.length, H, rfl, D14, n1', n8, fun vf ff H15 e15 D15 F15 => ?_⟩
    have st := excT D14 e15
    refine ⟨rfl, _, rfl, .int L.length, rfl, rfl, fun z => absurd ((copies_good n1' n8).symm.trans z) (by decide), fun n' en' _ _ ve H16 s16 F16 => ?_⟩
    obtain rfl : L.length = n' := by
      injection en' with en'
      omega
    refine ⟨(by show 4 ≤ sizeLine; decide), fun u17 nu17 => ?_⟩
    have s17 := same_upd (o := .lst [v10, v11, vf, ve]) nu17
    have st17 := (Same.toT t14).trans (st.trans (Same.toT (s16.trans s17)))
    have fams : ∀ x ∈ [v10, v11, vf, ve], ∃ f, Fam K T.c_Family (upd H16 u17 (.lst [v10, v11, vf, ve])) x L.length f := fun x hx => by
      simp only [List.mem_cons, List.not_mem_nil, or_false] at hx
      rcases hx with rfl | rfl | rfl | rfl
      · exact ⟨_, F12.sameT st17⟩
      · exact ⟨_, F12'.sameT st17⟩
      · exact ⟨_, F15.same (s16.trans s17)⟩
      · exact ⟨_, F16.same s17⟩
    have h17 : upd H16 u17 (.lst [v10, v11, vf, ve]) u17 = some (.lst [v10, v11, vf, ve]) := upd_same
    have G17 := G12.sameT st17
    have S17 := ratS S12 st17
    have S17' := ratS S12' st17
    clear G12 S12 S12' F12 F12' D12 D14 D15 F15 F16
    generalize [v10, v11, vf, ve] = os at *
    generalize upd H16 u17 (.lst os) = H17 at *
    refine ⟨u17, rfl, ⟨_, SqL.of h17⟩, for_list (K := K) (a := u17) (xs := os) (fun i σ' H' => Same H17 H' ∧ ∃ v13, σ' = [some (.ref l), some (.ref t), some (.ref p), some (.int L.length), some v4, some (.ref pp), some (.ref a5), some v7, some v10, some v11, v12, v13, none]) ⟨Same.refl _, _, rfl⟩ (fun i σ' H' _ h => SqL.of (h.1 _ _ h17)) ?_ ?_⟩
    · rintro i x σ' H18 hx ⟨s18, v13, rfl⟩
      obtain ⟨f, F⟩ := fams x (List.mem_of_getElem? hx)
      have F := F.same s18
      refine ⟨_, rfl, _, rfl, _, rfl, v4, .ref a5, x, L, some r0, L.length, f, rfl, G17.same s18, S17.same s18, F, fun e => absurd (ok0.symm.trans e) (by decide), fun r' er _ => ⟨fun e => absurd rfl e, fun _ H19 s19 => ?_⟩⟩
      cases er
      have F19 := F.same s19
      refine ⟨_, rfl, _, rfl, _, rfl, F19.meth m_dual ⟨_, _, _, rfl, F19, fun u H20 s20 F20 => ?_⟩⟩
      have t20 := s18.trans (s19.trans s20)
      refine ⟨v4, v7, u, L, some (1 - r0), L.length, _, rfl, G17.same t20, S17'.same t20, F20, fun e => absurd (ok1.symm.trans e) (by decide), fun r' er _ => ⟨fun e => absurd rfl e, fun _ H21 s21 => ?_⟩⟩
      cases er
      rw [isbest_oth pos okL r00 r01 n1' n8]
      refine ⟨rfl, _, rfl, ?_⟩
      rw [show ∀ b : Bool, (!decide (V.bl b = V.bl b)) = false from fun b => by simp]
      exact iteF ⟨t20.trans s21, _, rfl⟩
    rintro σ' H18 ⟨s18, v13, rfl⟩
    have G18 := G17.same s18
    refine ⟨_, rfl, mk_curve G18 fun a19 H19 s19 U19 => ?_⟩
    have t19 := s18.trans s19
    refine ⟨_, rfl, U19.isC, _, rfl, U19.isC, call_of U19 (S17.same t19) ok0 fun v20 H20 s20 R20 => ?_⟩
    refine ⟨_, rfl, (U19.same s20).isC, _, rfl, (U19.same s20).isC, call_of (U19.same s20) (S17'.same (t19.trans s20)) ok1 fun v21 H21 s21 R21 => ?_⟩
    refine rv_eq T.ic_Ratio (RV.same R20 s21) R21 ?_
    rw [decide_eq_true (most_mirror pos okL r00 r01 n1' n8)]
    refine ⟨true, rfl, ?_⟩
    rw [if_pos rfl]
    exact ⟨_, rfl, v4, L, rfl, G17.same (t19.trans (s20.trans s21)), fun H' _ => q _⟩
end
theorem all_mk {l : PySem.W.OpenLaw} {w : World} {K : PySem.W.Frag} {h : Heap} {mg : Str → Option Value} {fa ca_VoteError ca_BadNumber ca_BadLot ca_Unlike ca_Family ca_Ratio ca_Chances ca_Curve fa_BadNumber_init fa_BadLot_init fa_is_integer fa_check_number fa_check_copies fa_check_copy fa_mask_of fa_lot_at fa_check_alike fa_is_within fa_masks_of fa_marks_above fa_minimal_lots fa_Family_init fa_marked fa_others fa_all_lots fa_middle_lots fa_whole_lot fa_Family_or fa_Family_le fa_Family_eq fa_Family_dual fa_Family_each fa_Ratio_init fa_ratio_of fa_Ratio_eq fa_Ratio_lt fa_Ratio_le fa_Ratio_gt fa_Ratio_ge fa_Ratio_add fa_Ratio_radd fa_Ratio_sub fa_Ratio_rsub fa_Ratio_mul fa_Ratio_rmul fa_Ratio_half fa_Ratio_divided fa_is_short fa_check_chance fa_scale_of fa_counts_of fa_Chances_init fa_Chances_add fa_Chances_len fa_Chances_alone fa_Chances_up fa_check_share fa_gain fa_with_whole fa_most_worth fa_least_writes fa_greatest_writes fa_is_best fa_lot_break fa_lot_breaks fa_breaks fa_piece fa_Curve_init fa_Curve_call fa_l_start fa_l_draw fa_l_chances fa_l_share fa_l_ratios fa_l_made fa_l_power fa_l_has fa_l_lot fa_l_breaks_hold fa_l_some_family fa_law : Addr} (X : K.In h) (G : h.Ns mainGlobals mg) (hfa : mg "law" = some (.ref fa))
    {od_BadNumber_init an_BadNumber_init : Option Addr} {sl_BadNumber_init : Array (Option Value)} {oc_BadNumber_init kV_BadNumber_init dc_BadNumber_init pm_BadNumber_init cd_BadNumber_init ct_BadNumber_init : Value}
    {od_BadLot_init an_BadLot_init : Option Addr} {sl_BadLot_init : Array (Option Value)} {oc_BadLot_init kV_BadLot_init dc_BadLot_init pm_BadLot_init cd_BadLot_init ct_BadLot_init : Value}
    {od_is_integer an_is_integer : Option Addr} {sl_is_integer : Array (Option Value)} {oc_is_integer kV_is_integer dc_is_integer pm_is_integer cd_is_integer ct_is_integer : Value}
    {od_check_number an_check_number : Option Addr} {sl_check_number : Array (Option Value)} {oc_check_number kV_check_number dc_check_number pm_check_number cd_check_number ct_check_number : Value}
    {od_check_copies an_check_copies : Option Addr} {sl_check_copies : Array (Option Value)} {oc_check_copies kV_check_copies dc_check_copies pm_check_copies cd_check_copies ct_check_copies : Value}
    {od_check_copy an_check_copy : Option Addr} {sl_check_copy : Array (Option Value)} {oc_check_copy kV_check_copy dc_check_copy pm_check_copy cd_check_copy ct_check_copy : Value}
    {od_mask_of an_mask_of : Option Addr} {sl_mask_of : Array (Option Value)} {oc_mask_of kV_mask_of dc_mask_of pm_mask_of cd_mask_of ct_mask_of : Value}
    {od_lot_at an_lot_at : Option Addr} {sl_lot_at : Array (Option Value)} {oc_lot_at kV_lot_at dc_lot_at pm_lot_at cd_lot_at ct_lot_at : Value}
    {od_check_alike an_check_alike : Option Addr} {sl_check_alike : Array (Option Value)} {oc_check_alike kV_check_alike dc_check_alike pm_check_alike cd_check_alike ct_check_alike : Value}
    {od_is_within an_is_within : Option Addr} {sl_is_within : Array (Option Value)} {oc_is_within kV_is_within dc_is_within pm_is_within cd_is_within ct_is_within : Value}
    {od_masks_of an_masks_of : Option Addr} {sl_masks_of : Array (Option Value)} {oc_masks_of kV_masks_of dc_masks_of pm_masks_of cd_masks_of ct_masks_of : Value}
    {od_marks_above an_marks_above : Option Addr} {sl_marks_above : Array (Option Value)} {oc_marks_above kV_marks_above dc_marks_above pm_marks_above cd_marks_above ct_marks_above : Value}
    {od_minimal_lots an_minimal_lots : Option Addr} {sl_minimal_lots : Array (Option Value)} {oc_minimal_lots kV_minimal_lots dc_minimal_lots pm_minimal_lots cd_minimal_lots ct_minimal_lots : Value}
    {od_Family_init an_Family_init : Option Addr} {sl_Family_init : Array (Option Value)} {oc_Family_init kV_Family_init dc_Family_init pm_Family_init cd_Family_init ct_Family_init : Value}
    {od_marked an_marked : Option Addr} {sl_marked : Array (Option Value)} {oc_marked kV_marked dc_marked pm_marked cd_marked ct_marked : Value}
    {od_others an_others : Option Addr} {sl_others : Array (Option Value)} {oc_others kV_others dc_others pm_others cd_others ct_others : Value}
    {od_all_lots an_all_lots : Option Addr} {sl_all_lots : Array (Option Value)} {oc_all_lots kV_all_lots dc_all_lots pm_all_lots cd_all_lots ct_all_lots : Value}
    {od_middle_lots an_middle_lots : Option Addr} {sl_middle_lots : Array (Option Value)} {oc_middle_lots kV_middle_lots dc_middle_lots pm_middle_lots cd_middle_lots ct_middle_lots : Value}
    {od_whole_lot an_whole_lot : Option Addr} {sl_whole_lot : Array (Option Value)} {oc_whole_lot kV_whole_lot dc_whole_lot pm_whole_lot cd_whole_lot ct_whole_lot : Value}
    {od_Family_or an_Family_or : Option Addr} {sl_Family_or : Array (Option Value)} {oc_Family_or kV_Family_or dc_Family_or pm_Family_or cd_Family_or ct_Family_or : Value}
    {od_Family_le an_Family_le : Option Addr} {sl_Family_le : Array (Option Value)} {oc_Family_le kV_Family_le dc_Family_le pm_Family_le cd_Family_le ct_Family_le : Value}
    {od_Family_eq an_Family_eq : Option Addr} {sl_Family_eq : Array (Option Value)} {oc_Family_eq kV_Family_eq dc_Family_eq pm_Family_eq cd_Family_eq ct_Family_eq : Value}
    {od_Family_dual an_Family_dual : Option Addr} {sl_Family_dual : Array (Option Value)} {oc_Family_dual kV_Family_dual dc_Family_dual pm_Family_dual cd_Family_dual ct_Family_dual : Value}
    {sp_Family_each : Addr} {sr_Family_each : List Value}
    {od_Family_each an_Family_each : Option Addr} {sl_Family_each : Array (Option Value)} {oc_Family_each kV_Family_each dc_Family_each pm_Family_each cd_Family_each ct_Family_each : Value}
    {od_Ratio_init an_Ratio_init : Option Addr} {sl_Ratio_init : Array (Option Value)} {oc_Ratio_init kV_Ratio_init dc_Ratio_init pm_Ratio_init cd_Ratio_init ct_Ratio_init : Value}
    {dt_Ratio_init : Addr} {dto_Ratio_init : Obj} {dtn_Ratio_init : Nat} {dk_Ratio_init0 : Tok}
    {od_ratio_of an_ratio_of : Option Addr} {sl_ratio_of : Array (Option Value)} {oc_ratio_of kV_ratio_of dc_ratio_of pm_ratio_of cd_ratio_of ct_ratio_of : Value}
    {od_Ratio_eq an_Ratio_eq : Option Addr} {sl_Ratio_eq : Array (Option Value)} {oc_Ratio_eq kV_Ratio_eq dc_Ratio_eq pm_Ratio_eq cd_Ratio_eq ct_Ratio_eq : Value}
    {od_Ratio_lt an_Ratio_lt : Option Addr} {sl_Ratio_lt : Array (Option Value)} {oc_Ratio_lt kV_Ratio_lt dc_Ratio_lt pm_Ratio_lt cd_Ratio_lt ct_Ratio_lt : Value}
    {od_Ratio_le an_Ratio_le : Option Addr} {sl_Ratio_le : Array (Option Value)} {oc_Ratio_le kV_Ratio_le dc_Ratio_le pm_Ratio_le cd_Ratio_le ct_Ratio_le : Value}
    {od_Ratio_gt an_Ratio_gt : Option Addr} {sl_Ratio_gt : Array (Option Value)} {oc_Ratio_gt kV_Ratio_gt dc_Ratio_gt pm_Ratio_gt cd_Ratio_gt ct_Ratio_gt : Value}
    {od_Ratio_ge an_Ratio_ge : Option Addr} {sl_Ratio_ge : Array (Option Value)} {oc_Ratio_ge kV_Ratio_ge dc_Ratio_ge pm_Ratio_ge cd_Ratio_ge ct_Ratio_ge : Value}
    {od_Ratio_add an_Ratio_add : Option Addr} {sl_Ratio_add : Array (Option Value)} {oc_Ratio_add kV_Ratio_add dc_Ratio_add pm_Ratio_add cd_Ratio_add ct_Ratio_add : Value}
    {od_Ratio_radd an_Ratio_radd : Option Addr} {sl_Ratio_radd : Array (Option Value)} {oc_Ratio_radd kV_Ratio_radd dc_Ratio_radd pm_Ratio_radd cd_Ratio_radd ct_Ratio_radd : Value}
    {od_Ratio_sub an_Ratio_sub : Option Addr} {sl_Ratio_sub : Array (Option Value)} {oc_Ratio_sub kV_Ratio_sub dc_Ratio_sub pm_Ratio_sub cd_Ratio_sub ct_Ratio_sub : Value}
    {od_Ratio_rsub an_Ratio_rsub : Option Addr} {sl_Ratio_rsub : Array (Option Value)} {oc_Ratio_rsub kV_Ratio_rsub dc_Ratio_rsub pm_Ratio_rsub cd_Ratio_rsub ct_Ratio_rsub : Value}
    {od_Ratio_mul an_Ratio_mul : Option Addr} {sl_Ratio_mul : Array (Option Value)} {oc_Ratio_mul kV_Ratio_mul dc_Ratio_mul pm_Ratio_mul cd_Ratio_mul ct_Ratio_mul : Value}
    {od_Ratio_rmul an_Ratio_rmul : Option Addr} {sl_Ratio_rmul : Array (Option Value)} {oc_Ratio_rmul kV_Ratio_rmul dc_Ratio_rmul pm_Ratio_rmul cd_Ratio_rmul ct_Ratio_rmul : Value}
    {sp_Ratio_half : Addr} {sr_Ratio_half : List Value}
    {od_Ratio_half an_Ratio_half : Option Addr} {sl_Ratio_half : Array (Option Value)} {oc_Ratio_half kV_Ratio_half dc_Ratio_half pm_Ratio_half cd_Ratio_half ct_Ratio_half : Value}
    {od_Ratio_divided an_Ratio_divided : Option Addr} {sl_Ratio_divided : Array (Option Value)} {oc_Ratio_divided kV_Ratio_divided dc_Ratio_divided pm_Ratio_divided cd_Ratio_divided ct_Ratio_divided : Value}
    {od_is_short an_is_short : Option Addr} {sl_is_short : Array (Option Value)} {oc_is_short kV_is_short dc_is_short pm_is_short cd_is_short ct_is_short : Value}
    {od_check_chance an_check_chance : Option Addr} {sl_check_chance : Array (Option Value)} {oc_check_chance kV_check_chance dc_check_chance pm_check_chance cd_check_chance ct_check_chance : Value}
    {od_scale_of an_scale_of : Option Addr} {sl_scale_of : Array (Option Value)} {oc_scale_of kV_scale_of dc_scale_of pm_scale_of cd_scale_of ct_scale_of : Value}
    {od_counts_of an_counts_of : Option Addr} {sl_counts_of : Array (Option Value)} {oc_counts_of kV_counts_of dc_counts_of pm_counts_of cd_counts_of ct_counts_of : Value}
    {od_Chances_init an_Chances_init : Option Addr} {sl_Chances_init : Array (Option Value)} {oc_Chances_init kV_Chances_init dc_Chances_init pm_Chances_init cd_Chances_init ct_Chances_init : Value}
    {od_Chances_add an_Chances_add : Option Addr} {sl_Chances_add : Array (Option Value)} {oc_Chances_add kV_Chances_add dc_Chances_add pm_Chances_add cd_Chances_add ct_Chances_add : Value}
    {od_Chances_len an_Chances_len : Option Addr} {sl_Chances_len : Array (Option Value)} {oc_Chances_len kV_Chances_len dc_Chances_len pm_Chances_len cd_Chances_len ct_Chances_len : Value}
    {od_Chances_alone an_Chances_alone : Option Addr} {sl_Chances_alone : Array (Option Value)} {oc_Chances_alone kV_Chances_alone dc_Chances_alone pm_Chances_alone cd_Chances_alone ct_Chances_alone : Value}
    {od_Chances_up an_Chances_up : Option Addr} {sl_Chances_up : Array (Option Value)} {oc_Chances_up kV_Chances_up dc_Chances_up pm_Chances_up cd_Chances_up ct_Chances_up : Value}
    {od_check_share an_check_share : Option Addr} {sl_check_share : Array (Option Value)} {oc_check_share kV_check_share dc_check_share pm_check_share cd_check_share ct_check_share : Value}
    {od_gain an_gain : Option Addr} {sl_gain : Array (Option Value)} {oc_gain kV_gain dc_gain pm_gain cd_gain ct_gain : Value}
    {od_with_whole an_with_whole : Option Addr} {sl_with_whole : Array (Option Value)} {oc_with_whole kV_with_whole dc_with_whole pm_with_whole cd_with_whole ct_with_whole : Value}
    {od_most_worth an_most_worth : Option Addr} {sl_most_worth : Array (Option Value)} {oc_most_worth kV_most_worth dc_most_worth pm_most_worth cd_most_worth ct_most_worth : Value}
    {od_least_writes an_least_writes : Option Addr} {sl_least_writes : Array (Option Value)} {oc_least_writes kV_least_writes dc_least_writes pm_least_writes cd_least_writes ct_least_writes : Value}
    {od_greatest_writes an_greatest_writes : Option Addr} {sl_greatest_writes : Array (Option Value)} {oc_greatest_writes kV_greatest_writes dc_greatest_writes pm_greatest_writes cd_greatest_writes ct_greatest_writes : Value}
    {od_is_best an_is_best : Option Addr} {sl_is_best : Array (Option Value)} {oc_is_best kV_is_best dc_is_best pm_is_best cd_is_best ct_is_best : Value}
    {od_lot_break an_lot_break : Option Addr} {sl_lot_break : Array (Option Value)} {oc_lot_break kV_lot_break dc_lot_break pm_lot_break cd_lot_break ct_lot_break : Value}
    {od_lot_breaks an_lot_breaks : Option Addr} {sl_lot_breaks : Array (Option Value)} {oc_lot_breaks kV_lot_breaks dc_lot_breaks pm_lot_breaks cd_lot_breaks ct_lot_breaks : Value}
    {od_breaks an_breaks : Option Addr} {sl_breaks : Array (Option Value)} {oc_breaks kV_breaks dc_breaks pm_breaks cd_breaks ct_breaks : Value}
    {od_piece an_piece : Option Addr} {sl_piece : Array (Option Value)} {oc_piece kV_piece dc_piece pm_piece cd_piece ct_piece : Value}
    {od_Curve_init an_Curve_init : Option Addr} {sl_Curve_init : Array (Option Value)} {oc_Curve_init kV_Curve_init dc_Curve_init pm_Curve_init cd_Curve_init ct_Curve_init : Value}
    {od_Curve_call an_Curve_call : Option Addr} {sl_Curve_call : Array (Option Value)} {oc_Curve_call kV_Curve_call dc_Curve_call pm_Curve_call cd_Curve_call ct_Curve_call : Value}
    {od_l_start an_l_start : Option Addr} {sl_l_start : Array (Option Value)} {oc_l_start kV_l_start dc_l_start pm_l_start cd_l_start ct_l_start : Value}
    {od_l_draw an_l_draw : Option Addr} {sl_l_draw : Array (Option Value)} {oc_l_draw kV_l_draw dc_l_draw pm_l_draw cd_l_draw ct_l_draw : Value}
    {od_l_chances an_l_chances : Option Addr} {sl_l_chances : Array (Option Value)} {oc_l_chances kV_l_chances dc_l_chances pm_l_chances cd_l_chances ct_l_chances : Value}
    {od_l_share an_l_share : Option Addr} {sl_l_share : Array (Option Value)} {oc_l_share kV_l_share dc_l_share pm_l_share cd_l_share ct_l_share : Value}
    {od_l_ratios an_l_ratios : Option Addr} {sl_l_ratios : Array (Option Value)} {oc_l_ratios kV_l_ratios dc_l_ratios pm_l_ratios cd_l_ratios ct_l_ratios : Value}
    {od_l_made an_l_made : Option Addr} {sl_l_made : Array (Option Value)} {oc_l_made kV_l_made dc_l_made pm_l_made cd_l_made ct_l_made : Value}
    {od_l_power an_l_power : Option Addr} {sl_l_power : Array (Option Value)} {oc_l_power kV_l_power dc_l_power pm_l_power cd_l_power ct_l_power : Value}
    {od_l_has an_l_has : Option Addr} {sl_l_has : Array (Option Value)} {oc_l_has kV_l_has dc_l_has pm_l_has cd_l_has ct_l_has : Value}
    {od_l_lot an_l_lot : Option Addr} {sl_l_lot : Array (Option Value)} {oc_l_lot kV_l_lot dc_l_lot pm_l_lot cd_l_lot ct_l_lot : Value}
    {od_l_breaks_hold an_l_breaks_hold : Option Addr} {sl_l_breaks_hold : Array (Option Value)} {oc_l_breaks_hold kV_l_breaks_hold dc_l_breaks_hold pm_l_breaks_hold cd_l_breaks_hold ct_l_breaks_hold : Value}
    {od_l_some_family an_l_some_family : Option Addr} {sl_l_some_family : Array (Option Value)} {oc_l_some_family kV_l_some_family dc_l_some_family pm_l_some_family cd_l_some_family ct_l_some_family : Value}
    {od_law an_law : Option Addr} {sl_law : Array (Option Value)} {oc_law kV_law dc_law pm_law cd_law ct_law : Value}
    {nm_BadNumber q_BadNumber : Str} {N_BadNumber : Addr} {bs_BadNumber bm_BadNumber : List Value} {sn_BadNumber : List Str} {sub_BadNumber : List Value} {ab_BadNumber : Bool} {col_BadNumber : Option Bool} {dd_BadNumber : Option Addr} {m0_BadNumber m1_BadNumber m2_BadNumber m3_BadNumber m5_BadNumber : Option Value}
    {nm_BadLot q_BadLot : Str} {N_BadLot : Addr} {bs_BadLot bm_BadLot : List Value} {sn_BadLot : List Str} {sub_BadLot : List Value} {ab_BadLot : Bool} {col_BadLot : Option Bool} {dd_BadLot : Option Addr} {m0_BadLot m1_BadLot m2_BadLot m3_BadLot m5_BadLot : Option Value}
    {gt_MOST_COPIES : Tok}
    {gt_MOST_UNDER : Tok}
    (aC_VoteError : PySem.W.nsIn K mainGlobals "VoteError" = some (some (.ref ca_VoteError)))
    (aC_BadNumber : PySem.W.nsIn K mainGlobals "BadNumber" = some (some (.ref ca_BadNumber)))
    (aC_BadLot : PySem.W.nsIn K mainGlobals "BadLot" = some (some (.ref ca_BadLot)))
    (aC_Unlike : PySem.W.nsIn K mainGlobals "Unlike" = some (some (.ref ca_Unlike)))
    (aC_Family : PySem.W.nsIn K mainGlobals "Family" = some (some (.ref ca_Family)))
    (aC_Ratio : PySem.W.nsIn K mainGlobals "Ratio" = some (some (.ref ca_Ratio)))
    (aC_Chances : PySem.W.nsIn K mainGlobals "Chances" = some (some (.ref ca_Chances)))
    (aC_Curve : PySem.W.nsIn K mainGlobals "Curve" = some (some (.ref ca_Curve)))
    (a_BadNumber_init : PySem.W.findIn K (.ref ca_BadNumber) "__init__" = some (some (.ref fa_BadNumber_init)))
    (l_BadNumber_init : K.lookup fa_BadNumber_init = some ⟨oc_BadNumber_init, od_BadNumber_init, .func (PySem.W.fnOf "__init__" "BadNumber.__init__" (defArgs s_BadNumber_init) (defBody s_BadNumber_init) (defScope s_BadNumber_init) .none kV_BadNumber_init dc_BadNumber_init pm_BadNumber_init an_BadNumber_init cd_BadNumber_init ct_BadNumber_init), sl_BadNumber_init⟩)
    (cc_BadNumber_init : PySem.W.codeIn K cd_BadNumber_init "BadNumber.__init__" = true)
    (kk_BadNumber_init : PySem.W.keepIn K (.ref fa_BadNumber_init) = true)
    (a_BadLot_init : PySem.W.findIn K (.ref ca_BadLot) "__init__" = some (some (.ref fa_BadLot_init)))
    (l_BadLot_init : K.lookup fa_BadLot_init = some ⟨oc_BadLot_init, od_BadLot_init, .func (PySem.W.fnOf "__init__" "BadLot.__init__" (defArgs s_BadLot_init) (defBody s_BadLot_init) (defScope s_BadLot_init) .none kV_BadLot_init dc_BadLot_init pm_BadLot_init an_BadLot_init cd_BadLot_init ct_BadLot_init), sl_BadLot_init⟩)
    (cc_BadLot_init : PySem.W.codeIn K cd_BadLot_init "BadLot.__init__" = true)
    (kk_BadLot_init : PySem.W.keepIn K (.ref fa_BadLot_init) = true)
    (a_is_integer : PySem.W.nsIn K mainGlobals "is_integer" = some (some (.ref fa_is_integer)))
    (l_is_integer : K.lookup fa_is_integer = some ⟨oc_is_integer, od_is_integer, .func (PySem.W.fnOf "is_integer" "is_integer" (defArgs s_is_integer) (defBody s_is_integer) (defScope s_is_integer) .none kV_is_integer dc_is_integer pm_is_integer an_is_integer cd_is_integer ct_is_integer), sl_is_integer⟩)
    (cc_is_integer : PySem.W.codeIn K cd_is_integer "is_integer" = true)
    (kk_is_integer : PySem.W.keepIn K (.ref fa_is_integer) = true)
    (a_check_number : PySem.W.nsIn K mainGlobals "check_number" = some (some (.ref fa_check_number)))
    (l_check_number : K.lookup fa_check_number = some ⟨oc_check_number, od_check_number, .func (PySem.W.fnOf "check_number" "check_number" (defArgs s_check_number) (defBody s_check_number) (defScope s_check_number) .none kV_check_number dc_check_number pm_check_number an_check_number cd_check_number ct_check_number), sl_check_number⟩)
    (cc_check_number : PySem.W.codeIn K cd_check_number "check_number" = true)
    (kk_check_number : PySem.W.keepIn K (.ref fa_check_number) = true)
    (a_check_copies : PySem.W.nsIn K mainGlobals "check_copies" = some (some (.ref fa_check_copies)))
    (l_check_copies : K.lookup fa_check_copies = some ⟨oc_check_copies, od_check_copies, .func (PySem.W.fnOf "check_copies" "check_copies" (defArgs s_check_copies) (defBody s_check_copies) (defScope s_check_copies) .none kV_check_copies dc_check_copies pm_check_copies an_check_copies cd_check_copies ct_check_copies), sl_check_copies⟩)
    (cc_check_copies : PySem.W.codeIn K cd_check_copies "check_copies" = true)
    (kk_check_copies : PySem.W.keepIn K (.ref fa_check_copies) = true)
    (a_check_copy : PySem.W.nsIn K mainGlobals "check_copy" = some (some (.ref fa_check_copy)))
    (l_check_copy : K.lookup fa_check_copy = some ⟨oc_check_copy, od_check_copy, .func (PySem.W.fnOf "check_copy" "check_copy" (defArgs s_check_copy) (defBody s_check_copy) (defScope s_check_copy) .none kV_check_copy dc_check_copy pm_check_copy an_check_copy cd_check_copy ct_check_copy), sl_check_copy⟩)
    (cc_check_copy : PySem.W.codeIn K cd_check_copy "check_copy" = true)
    (kk_check_copy : PySem.W.keepIn K (.ref fa_check_copy) = true)
    (a_mask_of : PySem.W.nsIn K mainGlobals "mask_of" = some (some (.ref fa_mask_of)))
    (l_mask_of : K.lookup fa_mask_of = some ⟨oc_mask_of, od_mask_of, .func (PySem.W.fnOf "mask_of" "mask_of" (defArgs s_mask_of) (defBody s_mask_of) (defScope s_mask_of) .none kV_mask_of dc_mask_of pm_mask_of an_mask_of cd_mask_of ct_mask_of), sl_mask_of⟩)
    (cc_mask_of : PySem.W.codeIn K cd_mask_of "mask_of" = true)
    (kk_mask_of : PySem.W.keepIn K (.ref fa_mask_of) = true)
    (a_lot_at : PySem.W.nsIn K mainGlobals "lot_at" = some (some (.ref fa_lot_at)))
    (l_lot_at : K.lookup fa_lot_at = some ⟨oc_lot_at, od_lot_at, .func (PySem.W.fnOf "lot_at" "lot_at" (defArgs s_lot_at) (defBody s_lot_at) (defScope s_lot_at) .none kV_lot_at dc_lot_at pm_lot_at an_lot_at cd_lot_at ct_lot_at), sl_lot_at⟩)
    (cc_lot_at : PySem.W.codeIn K cd_lot_at "lot_at" = true)
    (kk_lot_at : PySem.W.keepIn K (.ref fa_lot_at) = true)
    (a_check_alike : PySem.W.nsIn K mainGlobals "check_alike" = some (some (.ref fa_check_alike)))
    (l_check_alike : K.lookup fa_check_alike = some ⟨oc_check_alike, od_check_alike, .func (PySem.W.fnOf "check_alike" "check_alike" (defArgs s_check_alike) (defBody s_check_alike) (defScope s_check_alike) .none kV_check_alike dc_check_alike pm_check_alike an_check_alike cd_check_alike ct_check_alike), sl_check_alike⟩)
    (cc_check_alike : PySem.W.codeIn K cd_check_alike "check_alike" = true)
    (kk_check_alike : PySem.W.keepIn K (.ref fa_check_alike) = true)
    (a_is_within : PySem.W.nsIn K mainGlobals "is_within" = some (some (.ref fa_is_within)))
    (l_is_within : K.lookup fa_is_within = some ⟨oc_is_within, od_is_within, .func (PySem.W.fnOf "is_within" "is_within" (defArgs s_is_within) (defBody s_is_within) (defScope s_is_within) .none kV_is_within dc_is_within pm_is_within an_is_within cd_is_within ct_is_within), sl_is_within⟩)
    (cc_is_within : PySem.W.codeIn K cd_is_within "is_within" = true)
    (kk_is_within : PySem.W.keepIn K (.ref fa_is_within) = true)
    (a_masks_of : PySem.W.nsIn K mainGlobals "masks_of" = some (some (.ref fa_masks_of)))
    (l_masks_of : K.lookup fa_masks_of = some ⟨oc_masks_of, od_masks_of, .func (PySem.W.fnOf "masks_of" "masks_of" (defArgs s_masks_of) (defBody s_masks_of) (defScope s_masks_of) .none kV_masks_of dc_masks_of pm_masks_of an_masks_of cd_masks_of ct_masks_of), sl_masks_of⟩)
    (cc_masks_of : PySem.W.codeIn K cd_masks_of "masks_of" = true)
    (kk_masks_of : PySem.W.keepIn K (.ref fa_masks_of) = true)
    (a_marks_above : PySem.W.nsIn K mainGlobals "marks_above" = some (some (.ref fa_marks_above)))
    (l_marks_above : K.lookup fa_marks_above = some ⟨oc_marks_above, od_marks_above, .func (PySem.W.fnOf "marks_above" "marks_above" (defArgs s_marks_above) (defBody s_marks_above) (defScope s_marks_above) .none kV_marks_above dc_marks_above pm_marks_above an_marks_above cd_marks_above ct_marks_above), sl_marks_above⟩)
    (cc_marks_above : PySem.W.codeIn K cd_marks_above "marks_above" = true)
    (kk_marks_above : PySem.W.keepIn K (.ref fa_marks_above) = true)
    (a_minimal_lots : PySem.W.nsIn K mainGlobals "minimal_lots" = some (some (.ref fa_minimal_lots)))
    (l_minimal_lots : K.lookup fa_minimal_lots = some ⟨oc_minimal_lots, od_minimal_lots, .func (PySem.W.fnOf "minimal_lots" "minimal_lots" (defArgs s_minimal_lots) (defBody s_minimal_lots) (defScope s_minimal_lots) .none kV_minimal_lots dc_minimal_lots pm_minimal_lots an_minimal_lots cd_minimal_lots ct_minimal_lots), sl_minimal_lots⟩)
    (cc_minimal_lots : PySem.W.codeIn K cd_minimal_lots "minimal_lots" = true)
    (kk_minimal_lots : PySem.W.keepIn K (.ref fa_minimal_lots) = true)
    (a_Family_init : PySem.W.findIn K (.ref ca_Family) "__init__" = some (some (.ref fa_Family_init)))
    (i_Family_init : PySem.W.isFn K (.ref fa_Family_init) = true)
    (l_Family_init : K.lookup fa_Family_init = some ⟨oc_Family_init, od_Family_init, .func (PySem.W.fnOf "__init__" "Family.__init__" (defArgs s_Family_init) (defBody s_Family_init) (defScope s_Family_init) .none kV_Family_init dc_Family_init pm_Family_init an_Family_init cd_Family_init ct_Family_init), sl_Family_init⟩)
    (cc_Family_init : PySem.W.codeIn K cd_Family_init "Family.__init__" = true)
    (kk_Family_init : PySem.W.keepIn K (.ref fa_Family_init) = true)
    (a_marked : PySem.W.nsIn K mainGlobals "marked" = some (some (.ref fa_marked)))
    (l_marked : K.lookup fa_marked = some ⟨oc_marked, od_marked, .func (PySem.W.fnOf "marked" "marked" (defArgs s_marked) (defBody s_marked) (defScope s_marked) .none kV_marked dc_marked pm_marked an_marked cd_marked ct_marked), sl_marked⟩)
    (cc_marked : PySem.W.codeIn K cd_marked "marked" = true)
    (kk_marked : PySem.W.keepIn K (.ref fa_marked) = true)
    (a_others : PySem.W.nsIn K mainGlobals "others" = some (some (.ref fa_others)))
    (l_others : K.lookup fa_others = some ⟨oc_others, od_others, .func (PySem.W.fnOf "others" "others" (defArgs s_others) (defBody s_others) (defScope s_others) .none kV_others dc_others pm_others an_others cd_others ct_others), sl_others⟩)
    (cc_others : PySem.W.codeIn K cd_others "others" = true)
    (kk_others : PySem.W.keepIn K (.ref fa_others) = true)
    (a_all_lots : PySem.W.nsIn K mainGlobals "all_lots" = some (some (.ref fa_all_lots)))
    (l_all_lots : K.lookup fa_all_lots = some ⟨oc_all_lots, od_all_lots, .func (PySem.W.fnOf "all_lots" "all_lots" (defArgs s_all_lots) (defBody s_all_lots) (defScope s_all_lots) .none kV_all_lots dc_all_lots pm_all_lots an_all_lots cd_all_lots ct_all_lots), sl_all_lots⟩)
    (cc_all_lots : PySem.W.codeIn K cd_all_lots "all_lots" = true)
    (kk_all_lots : PySem.W.keepIn K (.ref fa_all_lots) = true)
    (a_middle_lots : PySem.W.nsIn K mainGlobals "middle_lots" = some (some (.ref fa_middle_lots)))
    (l_middle_lots : K.lookup fa_middle_lots = some ⟨oc_middle_lots, od_middle_lots, .func (PySem.W.fnOf "middle_lots" "middle_lots" (defArgs s_middle_lots) (defBody s_middle_lots) (defScope s_middle_lots) .none kV_middle_lots dc_middle_lots pm_middle_lots an_middle_lots cd_middle_lots ct_middle_lots), sl_middle_lots⟩)
    (cc_middle_lots : PySem.W.codeIn K cd_middle_lots "middle_lots" = true)
    (kk_middle_lots : PySem.W.keepIn K (.ref fa_middle_lots) = true)
    (a_whole_lot : PySem.W.nsIn K mainGlobals "whole_lot" = some (some (.ref fa_whole_lot)))
    (l_whole_lot : K.lookup fa_whole_lot = some ⟨oc_whole_lot, od_whole_lot, .func (PySem.W.fnOf "whole_lot" "whole_lot" (defArgs s_whole_lot) (defBody s_whole_lot) (defScope s_whole_lot) .none kV_whole_lot dc_whole_lot pm_whole_lot an_whole_lot cd_whole_lot ct_whole_lot), sl_whole_lot⟩)
    (cc_whole_lot : PySem.W.codeIn K cd_whole_lot "whole_lot" = true)
    (kk_whole_lot : PySem.W.keepIn K (.ref fa_whole_lot) = true)
    (a_Family_or : PySem.W.findIn K (.ref ca_Family) "__or__" = some (some (.ref fa_Family_or)))
    (i_Family_or : PySem.W.isFn K (.ref fa_Family_or) = true)
    (l_Family_or : K.lookup fa_Family_or = some ⟨oc_Family_or, od_Family_or, .func (PySem.W.fnOf "__or__" "Family.__or__" (defArgs s_Family_or) (defBody s_Family_or) (defScope s_Family_or) .none kV_Family_or dc_Family_or pm_Family_or an_Family_or cd_Family_or ct_Family_or), sl_Family_or⟩)
    (cc_Family_or : PySem.W.codeIn K cd_Family_or "Family.__or__" = true)
    (kk_Family_or : PySem.W.keepIn K (.ref fa_Family_or) = true)
    (a_Family_le : PySem.W.findIn K (.ref ca_Family) "__le__" = some (some (.ref fa_Family_le)))
    (i_Family_le : PySem.W.isFn K (.ref fa_Family_le) = true)
    (l_Family_le : K.lookup fa_Family_le = some ⟨oc_Family_le, od_Family_le, .func (PySem.W.fnOf "__le__" "Family.__le__" (defArgs s_Family_le) (defBody s_Family_le) (defScope s_Family_le) .none kV_Family_le dc_Family_le pm_Family_le an_Family_le cd_Family_le ct_Family_le), sl_Family_le⟩)
    (cc_Family_le : PySem.W.codeIn K cd_Family_le "Family.__le__" = true)
    (kk_Family_le : PySem.W.keepIn K (.ref fa_Family_le) = true)
    (a_Family_eq : PySem.W.findIn K (.ref ca_Family) "__eq__" = some (some (.ref fa_Family_eq)))
    (i_Family_eq : PySem.W.isFn K (.ref fa_Family_eq) = true)
    (l_Family_eq : K.lookup fa_Family_eq = some ⟨oc_Family_eq, od_Family_eq, .func (PySem.W.fnOf "__eq__" "Family.__eq__" (defArgs s_Family_eq) (defBody s_Family_eq) (defScope s_Family_eq) .none kV_Family_eq dc_Family_eq pm_Family_eq an_Family_eq cd_Family_eq ct_Family_eq), sl_Family_eq⟩)
    (cc_Family_eq : PySem.W.codeIn K cd_Family_eq "Family.__eq__" = true)
    (kk_Family_eq : PySem.W.keepIn K (.ref fa_Family_eq) = true)
    (a_Family_dual : PySem.W.findIn K (.ref ca_Family) "dual" = some (some (.ref fa_Family_dual)))
    (i_Family_dual : PySem.W.isFn K (.ref fa_Family_dual) = true)
    (l_Family_dual : K.lookup fa_Family_dual = some ⟨oc_Family_dual, od_Family_dual, .func (PySem.W.fnOf "dual" "Family.dual" (defArgs s_Family_dual) (defBody s_Family_dual) (defScope s_Family_dual) .none kV_Family_dual dc_Family_dual pm_Family_dual an_Family_dual cd_Family_dual ct_Family_dual), sl_Family_dual⟩)
    (cc_Family_dual : PySem.W.codeIn K cd_Family_dual "Family.dual" = true)
    (kk_Family_dual : PySem.W.keepIn K (.ref fa_Family_dual) = true)
    (rd_Family_each : PySem.W.readsIn K ca_Family (.type "type") = true)
    (sg_Family_each : PySem.W.specialIn K (.ref ca_Family) "__getattribute__" = some (some (.builtin "type.__getattribute__")))
    (sa1_Family_each : PySem.W.findCls K (.ref ca_Family) (.type "type") "each" = some (.get (.builtin "staticmethod.__get__") (.ref sp_Family_each) .none (.ref ca_Family)))
    (sa2_Family_each : PySem.W.recIn K sp_Family_each "staticmethod" = some (.ref fa_Family_each :: sr_Family_each))
    (l_Family_each : K.lookup fa_Family_each = some ⟨oc_Family_each, od_Family_each, .func (PySem.W.fnOf "each" "Family.each" (defArgs s_Family_each) (defBody s_Family_each) (defScope s_Family_each) .none kV_Family_each dc_Family_each pm_Family_each an_Family_each cd_Family_each ct_Family_each), sl_Family_each⟩)
    (cc_Family_each : PySem.W.codeIn K cd_Family_each "Family.each" = true)
    (kk_Family_each : PySem.W.keepIn K (.ref fa_Family_each) = true)
    (a_Ratio_init : PySem.W.findIn K (.ref ca_Ratio) "__init__" = some (some (.ref fa_Ratio_init)))
    (i_Ratio_init : PySem.W.isFn K (.ref fa_Ratio_init) = true)
    (l_Ratio_init : K.lookup fa_Ratio_init = some ⟨oc_Ratio_init, od_Ratio_init, .func (PySem.W.fnOf "__init__" "Ratio.__init__" (defArgs s_Ratio_init) (defBody s_Ratio_init) (defScope s_Ratio_init) (.ref dt_Ratio_init) kV_Ratio_init dc_Ratio_init pm_Ratio_init an_Ratio_init cd_Ratio_init ct_Ratio_init), sl_Ratio_init⟩)
    (cc_Ratio_init : PySem.W.codeIn K cd_Ratio_init "Ratio.__init__" = true)
    (kk_Ratio_init : PySem.W.keepIn K (.ref fa_Ratio_init) = true)
    (dl_Ratio_init : K.lookup dt_Ratio_init = some dto_Ratio_init)
    (dd_Ratio_init : dto_Ratio_init.data = .seq [.int 1 dk_Ratio_init0].toArray dtn_Ratio_init)
    (a_ratio_of : PySem.W.nsIn K mainGlobals "ratio_of" = some (some (.ref fa_ratio_of)))
    (l_ratio_of : K.lookup fa_ratio_of = some ⟨oc_ratio_of, od_ratio_of, .func (PySem.W.fnOf "ratio_of" "ratio_of" (defArgs s_ratio_of) (defBody s_ratio_of) (defScope s_ratio_of) .none kV_ratio_of dc_ratio_of pm_ratio_of an_ratio_of cd_ratio_of ct_ratio_of), sl_ratio_of⟩)
    (cc_ratio_of : PySem.W.codeIn K cd_ratio_of "ratio_of" = true)
    (kk_ratio_of : PySem.W.keepIn K (.ref fa_ratio_of) = true)
    (a_Ratio_eq : PySem.W.findIn K (.ref ca_Ratio) "__eq__" = some (some (.ref fa_Ratio_eq)))
    (i_Ratio_eq : PySem.W.isFn K (.ref fa_Ratio_eq) = true)
    (l_Ratio_eq : K.lookup fa_Ratio_eq = some ⟨oc_Ratio_eq, od_Ratio_eq, .func (PySem.W.fnOf "__eq__" "Ratio.__eq__" (defArgs s_Ratio_eq) (defBody s_Ratio_eq) (defScope s_Ratio_eq) .none kV_Ratio_eq dc_Ratio_eq pm_Ratio_eq an_Ratio_eq cd_Ratio_eq ct_Ratio_eq), sl_Ratio_eq⟩)
    (cc_Ratio_eq : PySem.W.codeIn K cd_Ratio_eq "Ratio.__eq__" = true)
    (kk_Ratio_eq : PySem.W.keepIn K (.ref fa_Ratio_eq) = true)
    (a_Ratio_lt : PySem.W.findIn K (.ref ca_Ratio) "__lt__" = some (some (.ref fa_Ratio_lt)))
    (i_Ratio_lt : PySem.W.isFn K (.ref fa_Ratio_lt) = true)
    (l_Ratio_lt : K.lookup fa_Ratio_lt = some ⟨oc_Ratio_lt, od_Ratio_lt, .func (PySem.W.fnOf "__lt__" "Ratio.__lt__" (defArgs s_Ratio_lt) (defBody s_Ratio_lt) (defScope s_Ratio_lt) .none kV_Ratio_lt dc_Ratio_lt pm_Ratio_lt an_Ratio_lt cd_Ratio_lt ct_Ratio_lt), sl_Ratio_lt⟩)
    (cc_Ratio_lt : PySem.W.codeIn K cd_Ratio_lt "Ratio.__lt__" = true)
    (kk_Ratio_lt : PySem.W.keepIn K (.ref fa_Ratio_lt) = true)
    (a_Ratio_le : PySem.W.findIn K (.ref ca_Ratio) "__le__" = some (some (.ref fa_Ratio_le)))
    (i_Ratio_le : PySem.W.isFn K (.ref fa_Ratio_le) = true)
    (l_Ratio_le : K.lookup fa_Ratio_le = some ⟨oc_Ratio_le, od_Ratio_le, .func (PySem.W.fnOf "__le__" "Ratio.__le__" (defArgs s_Ratio_le) (defBody s_Ratio_le) (defScope s_Ratio_le) .none kV_Ratio_le dc_Ratio_le pm_Ratio_le an_Ratio_le cd_Ratio_le ct_Ratio_le), sl_Ratio_le⟩)
    (cc_Ratio_le : PySem.W.codeIn K cd_Ratio_le "Ratio.__le__" = true)
    (kk_Ratio_le : PySem.W.keepIn K (.ref fa_Ratio_le) = true)
    (a_Ratio_gt : PySem.W.findIn K (.ref ca_Ratio) "__gt__" = some (some (.ref fa_Ratio_gt)))
    (i_Ratio_gt : PySem.W.isFn K (.ref fa_Ratio_gt) = true)
    (l_Ratio_gt : K.lookup fa_Ratio_gt = some ⟨oc_Ratio_gt, od_Ratio_gt, .func (PySem.W.fnOf "__gt__" "Ratio.__gt__" (defArgs s_Ratio_gt) (defBody s_Ratio_gt) (defScope s_Ratio_gt) .none kV_Ratio_gt dc_Ratio_gt pm_Ratio_gt an_Ratio_gt cd_Ratio_gt ct_Ratio_gt), sl_Ratio_gt⟩)
    (cc_Ratio_gt : PySem.W.codeIn K cd_Ratio_gt "Ratio.__gt__" = true)
    (kk_Ratio_gt : PySem.W.keepIn K (.ref fa_Ratio_gt) = true)
    (a_Ratio_ge : PySem.W.findIn K (.ref ca_Ratio) "__ge__" = some (some (.ref fa_Ratio_ge)))
    (i_Ratio_ge : PySem.W.isFn K (.ref fa_Ratio_ge) = true)
    (l_Ratio_ge : K.lookup fa_Ratio_ge = some ⟨oc_Ratio_ge, od_Ratio_ge, .func (PySem.W.fnOf "__ge__" "Ratio.__ge__" (defArgs s_Ratio_ge) (defBody s_Ratio_ge) (defScope s_Ratio_ge) .none kV_Ratio_ge dc_Ratio_ge pm_Ratio_ge an_Ratio_ge cd_Ratio_ge ct_Ratio_ge), sl_Ratio_ge⟩)
    (cc_Ratio_ge : PySem.W.codeIn K cd_Ratio_ge "Ratio.__ge__" = true)
    (kk_Ratio_ge : PySem.W.keepIn K (.ref fa_Ratio_ge) = true)
    (a_Ratio_add : PySem.W.findIn K (.ref ca_Ratio) "__add__" = some (some (.ref fa_Ratio_add)))
    (i_Ratio_add : PySem.W.isFn K (.ref fa_Ratio_add) = true)
    (l_Ratio_add : K.lookup fa_Ratio_add = some ⟨oc_Ratio_add, od_Ratio_add, .func (PySem.W.fnOf "__add__" "Ratio.__add__" (defArgs s_Ratio_add) (defBody s_Ratio_add) (defScope s_Ratio_add) .none kV_Ratio_add dc_Ratio_add pm_Ratio_add an_Ratio_add cd_Ratio_add ct_Ratio_add), sl_Ratio_add⟩)
    (cc_Ratio_add : PySem.W.codeIn K cd_Ratio_add "Ratio.__add__" = true)
    (kk_Ratio_add : PySem.W.keepIn K (.ref fa_Ratio_add) = true)
    (a_Ratio_radd : PySem.W.findIn K (.ref ca_Ratio) "__radd__" = some (some (.ref fa_Ratio_radd)))
    (i_Ratio_radd : PySem.W.isFn K (.ref fa_Ratio_radd) = true)
    (l_Ratio_radd : K.lookup fa_Ratio_radd = some ⟨oc_Ratio_radd, od_Ratio_radd, .func (PySem.W.fnOf "__radd__" "Ratio.__radd__" (defArgs s_Ratio_radd) (defBody s_Ratio_radd) (defScope s_Ratio_radd) .none kV_Ratio_radd dc_Ratio_radd pm_Ratio_radd an_Ratio_radd cd_Ratio_radd ct_Ratio_radd), sl_Ratio_radd⟩)
    (cc_Ratio_radd : PySem.W.codeIn K cd_Ratio_radd "Ratio.__radd__" = true)
    (kk_Ratio_radd : PySem.W.keepIn K (.ref fa_Ratio_radd) = true)
    (a_Ratio_sub : PySem.W.findIn K (.ref ca_Ratio) "__sub__" = some (some (.ref fa_Ratio_sub)))
    (i_Ratio_sub : PySem.W.isFn K (.ref fa_Ratio_sub) = true)
    (l_Ratio_sub : K.lookup fa_Ratio_sub = some ⟨oc_Ratio_sub, od_Ratio_sub, .func (PySem.W.fnOf "__sub__" "Ratio.__sub__" (defArgs s_Ratio_sub) (defBody s_Ratio_sub) (defScope s_Ratio_sub) .none kV_Ratio_sub dc_Ratio_sub pm_Ratio_sub an_Ratio_sub cd_Ratio_sub ct_Ratio_sub), sl_Ratio_sub⟩)
    (cc_Ratio_sub : PySem.W.codeIn K cd_Ratio_sub "Ratio.__sub__" = true)
    (kk_Ratio_sub : PySem.W.keepIn K (.ref fa_Ratio_sub) = true)
    (a_Ratio_rsub : PySem.W.findIn K (.ref ca_Ratio) "__rsub__" = some (some (.ref fa_Ratio_rsub)))
    (i_Ratio_rsub : PySem.W.isFn K (.ref fa_Ratio_rsub) = true)
    (l_Ratio_rsub : K.lookup fa_Ratio_rsub = some ⟨oc_Ratio_rsub, od_Ratio_rsub, .func (PySem.W.fnOf "__rsub__" "Ratio.__rsub__" (defArgs s_Ratio_rsub) (defBody s_Ratio_rsub) (defScope s_Ratio_rsub) .none kV_Ratio_rsub dc_Ratio_rsub pm_Ratio_rsub an_Ratio_rsub cd_Ratio_rsub ct_Ratio_rsub), sl_Ratio_rsub⟩)
    (cc_Ratio_rsub : PySem.W.codeIn K cd_Ratio_rsub "Ratio.__rsub__" = true)
    (kk_Ratio_rsub : PySem.W.keepIn K (.ref fa_Ratio_rsub) = true)
    (a_Ratio_mul : PySem.W.findIn K (.ref ca_Ratio) "__mul__" = some (some (.ref fa_Ratio_mul)))
    (i_Ratio_mul : PySem.W.isFn K (.ref fa_Ratio_mul) = true)
    (l_Ratio_mul : K.lookup fa_Ratio_mul = some ⟨oc_Ratio_mul, od_Ratio_mul, .func (PySem.W.fnOf "__mul__" "Ratio.__mul__" (defArgs s_Ratio_mul) (defBody s_Ratio_mul) (defScope s_Ratio_mul) .none kV_Ratio_mul dc_Ratio_mul pm_Ratio_mul an_Ratio_mul cd_Ratio_mul ct_Ratio_mul), sl_Ratio_mul⟩)
    (cc_Ratio_mul : PySem.W.codeIn K cd_Ratio_mul "Ratio.__mul__" = true)
    (kk_Ratio_mul : PySem.W.keepIn K (.ref fa_Ratio_mul) = true)
    (a_Ratio_rmul : PySem.W.findIn K (.ref ca_Ratio) "__rmul__" = some (some (.ref fa_Ratio_rmul)))
    (i_Ratio_rmul : PySem.W.isFn K (.ref fa_Ratio_rmul) = true)
    (l_Ratio_rmul : K.lookup fa_Ratio_rmul = some ⟨oc_Ratio_rmul, od_Ratio_rmul, .func (PySem.W.fnOf "__rmul__" "Ratio.__rmul__" (defArgs s_Ratio_rmul) (defBody s_Ratio_rmul) (defScope s_Ratio_rmul) .none kV_Ratio_rmul dc_Ratio_rmul pm_Ratio_rmul an_Ratio_rmul cd_Ratio_rmul ct_Ratio_rmul), sl_Ratio_rmul⟩)
    (cc_Ratio_rmul : PySem.W.codeIn K cd_Ratio_rmul "Ratio.__rmul__" = true)
    (kk_Ratio_rmul : PySem.W.keepIn K (.ref fa_Ratio_rmul) = true)
    (rd_Ratio_half : PySem.W.readsIn K ca_Ratio (.type "type") = true)
    (sg_Ratio_half : PySem.W.specialIn K (.ref ca_Ratio) "__getattribute__" = some (some (.builtin "type.__getattribute__")))
    (sa1_Ratio_half : PySem.W.findCls K (.ref ca_Ratio) (.type "type") "half" = some (.get (.builtin "staticmethod.__get__") (.ref sp_Ratio_half) .none (.ref ca_Ratio)))
    (sa2_Ratio_half : PySem.W.recIn K sp_Ratio_half "staticmethod" = some (.ref fa_Ratio_half :: sr_Ratio_half))
    (l_Ratio_half : K.lookup fa_Ratio_half = some ⟨oc_Ratio_half, od_Ratio_half, .func (PySem.W.fnOf "half" "Ratio.half" (defArgs s_Ratio_half) (defBody s_Ratio_half) (defScope s_Ratio_half) .none kV_Ratio_half dc_Ratio_half pm_Ratio_half an_Ratio_half cd_Ratio_half ct_Ratio_half), sl_Ratio_half⟩)
    (cc_Ratio_half : PySem.W.codeIn K cd_Ratio_half "Ratio.half" = true)
    (kk_Ratio_half : PySem.W.keepIn K (.ref fa_Ratio_half) = true)
    (a_Ratio_divided : PySem.W.findIn K (.ref ca_Ratio) "divided" = some (some (.ref fa_Ratio_divided)))
    (i_Ratio_divided : PySem.W.isFn K (.ref fa_Ratio_divided) = true)
    (l_Ratio_divided : K.lookup fa_Ratio_divided = some ⟨oc_Ratio_divided, od_Ratio_divided, .func (PySem.W.fnOf "divided" "Ratio.divided" (defArgs s_Ratio_divided) (defBody s_Ratio_divided) (defScope s_Ratio_divided) .none kV_Ratio_divided dc_Ratio_divided pm_Ratio_divided an_Ratio_divided cd_Ratio_divided ct_Ratio_divided), sl_Ratio_divided⟩)
    (cc_Ratio_divided : PySem.W.codeIn K cd_Ratio_divided "Ratio.divided" = true)
    (kk_Ratio_divided : PySem.W.keepIn K (.ref fa_Ratio_divided) = true)
    (a_is_short : PySem.W.nsIn K mainGlobals "is_short" = some (some (.ref fa_is_short)))
    (l_is_short : K.lookup fa_is_short = some ⟨oc_is_short, od_is_short, .func (PySem.W.fnOf "is_short" "is_short" (defArgs s_is_short) (defBody s_is_short) (defScope s_is_short) .none kV_is_short dc_is_short pm_is_short an_is_short cd_is_short ct_is_short), sl_is_short⟩)
    (cc_is_short : PySem.W.codeIn K cd_is_short "is_short" = true)
    (kk_is_short : PySem.W.keepIn K (.ref fa_is_short) = true)
    (a_check_chance : PySem.W.nsIn K mainGlobals "check_chance" = some (some (.ref fa_check_chance)))
    (l_check_chance : K.lookup fa_check_chance = some ⟨oc_check_chance, od_check_chance, .func (PySem.W.fnOf "check_chance" "check_chance" (defArgs s_check_chance) (defBody s_check_chance) (defScope s_check_chance) .none kV_check_chance dc_check_chance pm_check_chance an_check_chance cd_check_chance ct_check_chance), sl_check_chance⟩)
    (cc_check_chance : PySem.W.codeIn K cd_check_chance "check_chance" = true)
    (kk_check_chance : PySem.W.keepIn K (.ref fa_check_chance) = true)
    (a_scale_of : PySem.W.nsIn K mainGlobals "scale_of" = some (some (.ref fa_scale_of)))
    (l_scale_of : K.lookup fa_scale_of = some ⟨oc_scale_of, od_scale_of, .func (PySem.W.fnOf "scale_of" "scale_of" (defArgs s_scale_of) (defBody s_scale_of) (defScope s_scale_of) .none kV_scale_of dc_scale_of pm_scale_of an_scale_of cd_scale_of ct_scale_of), sl_scale_of⟩)
    (cc_scale_of : PySem.W.codeIn K cd_scale_of "scale_of" = true)
    (kk_scale_of : PySem.W.keepIn K (.ref fa_scale_of) = true)
    (a_counts_of : PySem.W.nsIn K mainGlobals "counts_of" = some (some (.ref fa_counts_of)))
    (l_counts_of : K.lookup fa_counts_of = some ⟨oc_counts_of, od_counts_of, .func (PySem.W.fnOf "counts_of" "counts_of" (defArgs s_counts_of) (defBody s_counts_of) (defScope s_counts_of) .none kV_counts_of dc_counts_of pm_counts_of an_counts_of cd_counts_of ct_counts_of), sl_counts_of⟩)
    (cc_counts_of : PySem.W.codeIn K cd_counts_of "counts_of" = true)
    (kk_counts_of : PySem.W.keepIn K (.ref fa_counts_of) = true)
    (a_Chances_init : PySem.W.findIn K (.ref ca_Chances) "__init__" = some (some (.ref fa_Chances_init)))
    (i_Chances_init : PySem.W.isFn K (.ref fa_Chances_init) = true)
    (l_Chances_init : K.lookup fa_Chances_init = some ⟨oc_Chances_init, od_Chances_init, .func (PySem.W.fnOf "__init__" "Chances.__init__" (defArgs s_Chances_init) (defBody s_Chances_init) (defScope s_Chances_init) .none kV_Chances_init dc_Chances_init pm_Chances_init an_Chances_init cd_Chances_init ct_Chances_init), sl_Chances_init⟩)
    (cc_Chances_init : PySem.W.codeIn K cd_Chances_init "Chances.__init__" = true)
    (kk_Chances_init : PySem.W.keepIn K (.ref fa_Chances_init) = true)
    (a_Chances_add : PySem.W.findIn K (.ref ca_Chances) "__add__" = some (some (.ref fa_Chances_add)))
    (i_Chances_add : PySem.W.isFn K (.ref fa_Chances_add) = true)
    (l_Chances_add : K.lookup fa_Chances_add = some ⟨oc_Chances_add, od_Chances_add, .func (PySem.W.fnOf "__add__" "Chances.__add__" (defArgs s_Chances_add) (defBody s_Chances_add) (defScope s_Chances_add) .none kV_Chances_add dc_Chances_add pm_Chances_add an_Chances_add cd_Chances_add ct_Chances_add), sl_Chances_add⟩)
    (cc_Chances_add : PySem.W.codeIn K cd_Chances_add "Chances.__add__" = true)
    (kk_Chances_add : PySem.W.keepIn K (.ref fa_Chances_add) = true)
    (a_Chances_len : PySem.W.findIn K (.ref ca_Chances) "__len__" = some (some (.ref fa_Chances_len)))
    (i_Chances_len : PySem.W.isFn K (.ref fa_Chances_len) = true)
    (l_Chances_len : K.lookup fa_Chances_len = some ⟨oc_Chances_len, od_Chances_len, .func (PySem.W.fnOf "__len__" "Chances.__len__" (defArgs s_Chances_len) (defBody s_Chances_len) (defScope s_Chances_len) .none kV_Chances_len dc_Chances_len pm_Chances_len an_Chances_len cd_Chances_len ct_Chances_len), sl_Chances_len⟩)
    (cc_Chances_len : PySem.W.codeIn K cd_Chances_len "Chances.__len__" = true)
    (kk_Chances_len : PySem.W.keepIn K (.ref fa_Chances_len) = true)
    (a_Chances_alone : PySem.W.findIn K (.ref ca_Chances) "alone" = some (some (.ref fa_Chances_alone)))
    (i_Chances_alone : PySem.W.isFn K (.ref fa_Chances_alone) = true)
    (l_Chances_alone : K.lookup fa_Chances_alone = some ⟨oc_Chances_alone, od_Chances_alone, .func (PySem.W.fnOf "alone" "Chances.alone" (defArgs s_Chances_alone) (defBody s_Chances_alone) (defScope s_Chances_alone) .none kV_Chances_alone dc_Chances_alone pm_Chances_alone an_Chances_alone cd_Chances_alone ct_Chances_alone), sl_Chances_alone⟩)
    (cc_Chances_alone : PySem.W.codeIn K cd_Chances_alone "Chances.alone" = true)
    (kk_Chances_alone : PySem.W.keepIn K (.ref fa_Chances_alone) = true)
    (a_Chances_up : PySem.W.findIn K (.ref ca_Chances) "up" = some (some (.ref fa_Chances_up)))
    (i_Chances_up : PySem.W.isFn K (.ref fa_Chances_up) = true)
    (l_Chances_up : K.lookup fa_Chances_up = some ⟨oc_Chances_up, od_Chances_up, .func (PySem.W.fnOf "up" "Chances.up" (defArgs s_Chances_up) (defBody s_Chances_up) (defScope s_Chances_up) .none kV_Chances_up dc_Chances_up pm_Chances_up an_Chances_up cd_Chances_up ct_Chances_up), sl_Chances_up⟩)
    (cc_Chances_up : PySem.W.codeIn K cd_Chances_up "Chances.up" = true)
    (kk_Chances_up : PySem.W.keepIn K (.ref fa_Chances_up) = true)
    (a_check_share : PySem.W.nsIn K mainGlobals "check_share" = some (some (.ref fa_check_share)))
    (l_check_share : K.lookup fa_check_share = some ⟨oc_check_share, od_check_share, .func (PySem.W.fnOf "check_share" "check_share" (defArgs s_check_share) (defBody s_check_share) (defScope s_check_share) .none kV_check_share dc_check_share pm_check_share an_check_share cd_check_share ct_check_share), sl_check_share⟩)
    (cc_check_share : PySem.W.codeIn K cd_check_share "check_share" = true)
    (kk_check_share : PySem.W.keepIn K (.ref fa_check_share) = true)
    (a_gain : PySem.W.nsIn K mainGlobals "gain" = some (some (.ref fa_gain)))
    (l_gain : K.lookup fa_gain = some ⟨oc_gain, od_gain, .func (PySem.W.fnOf "gain" "gain" (defArgs s_gain) (defBody s_gain) (defScope s_gain) .none kV_gain dc_gain pm_gain an_gain cd_gain ct_gain), sl_gain⟩)
    (cc_gain : PySem.W.codeIn K cd_gain "gain" = true)
    (kk_gain : PySem.W.keepIn K (.ref fa_gain) = true)
    (a_with_whole : PySem.W.nsIn K mainGlobals "with_whole" = some (some (.ref fa_with_whole)))
    (l_with_whole : K.lookup fa_with_whole = some ⟨oc_with_whole, od_with_whole, .func (PySem.W.fnOf "with_whole" "with_whole" (defArgs s_with_whole) (defBody s_with_whole) (defScope s_with_whole) .none kV_with_whole dc_with_whole pm_with_whole an_with_whole cd_with_whole ct_with_whole), sl_with_whole⟩)
    (cc_with_whole : PySem.W.codeIn K cd_with_whole "with_whole" = true)
    (kk_with_whole : PySem.W.keepIn K (.ref fa_with_whole) = true)
    (a_most_worth : PySem.W.nsIn K mainGlobals "most_worth" = some (some (.ref fa_most_worth)))
    (l_most_worth : K.lookup fa_most_worth = some ⟨oc_most_worth, od_most_worth, .func (PySem.W.fnOf "most_worth" "most_worth" (defArgs s_most_worth) (defBody s_most_worth) (defScope s_most_worth) .none kV_most_worth dc_most_worth pm_most_worth an_most_worth cd_most_worth ct_most_worth), sl_most_worth⟩)
    (cc_most_worth : PySem.W.codeIn K cd_most_worth "most_worth" = true)
    (kk_most_worth : PySem.W.keepIn K (.ref fa_most_worth) = true)
    (a_least_writes : PySem.W.nsIn K mainGlobals "least_writes" = some (some (.ref fa_least_writes)))
    (l_least_writes : K.lookup fa_least_writes = some ⟨oc_least_writes, od_least_writes, .func (PySem.W.fnOf "least_writes" "least_writes" (defArgs s_least_writes) (defBody s_least_writes) (defScope s_least_writes) .none kV_least_writes dc_least_writes pm_least_writes an_least_writes cd_least_writes ct_least_writes), sl_least_writes⟩)
    (cc_least_writes : PySem.W.codeIn K cd_least_writes "least_writes" = true)
    (kk_least_writes : PySem.W.keepIn K (.ref fa_least_writes) = true)
    (a_greatest_writes : PySem.W.nsIn K mainGlobals "greatest_writes" = some (some (.ref fa_greatest_writes)))
    (l_greatest_writes : K.lookup fa_greatest_writes = some ⟨oc_greatest_writes, od_greatest_writes, .func (PySem.W.fnOf "greatest_writes" "greatest_writes" (defArgs s_greatest_writes) (defBody s_greatest_writes) (defScope s_greatest_writes) .none kV_greatest_writes dc_greatest_writes pm_greatest_writes an_greatest_writes cd_greatest_writes ct_greatest_writes), sl_greatest_writes⟩)
    (cc_greatest_writes : PySem.W.codeIn K cd_greatest_writes "greatest_writes" = true)
    (kk_greatest_writes : PySem.W.keepIn K (.ref fa_greatest_writes) = true)
    (a_is_best : PySem.W.nsIn K mainGlobals "is_best" = some (some (.ref fa_is_best)))
    (l_is_best : K.lookup fa_is_best = some ⟨oc_is_best, od_is_best, .func (PySem.W.fnOf "is_best" "is_best" (defArgs s_is_best) (defBody s_is_best) (defScope s_is_best) .none kV_is_best dc_is_best pm_is_best an_is_best cd_is_best ct_is_best), sl_is_best⟩)
    (cc_is_best : PySem.W.codeIn K cd_is_best "is_best" = true)
    (kk_is_best : PySem.W.keepIn K (.ref fa_is_best) = true)
    (a_lot_break : PySem.W.nsIn K mainGlobals "lot_break" = some (some (.ref fa_lot_break)))
    (l_lot_break : K.lookup fa_lot_break = some ⟨oc_lot_break, od_lot_break, .func (PySem.W.fnOf "lot_break" "lot_break" (defArgs s_lot_break) (defBody s_lot_break) (defScope s_lot_break) .none kV_lot_break dc_lot_break pm_lot_break an_lot_break cd_lot_break ct_lot_break), sl_lot_break⟩)
    (cc_lot_break : PySem.W.codeIn K cd_lot_break "lot_break" = true)
    (kk_lot_break : PySem.W.keepIn K (.ref fa_lot_break) = true)
    (a_lot_breaks : PySem.W.nsIn K mainGlobals "lot_breaks" = some (some (.ref fa_lot_breaks)))
    (l_lot_breaks : K.lookup fa_lot_breaks = some ⟨oc_lot_breaks, od_lot_breaks, .func (PySem.W.fnOf "lot_breaks" "lot_breaks" (defArgs s_lot_breaks) (defBody s_lot_breaks) (defScope s_lot_breaks) .none kV_lot_breaks dc_lot_breaks pm_lot_breaks an_lot_breaks cd_lot_breaks ct_lot_breaks), sl_lot_breaks⟩)
    (cc_lot_breaks : PySem.W.codeIn K cd_lot_breaks "lot_breaks" = true)
    (kk_lot_breaks : PySem.W.keepIn K (.ref fa_lot_breaks) = true)
    (a_breaks : PySem.W.nsIn K mainGlobals "breaks" = some (some (.ref fa_breaks)))
    (l_breaks : K.lookup fa_breaks = some ⟨oc_breaks, od_breaks, .func (PySem.W.fnOf "breaks" "breaks" (defArgs s_breaks) (defBody s_breaks) (defScope s_breaks) .none kV_breaks dc_breaks pm_breaks an_breaks cd_breaks ct_breaks), sl_breaks⟩)
    (cc_breaks : PySem.W.codeIn K cd_breaks "breaks" = true)
    (kk_breaks : PySem.W.keepIn K (.ref fa_breaks) = true)
    (a_piece : PySem.W.nsIn K mainGlobals "piece" = some (some (.ref fa_piece)))
    (l_piece : K.lookup fa_piece = some ⟨oc_piece, od_piece, .func (PySem.W.fnOf "piece" "piece" (defArgs s_piece) (defBody s_piece) (defScope s_piece) .none kV_piece dc_piece pm_piece an_piece cd_piece ct_piece), sl_piece⟩)
    (cc_piece : PySem.W.codeIn K cd_piece "piece" = true)
    (kk_piece : PySem.W.keepIn K (.ref fa_piece) = true)
    (a_Curve_init : PySem.W.findIn K (.ref ca_Curve) "__init__" = some (some (.ref fa_Curve_init)))
    (i_Curve_init : PySem.W.isFn K (.ref fa_Curve_init) = true)
    (l_Curve_init : K.lookup fa_Curve_init = some ⟨oc_Curve_init, od_Curve_init, .func (PySem.W.fnOf "__init__" "Curve.__init__" (defArgs s_Curve_init) (defBody s_Curve_init) (defScope s_Curve_init) .none kV_Curve_init dc_Curve_init pm_Curve_init an_Curve_init cd_Curve_init ct_Curve_init), sl_Curve_init⟩)
    (cc_Curve_init : PySem.W.codeIn K cd_Curve_init "Curve.__init__" = true)
    (kk_Curve_init : PySem.W.keepIn K (.ref fa_Curve_init) = true)
    (a_Curve_call : PySem.W.findIn K (.ref ca_Curve) "__call__" = some (some (.ref fa_Curve_call)))
    (i_Curve_call : PySem.W.isFn K (.ref fa_Curve_call) = true)
    (l_Curve_call : K.lookup fa_Curve_call = some ⟨oc_Curve_call, od_Curve_call, .func (PySem.W.fnOf "__call__" "Curve.__call__" (defArgs s_Curve_call) (defBody s_Curve_call) (defScope s_Curve_call) .none kV_Curve_call dc_Curve_call pm_Curve_call an_Curve_call cd_Curve_call ct_Curve_call), sl_Curve_call⟩)
    (cc_Curve_call : PySem.W.codeIn K cd_Curve_call "Curve.__call__" = true)
    (kk_Curve_call : PySem.W.keepIn K (.ref fa_Curve_call) = true)
    (a_l_start : PySem.W.nsIn K mainGlobals "_law_start" = some (some (.ref fa_l_start)))
    (l_l_start : K.lookup fa_l_start = some ⟨oc_l_start, od_l_start, .func (PySem.W.fnOf "_law_start" "_law_start" (defArgs s_l_start) (defBody s_l_start) (defScope s_l_start) .none kV_l_start dc_l_start pm_l_start an_l_start cd_l_start ct_l_start), sl_l_start⟩)
    (cc_l_start : PySem.W.codeIn K cd_l_start "_law_start" = true)
    (kk_l_start : PySem.W.keepIn K (.ref fa_l_start) = true)
    (a_l_draw : PySem.W.nsIn K mainGlobals "_law_draw" = some (some (.ref fa_l_draw)))
    (l_l_draw : K.lookup fa_l_draw = some ⟨oc_l_draw, od_l_draw, .func (PySem.W.fnOf "_law_draw" "_law_draw" (defArgs s_l_draw) (defBody s_l_draw) (defScope s_l_draw) .none kV_l_draw dc_l_draw pm_l_draw an_l_draw cd_l_draw ct_l_draw), sl_l_draw⟩)
    (cc_l_draw : PySem.W.codeIn K cd_l_draw "_law_draw" = true)
    (kk_l_draw : PySem.W.keepIn K (.ref fa_l_draw) = true)
    (a_l_chances : PySem.W.nsIn K mainGlobals "_law_chances" = some (some (.ref fa_l_chances)))
    (l_l_chances : K.lookup fa_l_chances = some ⟨oc_l_chances, od_l_chances, .func (PySem.W.fnOf "_law_chances" "_law_chances" (defArgs s_l_chances) (defBody s_l_chances) (defScope s_l_chances) .none kV_l_chances dc_l_chances pm_l_chances an_l_chances cd_l_chances ct_l_chances), sl_l_chances⟩)
    (cc_l_chances : PySem.W.codeIn K cd_l_chances "_law_chances" = true)
    (kk_l_chances : PySem.W.keepIn K (.ref fa_l_chances) = true)
    (a_l_share : PySem.W.nsIn K mainGlobals "_law_share" = some (some (.ref fa_l_share)))
    (l_l_share : K.lookup fa_l_share = some ⟨oc_l_share, od_l_share, .func (PySem.W.fnOf "_law_share" "_law_share" (defArgs s_l_share) (defBody s_l_share) (defScope s_l_share) .none kV_l_share dc_l_share pm_l_share an_l_share cd_l_share ct_l_share), sl_l_share⟩)
    (cc_l_share : PySem.W.codeIn K cd_l_share "_law_share" = true)
    (kk_l_share : PySem.W.keepIn K (.ref fa_l_share) = true)
    (a_l_ratios : PySem.W.nsIn K mainGlobals "_law_ratios" = some (some (.ref fa_l_ratios)))
    (l_l_ratios : K.lookup fa_l_ratios = some ⟨oc_l_ratios, od_l_ratios, .func (PySem.W.fnOf "_law_ratios" "_law_ratios" (defArgs s_l_ratios) (defBody s_l_ratios) (defScope s_l_ratios) .none kV_l_ratios dc_l_ratios pm_l_ratios an_l_ratios cd_l_ratios ct_l_ratios), sl_l_ratios⟩)
    (cc_l_ratios : PySem.W.codeIn K cd_l_ratios "_law_ratios" = true)
    (kk_l_ratios : PySem.W.keepIn K (.ref fa_l_ratios) = true)
    (a_l_made : PySem.W.nsIn K mainGlobals "_law_made" = some (some (.ref fa_l_made)))
    (l_l_made : K.lookup fa_l_made = some ⟨oc_l_made, od_l_made, .func (PySem.W.fnOf "_law_made" "_law_made" (defArgs s_l_made) (defBody s_l_made) (defScope s_l_made) .none kV_l_made dc_l_made pm_l_made an_l_made cd_l_made ct_l_made), sl_l_made⟩)
    (cc_l_made : PySem.W.codeIn K cd_l_made "_law_made" = true)
    (kk_l_made : PySem.W.keepIn K (.ref fa_l_made) = true)
    (a_l_power : PySem.W.nsIn K mainGlobals "_law_power" = some (some (.ref fa_l_power)))
    (l_l_power : K.lookup fa_l_power = some ⟨oc_l_power, od_l_power, .func (PySem.W.fnOf "_law_power" "_law_power" (defArgs s_l_power) (defBody s_l_power) (defScope s_l_power) .none kV_l_power dc_l_power pm_l_power an_l_power cd_l_power ct_l_power), sl_l_power⟩)
    (cc_l_power : PySem.W.codeIn K cd_l_power "_law_power" = true)
    (kk_l_power : PySem.W.keepIn K (.ref fa_l_power) = true)
    (a_l_has : PySem.W.nsIn K mainGlobals "_law_has" = some (some (.ref fa_l_has)))
    (l_l_has : K.lookup fa_l_has = some ⟨oc_l_has, od_l_has, .func (PySem.W.fnOf "_law_has" "_law_has" (defArgs s_l_has) (defBody s_l_has) (defScope s_l_has) .none kV_l_has dc_l_has pm_l_has an_l_has cd_l_has ct_l_has), sl_l_has⟩)
    (cc_l_has : PySem.W.codeIn K cd_l_has "_law_has" = true)
    (kk_l_has : PySem.W.keepIn K (.ref fa_l_has) = true)
    (a_l_lot : PySem.W.nsIn K mainGlobals "_law_lot" = some (some (.ref fa_l_lot)))
    (l_l_lot : K.lookup fa_l_lot = some ⟨oc_l_lot, od_l_lot, .func (PySem.W.fnOf "_law_lot" "_law_lot" (defArgs s_l_lot) (defBody s_l_lot) (defScope s_l_lot) .none kV_l_lot dc_l_lot pm_l_lot an_l_lot cd_l_lot ct_l_lot), sl_l_lot⟩)
    (cc_l_lot : PySem.W.codeIn K cd_l_lot "_law_lot" = true)
    (kk_l_lot : PySem.W.keepIn K (.ref fa_l_lot) = true)
    (a_l_breaks_hold : PySem.W.nsIn K mainGlobals "_law_breaks_hold" = some (some (.ref fa_l_breaks_hold)))
    (l_l_breaks_hold : K.lookup fa_l_breaks_hold = some ⟨oc_l_breaks_hold, od_l_breaks_hold, .func (PySem.W.fnOf "_law_breaks_hold" "_law_breaks_hold" (defArgs s_l_breaks_hold) (defBody s_l_breaks_hold) (defScope s_l_breaks_hold) .none kV_l_breaks_hold dc_l_breaks_hold pm_l_breaks_hold an_l_breaks_hold cd_l_breaks_hold ct_l_breaks_hold), sl_l_breaks_hold⟩)
    (cc_l_breaks_hold : PySem.W.codeIn K cd_l_breaks_hold "_law_breaks_hold" = true)
    (kk_l_breaks_hold : PySem.W.keepIn K (.ref fa_l_breaks_hold) = true)
    (a_l_some_family : PySem.W.nsIn K mainGlobals "_law_some_family" = some (some (.ref fa_l_some_family)))
    (l_l_some_family : K.lookup fa_l_some_family = some ⟨oc_l_some_family, od_l_some_family, .func (PySem.W.fnOf "_law_some_family" "_law_some_family" (defArgs s_l_some_family) (defBody s_l_some_family) (defScope s_l_some_family) .none kV_l_some_family dc_l_some_family pm_l_some_family an_l_some_family cd_l_some_family ct_l_some_family), sl_l_some_family⟩)
    (cc_l_some_family : PySem.W.codeIn K cd_l_some_family "_law_some_family" = true)
    (kk_l_some_family : PySem.W.keepIn K (.ref fa_l_some_family) = true)
    (a_law : PySem.W.nsIn K mainGlobals "law" = some (some (.ref fa_law)))
    (l_law : K.lookup fa_law = some ⟨oc_law, od_law, .func (PySem.W.fnOf "law" "law" (defArgs s_law) (defBody s_law) (defScope s_law) .none kV_law dc_law pm_law an_law cd_law ct_law), sl_law⟩)
    (cc_law : PySem.W.codeIn K cd_law "law" = true)
    (kk_law : PySem.W.keepIn K (.ref fa_law) = true)
    (xL_BadNumber : K.lookup ca_BadNumber = some (excClassObj nm_BadNumber q_BadNumber ca_BadNumber N_BadNumber bs_BadNumber bm_BadNumber true sn_BadNumber sub_BadNumber ab_BadNumber col_BadNumber dd_BadNumber m0_BadNumber m1_BadNumber m2_BadNumber m3_BadNumber m5_BadNumber "ValueError.__new__"))
    (bm_ok_BadNumber : PySem.HandSPX.refsVE bm_BadNumber = true)
    (sa_BadNumber : PySem.W.findIn K (.ref ca_BadNumber) "__setattr__" = some (some (.builtin "object.__setattr__")))
    (eC_BadNumber : PySem.W.subIn K (.ref ca_BadNumber) (.type "BaseException") = some true)
    (tC_BadNumber : PySem.W.typeIn K (.ref ca_BadNumber) = some (.type "type"))
    (kC_BadNumber : PySem.W.keepIn K (.ref ca_BadNumber) = true)
    (tI_BadNumber : PySem.W.typeIn K (.ref fa_BadNumber_init) = some (.type "function"))
    (ga_BadNumber : PySem.W.findIn K (.ref ca_BadNumber) "__getattribute__" = some (some (.builtin "BaseException.__getattribute__")))
    (gg_BadNumber : PySem.W.findIn K (.ref ca_BadNumber) "__getattr__" = some none)
    (hd_BadNumber : PySem.W.hasDictIn K ca_BadNumber = true)
    (ic_BadNumber : PySem.W.isClsIn K ca_BadNumber = true)
    (cc_BadNumber : PySem.W.findIn K (.ref ca_BadNumber) "__class__" = some (some (.builtin "object.__class__")))
    (cm_BadNumber : PySem.W.mroIn K ca_BadNumber (.type "object") = some true)
    (n_BadNumber_what : PySem.W.findIn K (.ref ca_BadNumber) "what" = some none)
    (n_BadNumber_value : PySem.W.findIn K (.ref ca_BadNumber) "value" = some none)
    (xL_BadLot : K.lookup ca_BadLot = some (excClassObj nm_BadLot q_BadLot ca_BadLot N_BadLot bs_BadLot bm_BadLot true sn_BadLot sub_BadLot ab_BadLot col_BadLot dd_BadLot m0_BadLot m1_BadLot m2_BadLot m3_BadLot m5_BadLot "ValueError.__new__"))
    (bm_ok_BadLot : PySem.HandSPX.refsVE bm_BadLot = true)
    (sa_BadLot : PySem.W.findIn K (.ref ca_BadLot) "__setattr__" = some (some (.builtin "object.__setattr__")))
    (eC_BadLot : PySem.W.subIn K (.ref ca_BadLot) (.type "BaseException") = some true)
    (tC_BadLot : PySem.W.typeIn K (.ref ca_BadLot) = some (.type "type"))
    (kC_BadLot : PySem.W.keepIn K (.ref ca_BadLot) = true)
    (tI_BadLot : PySem.W.typeIn K (.ref fa_BadLot_init) = some (.type "function"))
    (ga_BadLot : PySem.W.findIn K (.ref ca_BadLot) "__getattribute__" = some (some (.builtin "BaseException.__getattribute__")))
    (gg_BadLot : PySem.W.findIn K (.ref ca_BadLot) "__getattr__" = some none)
    (hd_BadLot : PySem.W.hasDictIn K ca_BadLot = true)
    (ic_BadLot : PySem.W.isClsIn K ca_BadLot = true)
    (cc_BadLot : PySem.W.findIn K (.ref ca_BadLot) "__class__" = some (some (.builtin "object.__class__")))
    (cm_BadLot : PySem.W.mroIn K ca_BadLot (.type "object") = some true)
    (n_BadLot_place : PySem.W.findIn K (.ref ca_BadLot) "place" = some none)
    (q0_Unlike : PySem.W.excIn K ca_Unlike VEb "ValueError.__new__" = true)
    (kC_Unlike : PySem.W.keepIn K (.ref ca_Unlike) = true)
    (eC_Unlike : PySem.W.subIn K (.ref ca_Unlike) (.type "BaseException") = some true)
    (tC_Unlike : PySem.W.typeIn K (.ref ca_Unlike) = some (.type "type"))
    (ga_Unlike : PySem.W.findIn K (.ref ca_Unlike) "__getattribute__" = some (some (.builtin "BaseException.__getattribute__")))
    (gg_Unlike : PySem.W.findIn K (.ref ca_Unlike) "__getattr__" = some none)
    (ic_Unlike : PySem.W.isClsIn K ca_Unlike = true)
    (cc_Unlike : PySem.W.findIn K (.ref ca_Unlike) "__class__" = some (some (.builtin "object.__class__")))
    (cm_Unlike : PySem.W.mroIn K ca_Unlike (.type "object") = some true)
    (cn_ : PySem.W.specialIn K (.builtin "object.__class__") "__get__" = some (some (.builtin "getset_descriptor.__get__")))
    (ct_ : PySem.W.takesIn K (.builtin "object.__class__") = some true)
    (pg_Ratio : PySem.W.plainGet K ca_Ratio Str.empty = true)
    (hd_Ratio : PySem.W.hasDictIn K ca_Ratio = true)
    (po_Ratio : PySem.W.plainOver K ca_Ratio = true)
    (sa_Ratio : PySem.W.findIn K (.ref ca_Ratio) "__setattr__" = some (some (.builtin "object.__setattr__")))
    (mk_Ratio : PySem.W.makesIn K ca_Ratio = true)
    (kc_Ratio : PySem.W.keepIn K (.ref ca_Ratio) = true)
    (oh_Ratio_add : PySem.W.findIn K (.ref ca_Ratio) (PySem.dunder "add") = some (some (.ref fa_Ratio_add)))
    (oh_Ratio_radd : PySem.W.findIn K (.ref ca_Ratio) (PySem.dunderR "add") = some (some (.ref fa_Ratio_radd)))
    (oh_Ratio_sub : PySem.W.findIn K (.ref ca_Ratio) (PySem.dunder "sub") = some (some (.ref fa_Ratio_sub)))
    (oh_Ratio_rsub : PySem.W.findIn K (.ref ca_Ratio) (PySem.dunderR "sub") = some (some (.ref fa_Ratio_rsub)))
    (oh_Ratio_mul : PySem.W.findIn K (.ref ca_Ratio) (PySem.dunder "mul") = some (some (.ref fa_Ratio_mul)))
    (oh_Ratio_rmul : PySem.W.findIn K (.ref ca_Ratio) (PySem.dunderR "mul") = some (some (.ref fa_Ratio_rmul)))
    (sf_Ratio : PySem.W.selfFirst K ca_Ratio = true)
    (ni_Ratio : PySem.W.subIn K (.ref ca_Ratio) (.type "int") = some false)
    (in_Ratio : PySem.W.subIn K (.type "int") (.ref ca_Ratio) = some false)
    (ne_Ratio : PySem.W.findIn K (.ref ca_Ratio) "__ne__" = some (some (.builtin "object.__ne__")))
    (cc_Ratio : PySem.W.findIn K (.ref ca_Ratio) "__class__" = some (some (.builtin "object.__class__")))
    (cm_Ratio : PySem.W.mroIn K ca_Ratio (.type "object") = some true)
    (n_Ratio_over : PySem.W.findIn K (.ref ca_Ratio) "over" = some none)
    (n_Ratio_under : PySem.W.findIn K (.ref ca_Ratio) "under" = some none)
    (pg_Chances : PySem.W.plainGet K ca_Chances Str.empty = true)
    (hd_Chances : PySem.W.hasDictIn K ca_Chances = true)
    (po_Chances : PySem.W.plainOver K ca_Chances = true)
    (sa_Chances : PySem.W.findIn K (.ref ca_Chances) "__setattr__" = some (some (.builtin "object.__setattr__")))
    (mk_Chances : PySem.W.makesIn K ca_Chances = true)
    (kc_Chances : PySem.W.keepIn K (.ref ca_Chances) = true)
    (oh_Chances_add : PySem.W.findIn K (.ref ca_Chances) (PySem.dunder "add") = some (some (.ref fa_Chances_add)))
    (sf_Chances : PySem.W.selfFirst K ca_Chances = true)
    (ni_Chances : PySem.W.subIn K (.ref ca_Chances) (.type "int") = some false)
    (in_Chances : PySem.W.subIn K (.type "int") (.ref ca_Chances) = some false)
    (ne_Chances : PySem.W.findIn K (.ref ca_Chances) "__ne__" = some (some (.builtin "object.__ne__")))
    (cc_Chances : PySem.W.findIn K (.ref ca_Chances) "__class__" = some (some (.builtin "object.__class__")))
    (cm_Chances : PySem.W.mroIn K ca_Chances (.type "object") = some true)
    (n_Chances_ratios : PySem.W.findIn K (.ref ca_Chances) "ratios" = some none)
    (n_Chances_scale : PySem.W.findIn K (.ref ca_Chances) "scale" = some none)
    (n_Chances_counts : PySem.W.findIn K (.ref ca_Chances) "counts" = some none)
    (pg_Family : PySem.W.plainGet K ca_Family Str.empty = true)
    (hd_Family : PySem.W.hasDictIn K ca_Family = true)
    (po_Family : PySem.W.plainOver K ca_Family = true)
    (sa_Family : PySem.W.findIn K (.ref ca_Family) "__setattr__" = some (some (.builtin "object.__setattr__")))
    (mk_Family : PySem.W.makesIn K ca_Family = true)
    (kc_Family : PySem.W.keepIn K (.ref ca_Family) = true)
    (oh_Family_or : PySem.W.findIn K (.ref ca_Family) (PySem.dunder "or") = some (some (.ref fa_Family_or)))
    (sf_Family : PySem.W.selfFirst K ca_Family = true)
    (ni_Family : PySem.W.subIn K (.ref ca_Family) (.type "int") = some false)
    (in_Family : PySem.W.subIn K (.type "int") (.ref ca_Family) = some false)
    (ne_Family : PySem.W.findIn K (.ref ca_Family) "__ne__" = some (some (.builtin "object.__ne__")))
    (cc_Family : PySem.W.findIn K (.ref ca_Family) "__class__" = some (some (.builtin "object.__class__")))
    (cm_Family : PySem.W.mroIn K ca_Family (.type "object") = some true)
    (n_Family_copies : PySem.W.findIn K (.ref ca_Family) "copies" = some none)
    (n_Family_lots : PySem.W.findIn K (.ref ca_Family) "lots" = some none)
    (n_Family_marks : PySem.W.findIn K (.ref ca_Family) "marks" = some none)
    (pg_Curve : PySem.W.plainGet K ca_Curve Str.empty = true)
    (hd_Curve : PySem.W.hasDictIn K ca_Curve = true)
    (po_Curve : PySem.W.plainOver K ca_Curve = true)
    (sa_Curve : PySem.W.findIn K (.ref ca_Curve) "__setattr__" = some (some (.builtin "object.__setattr__")))
    (mk_Curve : PySem.W.makesIn K ca_Curve = true)
    (kc_Curve : PySem.W.keepIn K (.ref ca_Curve) = true)
    (sf_Curve : PySem.W.selfFirst K ca_Curve = true)
    (ni_Curve : PySem.W.subIn K (.ref ca_Curve) (.type "int") = some false)
    (in_Curve : PySem.W.subIn K (.type "int") (.ref ca_Curve) = some false)
    (ne_Curve : PySem.W.findIn K (.ref ca_Curve) "__ne__" = some (some (.builtin "object.__ne__")))
    (cc_Curve : PySem.W.findIn K (.ref ca_Curve) "__class__" = some (some (.builtin "object.__class__")))
    (cm_Curve : PySem.W.mroIn K ca_Curve (.type "object") = some true)
    (n_Curve_rows : PySem.W.findIn K (.ref ca_Curve) "rows" = some none)
    (ih_add : PySem.W.findIn K (.type "int") (PySem.dunder "add") = some (some (.builtin "int.__add__")))
    (ihr_add : PySem.W.findIn K (.type "int") (PySem.dunderR "add") = some (some (.builtin "int.__radd__")))
    (ih_sub : PySem.W.findIn K (.type "int") (PySem.dunder "sub") = some (some (.builtin "int.__sub__")))
    (ihr_sub : PySem.W.findIn K (.type "int") (PySem.dunderR "sub") = some (some (.builtin "int.__rsub__")))
    (ih_mul : PySem.W.findIn K (.type "int") (PySem.dunder "mul") = some (some (.builtin "int.__mul__")))
    (ihr_mul : PySem.W.findIn K (.type "int") (PySem.dunderR "mul") = some (some (.builtin "int.__rmul__")))
    (ki_Ratio_Ratio : PySem.W.kitOne K (.ref ca_Ratio) (.ref ca_Ratio) = some true)
    (ki_Chances_Chances : PySem.W.kitOne K (.ref ca_Chances) (.ref ca_Chances) = some true)
    (ki_Family_Family : PySem.W.kitOne K (.ref ca_Family) (.ref ca_Family) = some true)
    (ki_int_Ratio : PySem.W.kitOne K (.type "int") (.ref ca_Ratio) = some false)
    (ki_bool_Ratio : PySem.W.kitOne K (.type "bool") (.ref ca_Ratio) = some false)
    (ki_NoneType_Ratio : PySem.W.kitOne K (.type "NoneType") (.ref ca_Ratio) = some false)
    (ki_str_Ratio : PySem.W.kitOne K (.type "str") (.ref ca_Ratio) = some false)
    (gi_gcd : PySem.W.nsIn K mainGlobals "gcd" = some (some (.builtin "math.gcd")))
    (gk_MOST_COPIES : PySem.W.nsIn K mainGlobals "MOST_COPIES" = some (some (.int 8 gt_MOST_COPIES)))
    (gk_MOST_UNDER : PySem.W.nsIn K mainGlobals "MOST_UNDER" = some (some (.int 1000 gt_MOST_UNDER)))
    (mb_abs : PySem.W.nsIn K mainGlobals "abs" = some none)
    (mb_all : PySem.W.nsIn K mainGlobals "all" = some none)
    (mb_any : PySem.W.nsIn K mainGlobals "any" = some none)
    (mb_bool : PySem.W.nsIn K mainGlobals "bool" = some none)
    (mb_enumerate : PySem.W.nsIn K mainGlobals "enumerate" = some none)
    (mb_int : PySem.W.nsIn K mainGlobals "int" = some none)
    (mb_isinstance : PySem.W.nsIn K mainGlobals "isinstance" = some none)
    (mb_len : PySem.W.nsIn K mainGlobals "len" = some none)
    (mb_range : PySem.W.nsIn K mainGlobals "range" = some none)
    (mb_sum : PySem.W.nsIn K mainGlobals "sum" = some none)
    (mb_tuple : PySem.W.nsIn K mainGlobals "tuple" = some none)
    (mb_zip : PySem.W.nsIn K mainGlobals "zip" = some none) :
    ∃ fd : FuncData, (∀ (s : Shared) (v : Value), BindsTo s fd ⟨[v], []⟩ [("_law_script", v)]) ∧ ∀ base : Heap, K.In base → base.Ns mainGlobals mg → FnOk l.prog w K mg base CX0 20 fa fd ["_law_script"] (spLaw K) := by
  have e := hfa.symm.trans (PySem.W.mg_of X G a_law)
  cases e
  have FF_BadNumber_init := fun_mk (st := s_BadNumber_init) l_BadNumber_init cc_BadNumber_init kk_BadNumber_init
  have bb_BadNumber_init := FF_BadNumber_init.binds (ps := ["self", "what", "value"]) fun _ _ _ _ _ _ us hl => match us, hl with | [_, _, _], _ => rfl
  have FF_BadLot_init := fun_mk (st := s_BadLot_init) l_BadLot_init cc_BadLot_init kk_BadLot_init
  have bb_BadLot_init := FF_BadLot_init.binds (ps := ["self", "place"]) fun _ _ _ _ _ _ us hl => match us, hl with | [_, _], _ => rfl
  have FF_is_integer := fun_mk (st := s_is_integer) l_is_integer cc_is_integer kk_is_integer
  have bb_is_integer := FF_is_integer.binds (ps := ["value"]) fun _ _ _ _ _ _ us hl => match us, hl with | [_], _ => rfl
  have FF_check_number := fun_mk (st := s_check_number) l_check_number cc_check_number kk_check_number
  have bb_check_number := FF_check_number.binds (ps := ["what", "value", "low", "high"]) fun _ _ _ _ _ _ us hl => match us, hl with | [_, _, _, _], _ => rfl
  have FF_check_copies := fun_mk (st := s_check_copies) l_check_copies cc_check_copies kk_check_copies
  have bb_check_copies := FF_check_copies.binds (ps := ["copies"]) fun _ _ _ _ _ _ us hl => match us, hl with | [_], _ => rfl
  have FF_check_copy := fun_mk (st := s_check_copy) l_check_copy cc_check_copy kk_check_copy
  have bb_check_copy := FF_check_copy.binds (ps := ["copies", "copy"]) fun _ _ _ _ _ _ us hl => match us, hl with | [_, _], _ => rfl
  have FF_mask_of := fun_mk (st := s_mask_of) l_mask_of cc_mask_of kk_mask_of
  have bb_mask_of := FF_mask_of.binds (ps := ["copies", "numbers"]) fun _ _ _ _ _ _ us hl => match us, hl with | [_, _], _ => rfl
  have FF_lot_at := fun_mk (st := s_lot_at) l_lot_at cc_lot_at kk_lot_at
  have bb_lot_at := FF_lot_at.binds (ps := ["mask"]) fun _ _ _ _ _ _ us hl => match us, hl with | [_], _ => rfl
  have FF_check_alike := fun_mk (st := s_check_alike) l_check_alike cc_check_alike kk_check_alike
  have bb_check_alike := FF_check_alike.binds (ps := ["copies", "other"]) fun _ _ _ _ _ _ us hl => match us, hl with | [_, _], _ => rfl
  have FF_is_within := fun_mk (st := s_is_within) l_is_within cc_is_within kk_is_within
  have bb_is_within := FF_is_within.binds (ps := ["marks", "more"]) fun _ _ _ _ _ _ us hl => match us, hl with | [_, _], _ => rfl
  have FF_masks_of := fun_mk (st := s_masks_of) l_masks_of cc_masks_of kk_masks_of
  have bb_masks_of := FF_masks_of.binds (ps := ["copies", "lots"]) fun _ _ _ _ _ _ us hl => match us, hl with | [_, _], _ => rfl
  have FF_marks_above := fun_mk (st := s_marks_above) l_marks_above cc_marks_above kk_marks_above
  have bb_marks_above := FF_marks_above.binds (ps := ["copies", "masks"]) fun _ _ _ _ _ _ us hl => match us, hl with | [_, _], _ => rfl
  have FF_minimal_lots := fun_mk (st := s_minimal_lots) l_minimal_lots cc_minimal_lots kk_minimal_lots
  have bb_minimal_lots := FF_minimal_lots.binds (ps := ["copies", "marks"]) fun _ _ _ _ _ _ us hl => match us, hl with | [_, _], _ => rfl
  have FF_Family_init := fun_mk (st := s_Family_init) l_Family_init cc_Family_init kk_Family_init
  have FF_marked := fun_mk (st := s_marked) l_marked cc_marked kk_marked
  have bb_marked := FF_marked.binds (ps := ["copies", "marks"]) fun _ _ _ _ _ _ us hl => match us, hl with | [_, _], _ => rfl
  have FF_others := fun_mk (st := s_others) l_others cc_others kk_others
  have bb_others := FF_others.binds (ps := ["copies", "lot"]) fun _ _ _ _ _ _ us hl => match us, hl with | [_, _], _ => rfl
  have FF_all_lots := fun_mk (st := s_all_lots) l_all_lots cc_all_lots kk_all_lots
  have bb_all_lots := FF_all_lots.binds (ps := ["copies"]) fun _ _ _ _ _ _ us hl => match us, hl with | [_], _ => rfl
  have FF_middle_lots := fun_mk (st := s_middle_lots) l_middle_lots cc_middle_lots kk_middle_lots
  have bb_middle_lots := FF_middle_lots.binds (ps := ["copies"]) fun _ _ _ _ _ _ us hl => match us, hl with | [_], _ => rfl
  have FF_whole_lot := fun_mk (st := s_whole_lot) l_whole_lot cc_whole_lot kk_whole_lot
  have bb_whole_lot := FF_whole_lot.binds (ps := ["copies"]) fun _ _ _ _ _ _ us hl => match us, hl with | [_], _ => rfl
  have FF_Family_or := fun_mk (st := s_Family_or) l_Family_or cc_Family_or kk_Family_or
  have bb_Family_or := FF_Family_or.binds (ps := ["self", "other"]) fun _ _ _ _ _ _ us hl => match us, hl with | [_, _], _ => rfl
  have FF_Family_le := fun_mk (st := s_Family_le) l_Family_le cc_Family_le kk_Family_le
  have bb_Family_le := FF_Family_le.binds (ps := ["self", "other"]) fun _ _ _ _ _ _ us hl => match us, hl with | [_, _], _ => rfl
  have FF_Family_eq := fun_mk (st := s_Family_eq) l_Family_eq cc_Family_eq kk_Family_eq
  have bb_Family_eq := FF_Family_eq.binds (ps := ["self", "other"]) fun _ _ _ _ _ _ us hl => match us, hl with | [_, _], _ => rfl
  have FF_Family_dual := fun_mk (st := s_Family_dual) l_Family_dual cc_Family_dual kk_Family_dual
  have bb_Family_dual := FF_Family_dual.binds (ps := ["self"]) fun _ _ _ _ _ _ us hl => match us, hl with | [_], _ => rfl
  have FF_Family_each := fun_mk (st := s_Family_each) l_Family_each cc_Family_each kk_Family_each
  have bb_Family_each := FF_Family_each.binds (ps := ["copies"]) fun _ _ _ _ _ _ us hl => match us, hl with | [_], _ => rfl
  have FF_Ratio_init : FunD K "__init__" "Ratio.__init__" (defArgs s_Ratio_init) (defBody s_Ratio_init) (defScope s_Ratio_init) [.int 1] [] fa_Ratio_init _ := ⟨⟨_, _, _, _, _, _, _, _, _, _, rfl, l_Ratio_init, cc_Ratio_init, .inr ⟨by simp, dt_Ratio_init, dto_Ratio_init, _, dtn_Ratio_init, rfl, dl_Ratio_init, dd_Ratio_init, (.cons ⟨_, rfl⟩ .nil)⟩, .inl rfl⟩, kk_Ratio_init⟩
  obtain ⟨dv_Ratio_init1, vv_Ratio_init1, bb_Ratio_init1⟩ := FF_Ratio_init.binds1 (ps := ["self", "over", "under"]) 2 0 (by simp) (by simp) fun _ _ _ _ _ _ _ us its hl hi => match us, its, hl, hi with | [_, _], [_], _, _ => ⟨_, rfl, rfl⟩
  obtain ⟨dv_Ratio_init2, vv_Ratio_init2, bb_Ratio_init2⟩ := FF_Ratio_init.binds1 (ps := ["self", "over", "under"]) 3 1 (by simp) (by simp) fun _ _ _ _ _ _ _ us its hl hi => match us, its, hl, hi with | [_, _, _], [_], _, _ => ⟨_, rfl, rfl⟩
  have FF_ratio_of := fun_mk (st := s_ratio_of) l_ratio_of cc_ratio_of kk_ratio_of
  have bb_ratio_of := FF_ratio_of.binds (ps := ["value"]) fun _ _ _ _ _ _ us hl => match us, hl with | [_], _ => rfl
  have FF_Ratio_eq := fun_mk (st := s_Ratio_eq) l_Ratio_eq cc_Ratio_eq kk_Ratio_eq
  have bb_Ratio_eq := FF_Ratio_eq.binds (ps := ["self", "other"]) fun _ _ _ _ _ _ us hl => match us, hl with | [_, _], _ => rfl
  have FF_Ratio_lt := fun_mk (st := s_Ratio_lt) l_Ratio_lt cc_Ratio_lt kk_Ratio_lt
  have bb_Ratio_lt := FF_Ratio_lt.binds (ps := ["self", "other"]) fun _ _ _ _ _ _ us hl => match us, hl with | [_, _], _ => rfl
  have FF_Ratio_le := fun_mk (st := s_Ratio_le) l_Ratio_le cc_Ratio_le kk_Ratio_le
  have bb_Ratio_le := FF_Ratio_le.binds (ps := ["self", "other"]) fun _ _ _ _ _ _ us hl => match us, hl with | [_, _], _ => rfl
  have FF_Ratio_gt := fun_mk (st := s_Ratio_gt) l_Ratio_gt cc_Ratio_gt kk_Ratio_gt
  have bb_Ratio_gt := FF_Ratio_gt.binds (ps := ["self", "other"]) fun _ _ _ _ _ _ us hl => match us, hl with | [_, _], _ => rfl
  have FF_Ratio_ge := fun_mk (st := s_Ratio_ge) l_Ratio_ge cc_Ratio_ge kk_Ratio_ge
  have bb_Ratio_ge := FF_Ratio_ge.binds (ps := ["self", "other"]) fun _ _ _ _ _ _ us hl => match us, hl with | [_, _], _ => rfl
  have FF_Ratio_add := fun_mk (st := s_Ratio_add) l_Ratio_add cc_Ratio_add kk_Ratio_add
  have bb_Ratio_add := FF_Ratio_add.binds (ps := ["self", "other"]) fun _ _ _ _ _ _ us hl => match us, hl with | [_, _], _ => rfl
  have FF_Ratio_radd := fun_mk (st := s_Ratio_radd) l_Ratio_radd cc_Ratio_radd kk_Ratio_radd
  have bb_Ratio_radd := FF_Ratio_radd.binds (ps := ["self", "other"]) fun _ _ _ _ _ _ us hl => match us, hl with | [_, _], _ => rfl
  have FF_Ratio_sub := fun_mk (st := s_Ratio_sub) l_Ratio_sub cc_Ratio_sub kk_Ratio_sub
  have bb_Ratio_sub := FF_Ratio_sub.binds (ps := ["self", "other"]) fun _ _ _ _ _ _ us hl => match us, hl with | [_, _], _ => rfl
  have FF_Ratio_rsub := fun_mk (st := s_Ratio_rsub) l_Ratio_rsub cc_Ratio_rsub kk_Ratio_rsub
  have bb_Ratio_rsub := FF_Ratio_rsub.binds (ps := ["self", "other"]) fun _ _ _ _ _ _ us hl => match us, hl with | [_, _], _ => rfl
  have FF_Ratio_mul := fun_mk (st := s_Ratio_mul) l_Ratio_mul cc_Ratio_mul kk_Ratio_mul
  have bb_Ratio_mul := FF_Ratio_mul.binds (ps := ["self", "other"]) fun _ _ _ _ _ _ us hl => match us, hl with | [_, _], _ => rfl
  have FF_Ratio_rmul := fun_mk (st := s_Ratio_rmul) l_Ratio_rmul cc_Ratio_rmul kk_Ratio_rmul
  have bb_Ratio_rmul := FF_Ratio_rmul.binds (ps := ["self", "other"]) fun _ _ _ _ _ _ us hl => match us, hl with | [_, _], _ => rfl
  have FF_Ratio_half := fun_mk (st := s_Ratio_half) l_Ratio_half cc_Ratio_half kk_Ratio_half
  have bb_Ratio_half := FF_Ratio_half.binds (ps := []) fun _ _ _ _ _ _ us hl => match us, hl with | [], _ => rfl
  have FF_Ratio_divided := fun_mk (st := s_Ratio_divided) l_Ratio_divided cc_Ratio_divided kk_Ratio_divided
  have bb_Ratio_divided := FF_Ratio_divided.binds (ps := ["self", "other"]) fun _ _ _ _ _ _ us hl => match us, hl with | [_, _], _ => rfl
  have FF_is_short := fun_mk (st := s_is_short) l_is_short cc_is_short kk_is_short
  have bb_is_short := FF_is_short.binds (ps := ["value"]) fun _ _ _ _ _ _ us hl => match us, hl with | [_], _ => rfl
  have FF_check_chance := fun_mk (st := s_check_chance) l_check_chance cc_check_chance kk_check_chance
  have bb_check_chance := FF_check_chance.binds (ps := ["chance"]) fun _ _ _ _ _ _ us hl => match us, hl with | [_], _ => rfl
  have FF_scale_of := fun_mk (st := s_scale_of) l_scale_of cc_scale_of kk_scale_of
  have bb_scale_of := FF_scale_of.binds (ps := ["ratios"]) fun _ _ _ _ _ _ us hl => match us, hl with | [_], _ => rfl
  have FF_counts_of := fun_mk (st := s_counts_of) l_counts_of cc_counts_of kk_counts_of
  have bb_counts_of := FF_counts_of.binds (ps := ["ratios"]) fun _ _ _ _ _ _ us hl => match us, hl with | [_], _ => rfl
  have FF_Chances_init := fun_mk (st := s_Chances_init) l_Chances_init cc_Chances_init kk_Chances_init
  have FF_Chances_add := fun_mk (st := s_Chances_add) l_Chances_add cc_Chances_add kk_Chances_add
  have bb_Chances_add := FF_Chances_add.binds (ps := ["self", "other"]) fun _ _ _ _ _ _ us hl => match us, hl with | [_, _], _ => rfl
  have FF_Chances_len := fun_mk (st := s_Chances_len) l_Chances_len cc_Chances_len kk_Chances_len
  have bb_Chances_len := FF_Chances_len.binds (ps := ["self"]) fun _ _ _ _ _ _ us hl => match us, hl with | [_], _ => rfl
  have FF_Chances_alone := fun_mk (st := s_Chances_alone) l_Chances_alone cc_Chances_alone kk_Chances_alone
  have bb_Chances_alone := FF_Chances_alone.binds (ps := ["self", "lot"]) fun _ _ _ _ _ _ us hl => match us, hl with | [_, _], _ => rfl
  have FF_Chances_up := fun_mk (st := s_Chances_up) l_Chances_up cc_Chances_up kk_Chances_up
  have bb_Chances_up := FF_Chances_up.binds (ps := ["self", "family"]) fun _ _ _ _ _ _ us hl => match us, hl with | [_, _], _ => rfl
  have FF_check_share := fun_mk (st := s_check_share) l_check_share cc_check_share kk_check_share
  have bb_check_share := FF_check_share.binds (ps := ["share"]) fun _ _ _ _ _ _ us hl => match us, hl with | [_], _ => rfl
  have FF_gain := fun_mk (st := s_gain) l_gain cc_gain kk_gain
  have bb_gain := FF_gain.binds (ps := ["chances", "share", "lot"]) fun _ _ _ _ _ _ us hl => match us, hl with | [_, _, _], _ => rfl
  have FF_with_whole := fun_mk (st := s_with_whole) l_with_whole cc_with_whole kk_with_whole
  have bb_with_whole := FF_with_whole.binds (ps := ["copies", "lots"]) fun _ _ _ _ _ _ us hl => match us, hl with | [_, _], _ => rfl
  have FF_most_worth := fun_mk (st := s_most_worth) l_most_worth cc_most_worth kk_most_worth
  have bb_most_worth := FF_most_worth.binds (ps := ["chances", "share"]) fun _ _ _ _ _ _ us hl => match us, hl with | [_, _], _ => rfl
  have FF_least_writes := fun_mk (st := s_least_writes) l_least_writes cc_least_writes kk_least_writes
  have bb_least_writes := FF_least_writes.binds (ps := ["chances", "share"]) fun _ _ _ _ _ _ us hl => match us, hl with | [_, _], _ => rfl
  have FF_greatest_writes := fun_mk (st := s_greatest_writes) l_greatest_writes cc_greatest_writes kk_greatest_writes
  have bb_greatest_writes := FF_greatest_writes.binds (ps := ["chances", "share"]) fun _ _ _ _ _ _ us hl => match us, hl with | [_, _], _ => rfl
  have FF_is_best := fun_mk (st := s_is_best) l_is_best cc_is_best kk_is_best
  have bb_is_best := FF_is_best.binds (ps := ["chances", "share", "writes"]) fun _ _ _ _ _ _ us hl => match us, hl with | [_, _, _], _ => rfl
  have FF_lot_break := fun_mk (st := s_lot_break) l_lot_break cc_lot_break kk_lot_break
  have bb_lot_break := FF_lot_break.binds (ps := ["chances", "lot"]) fun _ _ _ _ _ _ us hl => match us, hl with | [_, _], _ => rfl
  have FF_lot_breaks := fun_mk (st := s_lot_breaks) l_lot_breaks cc_lot_breaks kk_lot_breaks
  have bb_lot_breaks := FF_lot_breaks.binds (ps := ["chances"]) fun _ _ _ _ _ _ us hl => match us, hl with | [_], _ => rfl
  have FF_breaks := fun_mk (st := s_breaks) l_breaks cc_breaks kk_breaks
  have bb_breaks := FF_breaks.binds (ps := ["chances"]) fun _ _ _ _ _ _ us hl => match us, hl with | [_], _ => rfl
  have FF_piece := fun_mk (st := s_piece) l_piece cc_piece kk_piece
  have bb_piece := FF_piece.binds (ps := ["chances", "turns", "start", "end"]) fun _ _ _ _ _ _ us hl => match us, hl with | [_, _, _, _], _ => rfl
  have FF_Curve_init := fun_mk (st := s_Curve_init) l_Curve_init cc_Curve_init kk_Curve_init
  have bb_Curve_init := FF_Curve_init.binds (ps := ["self", "chances"]) fun _ _ _ _ _ _ us hl => match us, hl with | [_, _], _ => rfl
  have FF_Curve_call := fun_mk (st := s_Curve_call) l_Curve_call cc_Curve_call kk_Curve_call
  have bb_Curve_call := FF_Curve_call.binds (ps := ["self", "share"]) fun _ _ _ _ _ _ us hl => match us, hl with | [_, _], _ => rfl
  have FF_l_start := fun_mk (st := s_l_start) l_l_start cc_l_start kk_l_start
  have bb_l_start := FF_l_start.binds (ps := ["_law_script"]) fun _ _ _ _ _ _ us hl => match us, hl with | [_], _ => rfl
  have FF_l_draw := fun_mk (st := s_l_draw) l_l_draw cc_l_draw kk_l_draw
  have bb_l_draw := FF_l_draw.binds (ps := ["_law_script", "_law_state", "_law_limit"]) fun _ _ _ _ _ _ us hl => match us, hl with | [_, _, _], _ => rfl
  have FF_l_chances := fun_mk (st := s_l_chances) l_l_chances cc_l_chances kk_l_chances
  have bb_l_chances := FF_l_chances.binds (ps := ["_law_script", "_law_state", "_law_most"]) fun _ _ _ _ _ _ us hl => match us, hl with | [_, _, _], _ => rfl
  have FF_l_share := fun_mk (st := s_l_share) l_l_share cc_l_share kk_l_share
  have bb_l_share := FF_l_share.binds (ps := ["_law_script", "_law_state"]) fun _ _ _ _ _ _ us hl => match us, hl with | [_, _], _ => rfl
  have FF_l_ratios := fun_mk (st := s_l_ratios) l_l_ratios cc_l_ratios kk_l_ratios
  have bb_l_ratios := FF_l_ratios.binds (ps := ["_law_chances_here"]) fun _ _ _ _ _ _ us hl => match us, hl with | [_], _ => rfl
  have FF_l_made := fun_mk (st := s_l_made) l_l_made cc_l_made kk_l_made
  have bb_l_made := FF_l_made.binds (ps := ["_law_chances_here"]) fun _ _ _ _ _ _ us hl => match us, hl with | [_], _ => rfl
  have FF_l_power := fun_mk (st := s_l_power) l_l_power cc_l_power kk_l_power
  have bb_l_power := FF_l_power.binds (ps := ["_law_many"]) fun _ _ _ _ _ _ us hl => match us, hl with | [_], _ => rfl
  have FF_l_has := fun_mk (st := s_l_has) l_l_has cc_l_has kk_l_has
  have bb_l_has := FF_l_has.binds (ps := ["_law_code", "_law_copy"]) fun _ _ _ _ _ _ us hl => match us, hl with | [_, _], _ => rfl
  have FF_l_lot := fun_mk (st := s_l_lot) l_l_lot cc_l_lot kk_l_lot
  have bb_l_lot := FF_l_lot.binds (ps := ["_law_many", "_law_code"]) fun _ _ _ _ _ _ us hl => match us, hl with | [_, _], _ => rfl
  have FF_l_breaks_hold := fun_mk (st := s_l_breaks_hold) l_l_breaks_hold cc_l_breaks_hold kk_l_breaks_hold
  have bb_l_breaks_hold := FF_l_breaks_hold.binds (ps := ["_law_chances_here"]) fun _ _ _ _ _ _ us hl => match us, hl with | [_], _ => rfl
  have FF_l_some_family := fun_mk (st := s_l_some_family) l_l_some_family cc_l_some_family kk_l_some_family
  have bb_l_some_family := FF_l_some_family.binds (ps := ["_law_script", "_law_state", "_law_many"]) fun _ _ _ _ _ _ us hl => match us, hl with | [_, _, _], _ => rfl
  have FF_law := fun_mk (st := s_law) l_law cc_law kk_law
  have bb_law := FF_law.binds (ps := ["_law_script"]) fun _ _ _ _ _ _ us hl => match us, hl with | [_], _ => rfl
  exact ⟨PySem.W.fnOf "law" "law" (defArgs s_law) (defBody s_law) (defScope s_law) .none kV_law dc_law pm_law an_law cd_law ct_law, fun s v => .of_eq rfl, fun base _ _ => ok_law (T := {
    c_VoteError := ca_VoteError,
    gc_VoteError := PySem.W.mg_of X G aC_VoteError,
    c_BadNumber := ca_BadNumber,
    gc_BadNumber := PySem.W.mg_of X G aC_BadNumber,
    c_BadLot := ca_BadLot,
    gc_BadLot := PySem.W.mg_of X G aC_BadLot,
    c_Unlike := ca_Unlike,
    gc_Unlike := PySem.W.mg_of X G aC_Unlike,
    c_Family := ca_Family,
    gc_Family := PySem.W.mg_of X G aC_Family,
    c_Ratio := ca_Ratio,
    gc_Ratio := PySem.W.mg_of X G aC_Ratio,
    c_Chances := ca_Chances,
    gc_Chances := PySem.W.mg_of X G aC_Chances,
    c_Curve := ca_Curve,
    gc_Curve := PySem.W.mg_of X G aC_Curve,
    f_BadNumber_init := fa_BadNumber_init,
    fd_BadNumber_init := _,
    F_BadNumber_init := FF_BadNumber_init,
    b_BadNumber_init := bb_BadNumber_init,
    f_BadLot_init := fa_BadLot_init,
    fd_BadLot_init := _,
    F_BadLot_init := FF_BadLot_init,
    b_BadLot_init := bb_BadLot_init,
    f_is_integer := fa_is_integer,
    fd_is_integer := _,
    F_is_integer := FF_is_integer,
    b_is_integer := bb_is_integer,
    g_is_integer := PySem.W.mg_of X G a_is_integer,
    f_check_number := fa_check_number,
    fd_check_number := _,
    F_check_number := FF_check_number,
    b_check_number := bb_check_number,
    g_check_number := PySem.W.mg_of X G a_check_number,
    f_check_copies := fa_check_copies,
    fd_check_copies := _,
    F_check_copies := FF_check_copies,
    b_check_copies := bb_check_copies,
    g_check_copies := PySem.W.mg_of X G a_check_copies,
    f_check_copy := fa_check_copy,
    fd_check_copy := _,
    F_check_copy := FF_check_copy,
    b_check_copy := bb_check_copy,
    g_check_copy := PySem.W.mg_of X G a_check_copy,
    f_mask_of := fa_mask_of,
    fd_mask_of := _,
    F_mask_of := FF_mask_of,
    b_mask_of := bb_mask_of,
    g_mask_of := PySem.W.mg_of X G a_mask_of,
    f_lot_at := fa_lot_at,
    fd_lot_at := _,
    F_lot_at := FF_lot_at,
    b_lot_at := bb_lot_at,
    g_lot_at := PySem.W.mg_of X G a_lot_at,
    f_check_alike := fa_check_alike,
    fd_check_alike := _,
    F_check_alike := FF_check_alike,
    b_check_alike := bb_check_alike,
    g_check_alike := PySem.W.mg_of X G a_check_alike,
    f_is_within := fa_is_within,
    fd_is_within := _,
    F_is_within := FF_is_within,
    b_is_within := bb_is_within,
    g_is_within := PySem.W.mg_of X G a_is_within,
    f_masks_of := fa_masks_of,
    fd_masks_of := _,
    F_masks_of := FF_masks_of,
    b_masks_of := bb_masks_of,
    g_masks_of := PySem.W.mg_of X G a_masks_of,
    f_marks_above := fa_marks_above,
    fd_marks_above := _,
    F_marks_above := FF_marks_above,
    b_marks_above := bb_marks_above,
    g_marks_above := PySem.W.mg_of X G a_marks_above,
    f_minimal_lots := fa_minimal_lots,
    fd_minimal_lots := _,
    F_minimal_lots := FF_minimal_lots,
    b_minimal_lots := bb_minimal_lots,
    g_minimal_lots := PySem.W.mg_of X G a_minimal_lots,
    f_Family_init := fa_Family_init,
    fd_Family_init := _,
    F_Family_init := FF_Family_init,
    f_marked := fa_marked,
    fd_marked := _,
    F_marked := FF_marked,
    b_marked := bb_marked,
    g_marked := PySem.W.mg_of X G a_marked,
    f_others := fa_others,
    fd_others := _,
    F_others := FF_others,
    b_others := bb_others,
    g_others := PySem.W.mg_of X G a_others,
    f_all_lots := fa_all_lots,
    fd_all_lots := _,
    F_all_lots := FF_all_lots,
    b_all_lots := bb_all_lots,
    g_all_lots := PySem.W.mg_of X G a_all_lots,
    f_middle_lots := fa_middle_lots,
    fd_middle_lots := _,
    F_middle_lots := FF_middle_lots,
    b_middle_lots := bb_middle_lots,
    g_middle_lots := PySem.W.mg_of X G a_middle_lots,
    f_whole_lot := fa_whole_lot,
    fd_whole_lot := _,
    F_whole_lot := FF_whole_lot,
    b_whole_lot := bb_whole_lot,
    g_whole_lot := PySem.W.mg_of X G a_whole_lot,
    f_Family_or := fa_Family_or,
    fd_Family_or := _,
    F_Family_or := FF_Family_or,
    b_Family_or := bb_Family_or,
    me_Family_or := ⟨a_Family_or, i_Family_or, kk_Family_or⟩,
    f_Family_le := fa_Family_le,
    fd_Family_le := _,
    F_Family_le := FF_Family_le,
    b_Family_le := bb_Family_le,
    me_Family_le := ⟨a_Family_le, i_Family_le, kk_Family_le⟩,
    f_Family_eq := fa_Family_eq,
    fd_Family_eq := _,
    F_Family_eq := FF_Family_eq,
    b_Family_eq := bb_Family_eq,
    me_Family_eq := ⟨a_Family_eq, i_Family_eq, kk_Family_eq⟩,
    f_Family_dual := fa_Family_dual,
    fd_Family_dual := _,
    F_Family_dual := FF_Family_dual,
    b_Family_dual := bb_Family_dual,
    me_Family_dual := ⟨a_Family_dual, i_Family_dual, kk_Family_dual⟩,
    f_Family_each := fa_Family_each,
    fd_Family_each := _,
    F_Family_each := FF_Family_each,
    b_Family_each := bb_Family_each,
    sm_Family_each := ⟨rd_Family_each, sg_Family_each, _, _, sa1_Family_each, sa2_Family_each⟩,
    f_Ratio_init := fa_Ratio_init,
    fd_Ratio_init := _,
    F_Ratio_init := FF_Ratio_init,
    d_Ratio_init1 := dv_Ratio_init1,
    v_Ratio_init1 := vv_Ratio_init1,
    b_Ratio_init1 := bb_Ratio_init1,
    d_Ratio_init2 := dv_Ratio_init2,
    v_Ratio_init2 := vv_Ratio_init2,
    b_Ratio_init2 := bb_Ratio_init2,
    f_ratio_of := fa_ratio_of,
    fd_ratio_of := _,
    F_ratio_of := FF_ratio_of,
    b_ratio_of := bb_ratio_of,
    g_ratio_of := PySem.W.mg_of X G a_ratio_of,
    f_Ratio_eq := fa_Ratio_eq,
    fd_Ratio_eq := _,
    F_Ratio_eq := FF_Ratio_eq,
    b_Ratio_eq := bb_Ratio_eq,
    me_Ratio_eq := ⟨a_Ratio_eq, i_Ratio_eq, kk_Ratio_eq⟩,
    f_Ratio_lt := fa_Ratio_lt,
    fd_Ratio_lt := _,
    F_Ratio_lt := FF_Ratio_lt,
    b_Ratio_lt := bb_Ratio_lt,
    me_Ratio_lt := ⟨a_Ratio_lt, i_Ratio_lt, kk_Ratio_lt⟩,
    f_Ratio_le := fa_Ratio_le,
    fd_Ratio_le := _,
    F_Ratio_le := FF_Ratio_le,
    b_Ratio_le := bb_Ratio_le,
    me_Ratio_le := ⟨a_Ratio_le, i_Ratio_le, kk_Ratio_le⟩,
    f_Ratio_gt := fa_Ratio_gt,
    fd_Ratio_gt := _,
    F_Ratio_gt := FF_Ratio_gt,
    b_Ratio_gt := bb_Ratio_gt,
    me_Ratio_gt := ⟨a_Ratio_gt, i_Ratio_gt, kk_Ratio_gt⟩,
    f_Ratio_ge := fa_Ratio_ge,
    fd_Ratio_ge := _,
    F_Ratio_ge := FF_Ratio_ge,
    b_Ratio_ge := bb_Ratio_ge,
    me_Ratio_ge := ⟨a_Ratio_ge, i_Ratio_ge, kk_Ratio_ge⟩,
    f_Ratio_add := fa_Ratio_add,
    fd_Ratio_add := _,
    F_Ratio_add := FF_Ratio_add,
    b_Ratio_add := bb_Ratio_add,
    me_Ratio_add := ⟨a_Ratio_add, i_Ratio_add, kk_Ratio_add⟩,
    f_Ratio_radd := fa_Ratio_radd,
    fd_Ratio_radd := _,
    F_Ratio_radd := FF_Ratio_radd,
    b_Ratio_radd := bb_Ratio_radd,
    me_Ratio_radd := ⟨a_Ratio_radd, i_Ratio_radd, kk_Ratio_radd⟩,
    f_Ratio_sub := fa_Ratio_sub,
    fd_Ratio_sub := _,
    F_Ratio_sub := FF_Ratio_sub,
    b_Ratio_sub := bb_Ratio_sub,
    me_Ratio_sub := ⟨a_Ratio_sub, i_Ratio_sub, kk_Ratio_sub⟩,
    f_Ratio_rsub := fa_Ratio_rsub,
    fd_Ratio_rsub := _,
    F_Ratio_rsub := FF_Ratio_rsub,
    b_Ratio_rsub := bb_Ratio_rsub,
    me_Ratio_rsub := ⟨a_Ratio_rsub, i_Ratio_rsub, kk_Ratio_rsub⟩,
    f_Ratio_mul := fa_Ratio_mul,
    fd_Ratio_mul := _,
    F_Ratio_mul := FF_Ratio_mul,
    b_Ratio_mul := bb_Ratio_mul,
    me_Ratio_mul := ⟨a_Ratio_mul, i_Ratio_mul, kk_Ratio_mul⟩,
    f_Ratio_rmul := fa_Ratio_rmul,
    fd_Ratio_rmul := _,
    F_Ratio_rmul := FF_Ratio_rmul,
    b_Ratio_rmul := bb_Ratio_rmul,
    me_Ratio_rmul := ⟨a_Ratio_rmul, i_Ratio_rmul, kk_Ratio_rmul⟩,
    f_Ratio_half := fa_Ratio_half,
    fd_Ratio_half := _,
    F_Ratio_half := FF_Ratio_half,
    b_Ratio_half := bb_Ratio_half,
    sm_Ratio_half := ⟨rd_Ratio_half, sg_Ratio_half, _, _, sa1_Ratio_half, sa2_Ratio_half⟩,
    f_Ratio_divided := fa_Ratio_divided,
    fd_Ratio_divided := _,
    F_Ratio_divided := FF_Ratio_divided,
    b_Ratio_divided := bb_Ratio_divided,
    me_Ratio_divided := ⟨a_Ratio_divided, i_Ratio_divided, kk_Ratio_divided⟩,
    f_is_short := fa_is_short,
    fd_is_short := _,
    F_is_short := FF_is_short,
    b_is_short := bb_is_short,
    g_is_short := PySem.W.mg_of X G a_is_short,
    f_check_chance := fa_check_chance,
    fd_check_chance := _,
    F_check_chance := FF_check_chance,
    b_check_chance := bb_check_chance,
    g_check_chance := PySem.W.mg_of X G a_check_chance,
    f_scale_of := fa_scale_of,
    fd_scale_of := _,
    F_scale_of := FF_scale_of,
    b_scale_of := bb_scale_of,
    g_scale_of := PySem.W.mg_of X G a_scale_of,
    f_counts_of := fa_counts_of,
    fd_counts_of := _,
    F_counts_of := FF_counts_of,
    b_counts_of := bb_counts_of,
    g_counts_of := PySem.W.mg_of X G a_counts_of,
    f_Chances_init := fa_Chances_init,
    fd_Chances_init := _,
    F_Chances_init := FF_Chances_init,
    f_Chances_add := fa_Chances_add,
    fd_Chances_add := _,
    F_Chances_add := FF_Chances_add,
    b_Chances_add := bb_Chances_add,
    me_Chances_add := ⟨a_Chances_add, i_Chances_add, kk_Chances_add⟩,
    f_Chances_len := fa_Chances_len,
    fd_Chances_len := _,
    F_Chances_len := FF_Chances_len,
    b_Chances_len := bb_Chances_len,
    me_Chances_len := ⟨a_Chances_len, i_Chances_len, kk_Chances_len⟩,
    f_Chances_alone := fa_Chances_alone,
    fd_Chances_alone := _,
    F_Chances_alone := FF_Chances_alone,
    b_Chances_alone := bb_Chances_alone,
    me_Chances_alone := ⟨a_Chances_alone, i_Chances_alone, kk_Chances_alone⟩,
    f_Chances_up := fa_Chances_up,
    fd_Chances_up := _,
    F_Chances_up := FF_Chances_up,
    b_Chances_up := bb_Chances_up,
    me_Chances_up := ⟨a_Chances_up, i_Chances_up, kk_Chances_up⟩,
    f_check_share := fa_check_share,
    fd_check_share := _,
    F_check_share := FF_check_share,
    b_check_share := bb_check_share,
    g_check_share := PySem.W.mg_of X G a_check_share,
    f_gain := fa_gain,
    fd_gain := _,
    F_gain := FF_gain,
    b_gain := bb_gain,
    g_gain := PySem.W.mg_of X G a_gain,
    f_with_whole := fa_with_whole,
    fd_with_whole := _,
    F_with_whole := FF_with_whole,
    b_with_whole := bb_with_whole,
    g_with_whole := PySem.W.mg_of X G a_with_whole,
    f_most_worth := fa_most_worth,
    fd_most_worth := _,
    F_most_worth := FF_most_worth,
    b_most_worth := bb_most_worth,
    g_most_worth := PySem.W.mg_of X G a_most_worth,
    f_least_writes := fa_least_writes,
    fd_least_writes := _,
    F_least_writes := FF_least_writes,
    b_least_writes := bb_least_writes,
    g_least_writes := PySem.W.mg_of X G a_least_writes,
    f_greatest_writes := fa_greatest_writes,
    fd_greatest_writes := _,
    F_greatest_writes := FF_greatest_writes,
    b_greatest_writes := bb_greatest_writes,
    g_greatest_writes := PySem.W.mg_of X G a_greatest_writes,
    f_is_best := fa_is_best,
    fd_is_best := _,
    F_is_best := FF_is_best,
    b_is_best := bb_is_best,
    g_is_best := PySem.W.mg_of X G a_is_best,
    f_lot_break := fa_lot_break,
    fd_lot_break := _,
    F_lot_break := FF_lot_break,
    b_lot_break := bb_lot_break,
    g_lot_break := PySem.W.mg_of X G a_lot_break,
    f_lot_breaks := fa_lot_breaks,
    fd_lot_breaks := _,
    F_lot_breaks := FF_lot_breaks,
    b_lot_breaks := bb_lot_breaks,
    g_lot_breaks := PySem.W.mg_of X G a_lot_breaks,
    f_breaks := fa_breaks,
    fd_breaks := _,
    F_breaks := FF_breaks,
    b_breaks := bb_breaks,
    g_breaks := PySem.W.mg_of X G a_breaks,
    f_piece := fa_piece,
    fd_piece := _,
    F_piece := FF_piece,
    b_piece := bb_piece,
    g_piece := PySem.W.mg_of X G a_piece,
    f_Curve_init := fa_Curve_init,
    fd_Curve_init := _,
    F_Curve_init := FF_Curve_init,
    b_Curve_init := bb_Curve_init,
    f_Curve_call := fa_Curve_call,
    fd_Curve_call := _,
    F_Curve_call := FF_Curve_call,
    b_Curve_call := bb_Curve_call,
    me_Curve_call := ⟨a_Curve_call, i_Curve_call, kk_Curve_call⟩,
    f_l_start := fa_l_start,
    fd_l_start := _,
    F_l_start := FF_l_start,
    b_l_start := bb_l_start,
    g_l_start := PySem.W.mg_of X G a_l_start,
    f_l_draw := fa_l_draw,
    fd_l_draw := _,
    F_l_draw := FF_l_draw,
    b_l_draw := bb_l_draw,
    g_l_draw := PySem.W.mg_of X G a_l_draw,
    f_l_chances := fa_l_chances,
    fd_l_chances := _,
    F_l_chances := FF_l_chances,
    b_l_chances := bb_l_chances,
    g_l_chances := PySem.W.mg_of X G a_l_chances,
    f_l_share := fa_l_share,
    fd_l_share := _,
    F_l_share := FF_l_share,
    b_l_share := bb_l_share,
    g_l_share := PySem.W.mg_of X G a_l_share,
    f_l_ratios := fa_l_ratios,
    fd_l_ratios := _,
    F_l_ratios := FF_l_ratios,
    b_l_ratios := bb_l_ratios,
    g_l_ratios := PySem.W.mg_of X G a_l_ratios,
    f_l_made := fa_l_made,
    fd_l_made := _,
    F_l_made := FF_l_made,
    b_l_made := bb_l_made,
    g_l_made := PySem.W.mg_of X G a_l_made,
    f_l_power := fa_l_power,
    fd_l_power := _,
    F_l_power := FF_l_power,
    b_l_power := bb_l_power,
    g_l_power := PySem.W.mg_of X G a_l_power,
    f_l_has := fa_l_has,
    fd_l_has := _,
    F_l_has := FF_l_has,
    b_l_has := bb_l_has,
    g_l_has := PySem.W.mg_of X G a_l_has,
    f_l_lot := fa_l_lot,
    fd_l_lot := _,
    F_l_lot := FF_l_lot,
    b_l_lot := bb_l_lot,
    g_l_lot := PySem.W.mg_of X G a_l_lot,
    f_l_breaks_hold := fa_l_breaks_hold,
    fd_l_breaks_hold := _,
    F_l_breaks_hold := FF_l_breaks_hold,
    b_l_breaks_hold := bb_l_breaks_hold,
    g_l_breaks_hold := PySem.W.mg_of X G a_l_breaks_hold,
    f_l_some_family := fa_l_some_family,
    fd_l_some_family := _,
    F_l_some_family := FF_l_some_family,
    b_l_some_family := bb_l_some_family,
    g_l_some_family := PySem.W.mg_of X G a_l_some_family,
    f_law := fa,
    fd_law := _,
    F_law := FF_law,
    b_law := bb_law,
    g_law := PySem.W.mg_of X G a_law,
    ox_BadNumber := ⟨⟨_, _, _, _, _, _, _, _, _, _, _, _, _, _, _, xL_BadNumber, bm_ok_BadNumber⟩, sa_BadNumber, eC_BadNumber, tC_BadNumber, kC_BadNumber⟩,
    xn_BadNumber := a_BadNumber_init,
    xt_BadNumber := tI_BadNumber,
    xf_BadNumber := ⟨ga_BadNumber, gg_BadNumber, eC_BadNumber, hd_BadNumber⟩,
    xi_BadNumber := ⟨ic_BadNumber, ga_BadNumber, gg_BadNumber, eC_BadNumber, cc_BadNumber, cn_, ct_, cm_BadNumber⟩,
    n_BadNumber_what := n_BadNumber_what,
    n_BadNumber_value := n_BadNumber_value,
    ox_BadLot := ⟨⟨_, _, _, _, _, _, _, _, _, _, _, _, _, _, _, xL_BadLot, bm_ok_BadLot⟩, sa_BadLot, eC_BadLot, tC_BadLot, kC_BadLot⟩,
    xn_BadLot := a_BadLot_init,
    xt_BadLot := tI_BadLot,
    xf_BadLot := ⟨ga_BadLot, gg_BadLot, eC_BadLot, hd_BadLot⟩,
    xi_BadLot := ⟨ic_BadLot, ga_BadLot, gg_BadLot, eC_BadLot, cc_BadLot, cn_, ct_, cm_BadLot⟩,
    n_BadLot_place := n_BadLot_place,
    e0_Unlike := ⟨q0_Unlike, kC_Unlike, eC_Unlike, tC_Unlike⟩,
    xi_Unlike := ⟨ic_Unlike, ga_Unlike, gg_Unlike, eC_Unlike, cc_Unlike, cn_, ct_, cm_Unlike⟩,
    oh_Ratio_add := oh_Ratio_add,
    oh_Ratio_radd := oh_Ratio_radd,
    oh_Ratio_sub := oh_Ratio_sub,
    oh_Ratio_rsub := oh_Ratio_rsub,
    oh_Ratio_mul := oh_Ratio_mul,
    oh_Ratio_rmul := oh_Ratio_rmul,
    oc_Ratio := ⟨sf_Ratio, PySem.W.ksp_first sf_Ratio, ni_Ratio, in_Ratio, ne_Ratio, cm_Ratio⟩,
    ic_Ratio := ⟨⟨pg_Ratio, hd_Ratio, po_Ratio, sa_Ratio⟩, cc_Ratio, cn_, ct_, cm_Ratio⟩,
    cl_Ratio := ⟨pg_Ratio, hd_Ratio, po_Ratio, sa_Ratio⟩,
    M_Ratio := ⟨mk_Ratio, a_Ratio_init, i_Ratio_init, kc_Ratio⟩,
    n_Ratio_over := n_Ratio_over,
    n_Ratio_under := n_Ratio_under,
    oh_Chances_add := oh_Chances_add,
    oc_Chances := ⟨sf_Chances, PySem.W.ksp_first sf_Chances, ni_Chances, in_Chances, ne_Chances, cm_Chances⟩,
    ic_Chances := ⟨⟨pg_Chances, hd_Chances, po_Chances, sa_Chances⟩, cc_Chances, cn_, ct_, cm_Chances⟩,
    cl_Chances := ⟨pg_Chances, hd_Chances, po_Chances, sa_Chances⟩,
    M_Chances := ⟨mk_Chances, a_Chances_init, i_Chances_init, kc_Chances⟩,
    n_Chances_ratios := n_Chances_ratios,
    n_Chances_scale := n_Chances_scale,
    n_Chances_counts := n_Chances_counts,
    oh_Family_or := oh_Family_or,
    oc_Family := ⟨sf_Family, PySem.W.ksp_first sf_Family, ni_Family, in_Family, ne_Family, cm_Family⟩,
    ic_Family := ⟨⟨pg_Family, hd_Family, po_Family, sa_Family⟩, cc_Family, cn_, ct_, cm_Family⟩,
    cl_Family := ⟨pg_Family, hd_Family, po_Family, sa_Family⟩,
    M_Family := ⟨mk_Family, a_Family_init, i_Family_init, kc_Family⟩,
    n_Family_copies := n_Family_copies,
    n_Family_lots := n_Family_lots,
    n_Family_marks := n_Family_marks,
    oc_Curve := ⟨sf_Curve, PySem.W.ksp_first sf_Curve, ni_Curve, in_Curve, ne_Curve, cm_Curve⟩,
    ic_Curve := ⟨⟨pg_Curve, hd_Curve, po_Curve, sa_Curve⟩, cc_Curve, cn_, ct_, cm_Curve⟩,
    cl_Curve := ⟨pg_Curve, hd_Curve, po_Curve, sa_Curve⟩,
    M_Curve := ⟨mk_Curve, a_Curve_init, i_Curve_init, kc_Curve⟩,
    n_Curve_rows := n_Curve_rows,
    ih_add := ih_add,
    ihr_add := ihr_add,
    ih_sub := ih_sub,
    ihr_sub := ihr_sub,
    ih_mul := ih_mul,
    ihr_mul := ihr_mul,
    ki_Ratio_Ratio := ki_Ratio_Ratio,
    ki_Chances_Chances := ki_Chances_Chances,
    ki_Family_Family := ki_Family_Family,
    ki_int_Ratio := ki_int_Ratio,
    ki_bool_Ratio := ki_bool_Ratio,
    ki_NoneType_Ratio := ki_NoneType_Ratio,
    ki_str_Ratio := ki_str_Ratio,
    gi_gcd := PySem.W.mg_of X G gi_gcd,
    gt_MOST_COPIES := gt_MOST_COPIES,
    gk_MOST_COPIES := PySem.W.mg_of X G gk_MOST_COPIES,
    gt_MOST_UNDER := gt_MOST_UNDER,
    gk_MOST_UNDER := PySem.W.mg_of X G gk_MOST_UNDER,
    m_abs := PySem.W.mg_none_of X G mb_abs,
    m_all := PySem.W.mg_none_of X G mb_all,
    m_any := PySem.W.mg_none_of X G mb_any,
    m_bool := PySem.W.mg_none_of X G mb_bool,
    m_enumerate := PySem.W.mg_none_of X G mb_enumerate,
    m_int := PySem.W.mg_none_of X G mb_int,
    m_isinstance := PySem.W.mg_none_of X G mb_isinstance,
    m_len := PySem.W.mg_none_of X G mb_len,
    m_range := PySem.W.mg_none_of X G mb_range,
    m_sum := PySem.W.mg_none_of X G mb_sum,
    m_tuple := PySem.W.mg_none_of X G mb_tuple,
    m_zip := PySem.W.mg_none_of X G mb_zip })⟩
theorem walk {l : PySem.W.OpenLaw} {q : Program} {loose : List Str} {XP : (Str → Option Value) → Heap → Prop} {YP : World → Heap → Prop} {d : DefRec} {K : Params → PySem.W.Frag} (hn : l.most = some 63) (hdf : d.params.defaults = [])
    (hY : ∀ (w : World) (h : Heap), YP w h → (K w.params).In h)
    (F : ∀ (w : World) (mg : Str → Option Value) (fa : Addr) (h : Heap), (K w.params).In h → h.Ns mainGlobals mg → mg d.name = some (.ref fa) →
      ∃ fd : FuncData, (∀ (s : Shared) (u : Value), BindsTo s fd ⟨[u], []⟩ [("_law_script", u)]) ∧ ∀ base : Heap, (K w.params).In base → base.Ns mainGlobals mg → FnOk l.prog w (K w.params) mg base CX0 20 fa fd ["_law_script"] (spLaw (K w.params))) :
    PySem.W.WalkO q loose XP YP l.row.toRowW d [] (fun f vs => PySem.call f vs) :=
  L2.walk_of (n := 63) (k := 20) (x := "_law_script") (CX := fun _ => CX0) (sp := fun w => spLaw (K w.params)) hn (by decide) hdf ⟨rfl, by decide, by decide⟩ hY F (fun _ _ a ns hl _ hS => ⟨a, ns, rfl, hS, hl, fun _ => rfl⟩) fun _ _ _ _ _ z => z
end Cv
open PySem PySem.W PyProof.Rows
set_option maxRecDepth 100000 in
set_option maxHeartbeats 0 in
theorem PySem.Challenge.cw_copyvotes_k66_whole_mirror_holds : PySem.Challenge.rw_copyvotes_k66_whole_mirror.Holds := by
  w_on; o_law; k_head; (case hw => w_witness2)
  k_fill
  refine Cv.walk (l := PySem.Challenge.rw_copyvotes_k66_whole_mirror) rfl rfl (fun w h Y => PySem.W.kIn_of Y) ?F
  case F =>
    intro w mg fa h KX G hmg
    refine' Cv.all_mk KX G hmg ?aC_VoteError ?aC_BadNumber ?aC_BadLot ?aC_Unlike ?aC_Family ?aC_Ratio ?aC_Chances ?aC_Curve ?a_BadNumber_init ?l_BadNumber_init ?cc_BadNumber_init ?kk_BadNumber_init ?a_BadLot_init ?l_BadLot_init ?cc_BadLot_init ?kk_BadLot_init ?a_is_integer ?l_is_integer ?cc_is_integer ?kk_is_integer ?a_check_number ?l_check_number ?cc_check_number ?kk_check_number ?a_check_copies ?l_check_copies ?cc_check_copies ?kk_check_copies ?a_check_copy ?l_check_copy ?cc_check_copy ?kk_check_copy ?a_mask_of ?l_mask_of ?cc_mask_of ?kk_mask_of ?a_lot_at ?l_lot_at ?cc_lot_at ?kk_lot_at ?a_check_alike ?l_check_alike ?cc_check_alike ?kk_check_alike ?a_is_within ?l_is_within ?cc_is_within ?kk_is_within ?a_masks_of ?l_masks_of ?cc_masks_of ?kk_masks_of ?a_marks_above ?l_marks_above ?cc_marks_above ?kk_marks_above ?a_minimal_lots ?l_minimal_lots ?cc_minimal_lots ?kk_minimal_lots ?a_Family_init ?i_Family_init ?l_Family_init ?cc_Family_init ?kk_Family_init ?a_marked ?l_marked ?cc_marked ?kk_marked ?a_others ?l_others ?cc_others ?kk_others ?a_all_lots ?l_all_lots ?cc_all_lots ?kk_all_lots ?a_middle_lots ?l_middle_lots ?cc_middle_lots ?kk_middle_lots ?a_whole_lot ?l_whole_lot ?cc_whole_lot ?kk_whole_lot ?a_Family_or ?i_Family_or ?l_Family_or ?cc_Family_or ?kk_Family_or ?a_Family_le ?i_Family_le ?l_Family_le ?cc_Family_le ?kk_Family_le ?a_Family_eq ?i_Family_eq ?l_Family_eq ?cc_Family_eq ?kk_Family_eq ?a_Family_dual ?i_Family_dual ?l_Family_dual ?cc_Family_dual ?kk_Family_dual ?rd_Family_each ?sg_Family_each ?sa1_Family_each ?sa2_Family_each ?l_Family_each ?cc_Family_each ?kk_Family_each ?a_Ratio_init ?i_Ratio_init ?l_Ratio_init ?cc_Ratio_init ?kk_Ratio_init ?dl_Ratio_init ?dd_Ratio_init ?a_ratio_of ?l_ratio_of ?cc_ratio_of ?kk_ratio_of ?a_Ratio_eq ?i_Ratio_eq ?l_Ratio_eq ?cc_Ratio_eq ?kk_Ratio_eq ?a_Ratio_lt ?i_Ratio_lt ?l_Ratio_lt ?cc_Ratio_lt ?kk_Ratio_lt ?a_Ratio_le ?i_Ratio_le ?l_Ratio_le ?cc_Ratio_le ?kk_Ratio_le ?a_Ratio_gt ?i_Ratio_gt ?l_Ratio_gt ?cc_Ratio_gt ?kk_Ratio_gt ?a_Ratio_ge ?i_Ratio_ge ?l_Ratio_ge ?cc_Ratio_ge ?kk_Ratio_ge ?a_Ratio_add ?i_Ratio_add ?l_Ratio_add ?cc_Ratio_add ?kk_Ratio_add ?a_Ratio_radd ?i_Ratio_radd ?l_Ratio_radd ?cc_Ratio_radd ?kk_Ratio_radd ?a_Ratio_sub ?i_Ratio_sub ?l_Ratio_sub ?cc_Ratio_sub ?kk_Ratio_sub ?a_Ratio_rsub ?i_Ratio_rsub ?l_Ratio_rsub ?cc_Ratio_rsub ?kk_Ratio_rsub ?a_Ratio_mul ?i_Ratio_mul ?l_Ratio_mul ?cc_Ratio_mul ?kk_Ratio_mul ?a_Ratio_rmul ?i_Ratio_rmul ?l_Ratio_rmul ?cc_Ratio_rmul ?kk_Ratio_rmul ?rd_Ratio_half ?sg_Ratio_half ?sa1_Ratio_half ?sa2_Ratio_half ?l_Ratio_half ?cc_Ratio_half ?kk_Ratio_half ?a_Ratio_divided ?i_Ratio_divided ?l_Ratio_divided ?cc_Ratio_divided ?kk_Ratio_divided ?a_is_short ?l_is_short ?cc_is_short ?kk_is_short ?a_check_chance ?l_check_chance ?cc_check_chance ?kk_check_chance ?a_scale_of ?l_scale_of ?cc_scale_of ?kk_scale_of ?a_counts_of ?l_counts_of ?cc_counts_of ?kk_counts_of ?a_Chances_init ?i_Chances_init ?l_Chances_init ?cc_Chances_init ?kk_Chances_init ?a_Chances_add ?i_Chances_add ?l_Chances_add ?cc_Chances_add ?kk_Chances_add ?a_Chances_len ?i_Chances_len ?l_Chances_len ?cc_Chances_len ?kk_Chances_len ?a_Chances_alone ?i_Chances_alone ?l_Chances_alone ?cc_Chances_alone ?kk_Chances_alone ?a_Chances_up ?i_Chances_up ?l_Chances_up ?cc_Chances_up ?kk_Chances_up ?a_check_share ?l_check_share ?cc_check_share ?kk_check_share ?a_gain ?l_gain ?cc_gain ?kk_gain ?a_with_whole ?l_with_whole ?cc_with_whole ?kk_with_whole ?a_most_worth ?l_most_worth ?cc_most_worth ?kk_most_worth ?a_least_writes ?l_least_writes ?cc_least_writes ?kk_least_writes ?a_greatest_writes ?l_greatest_writes ?cc_greatest_writes ?kk_greatest_writes ?a_is_best ?l_is_best ?cc_is_best ?kk_is_best ?a_lot_break ?l_lot_break ?cc_lot_break ?kk_lot_break ?a_lot_breaks ?l_lot_breaks ?cc_lot_breaks ?kk_lot_breaks ?a_breaks ?l_breaks ?cc_breaks ?kk_breaks ?a_piece ?l_piece ?cc_piece ?kk_piece ?a_Curve_init ?i_Curve_init ?l_Curve_init ?cc_Curve_init ?kk_Curve_init ?a_Curve_call ?i_Curve_call ?l_Curve_call ?cc_Curve_call ?kk_Curve_call ?a_l_start ?l_l_start ?cc_l_start ?kk_l_start ?a_l_draw ?l_l_draw ?cc_l_draw ?kk_l_draw ?a_l_chances ?l_l_chances ?cc_l_chances ?kk_l_chances ?a_l_share ?l_l_share ?cc_l_share ?kk_l_share ?a_l_ratios ?l_l_ratios ?cc_l_ratios ?kk_l_ratios ?a_l_made ?l_l_made ?cc_l_made ?kk_l_made ?a_l_power ?l_l_power ?cc_l_power ?kk_l_power ?a_l_has ?l_l_has ?cc_l_has ?kk_l_has ?a_l_lot ?l_l_lot ?cc_l_lot ?kk_l_lot ?a_l_breaks_hold ?l_l_breaks_hold ?cc_l_breaks_hold ?kk_l_breaks_hold ?a_l_some_family ?l_l_some_family ?cc_l_some_family ?kk_l_some_family ?a_law ?l_law ?cc_law ?kk_law ?xL_BadNumber ?bm_ok_BadNumber ?sa_BadNumber ?eC_BadNumber ?tC_BadNumber ?kC_BadNumber ?tI_BadNumber ?ga_BadNumber ?gg_BadNumber ?hd_BadNumber ?ic_BadNumber ?cc_BadNumber ?cm_BadNumber ?n_BadNumber_what ?n_BadNumber_value ?xL_BadLot ?bm_ok_BadLot ?sa_BadLot ?eC_BadLot ?tC_BadLot ?kC_BadLot ?tI_BadLot ?ga_BadLot ?gg_BadLot ?hd_BadLot ?ic_BadLot ?cc_BadLot ?cm_BadLot ?n_BadLot_place ?q0_Unlike ?kC_Unlike ?eC_Unlike ?tC_Unlike ?ga_Unlike ?gg_Unlike ?ic_Unlike ?cc_Unlike ?cm_Unlike ?cn_ ?ct_ ?pg_Ratio ?hd_Ratio ?po_Ratio ?sa_Ratio ?mk_Ratio ?kc_Ratio ?oh_Ratio_add ?oh_Ratio_radd ?oh_Ratio_sub ?oh_Ratio_rsub ?oh_Ratio_mul ?oh_Ratio_rmul ?sf_Ratio ?ni_Ratio ?in_Ratio ?ne_Ratio ?cc_Ratio ?cm_Ratio ?n_Ratio_over ?n_Ratio_under ?pg_Chances ?hd_Chances ?po_Chances ?sa_Chances ?mk_Chances ?kc_Chances ?oh_Chances_add ?sf_Chances ?ni_Chances ?in_Chances ?ne_Chances ?cc_Chances ?cm_Chances ?n_Chances_ratios ?n_Chances_scale ?n_Chances_counts ?pg_Family ?hd_Family ?po_Family ?sa_Family ?mk_Family ?kc_Family ?oh_Family_or ?sf_Family ?ni_Family ?in_Family ?ne_Family ?cc_Family ?cm_Family ?n_Family_copies ?n_Family_lots ?n_Family_marks ?pg_Curve ?hd_Curve ?po_Curve ?sa_Curve ?mk_Curve ?kc_Curve ?sf_Curve ?ni_Curve ?in_Curve ?ne_Curve ?cc_Curve ?cm_Curve ?n_Curve_rows ?ih_add ?ihr_add ?ih_sub ?ihr_sub ?ih_mul ?ihr_mul ?ki_Ratio_Ratio ?ki_Chances_Chances ?ki_Family_Family ?ki_int_Ratio ?ki_bool_Ratio ?ki_NoneType_Ratio ?ki_str_Ratio ?gi_gcd ?gk_MOST_COPIES ?gk_MOST_UNDER ?mb_abs ?mb_all ?mb_any ?mb_bool ?mb_enumerate ?mb_int ?mb_isinstance ?mb_len ?mb_range ?mb_sum ?mb_tuple ?mb_zip
    (case aC_VoteError => k_is)
    (case aC_BadNumber => k_is)
    (case aC_BadLot => k_is)
    (case aC_Unlike => k_is)
    (case aC_Family => k_is)
    (case aC_Ratio => k_is)
    (case aC_Chances => k_is)
    (case aC_Curve => k_is)
    (case a_BadNumber_init => k_is)
    (case l_BadNumber_init => k_is)
    (case cc_BadNumber_init => k_is)
    (case kk_BadNumber_init => k_is)
    (case a_BadLot_init => k_is)
    (case l_BadLot_init => k_is)
    (case cc_BadLot_init => k_is)
    (case kk_BadLot_init => k_is)
    (case a_is_integer => k_is)
    (case l_is_integer => k_is)
    (case cc_is_integer => k_is)
    (case kk_is_integer => k_is)
    (case a_check_number => k_is)
    (case l_check_number => k_is)
    (case cc_check_number => k_is)
    (case kk_check_number => k_is)
    (case a_check_copies => k_is)
    (case l_check_copies => k_is)
    (case cc_check_copies => k_is)
    (case kk_check_copies => k_is)
    (case a_check_copy => k_is)
    (case l_check_copy => k_is)
    (case cc_check_copy => k_is)
    (case kk_check_copy => k_is)
    (case a_mask_of => k_is)
    (case l_mask_of => k_is)
    (case cc_mask_of => k_is)
    (case kk_mask_of => k_is)
    (case a_lot_at => k_is)
    (case l_lot_at => k_is)
    (case cc_lot_at => k_is)
    (case kk_lot_at => k_is)
    (case a_check_alike => k_is)
    (case l_check_alike => k_is)
    (case cc_check_alike => k_is)
    (case kk_check_alike => k_is)
    (case a_is_within => k_is)
    (case l_is_within => k_is)
    (case cc_is_within => k_is)
    (case kk_is_within => k_is)
    (case a_masks_of => k_is)
    (case l_masks_of => k_is)
    (case cc_masks_of => k_is)
    (case kk_masks_of => k_is)
    (case a_marks_above => k_is)
    (case l_marks_above => k_is)
    (case cc_marks_above => k_is)
    (case kk_marks_above => k_is)
    (case a_minimal_lots => k_is)
    (case l_minimal_lots => k_is)
    (case cc_minimal_lots => k_is)
    (case kk_minimal_lots => k_is)
    (case a_Family_init => k_is)
    (case i_Family_init => k_is)
    (case l_Family_init => k_is)
    (case cc_Family_init => k_is)
    (case kk_Family_init => k_is)
    (case a_marked => k_is)
    (case l_marked => k_is)
    (case cc_marked => k_is)
    (case kk_marked => k_is)
    (case a_others => k_is)
    (case l_others => k_is)
    (case cc_others => k_is)
    (case kk_others => k_is)
    (case a_all_lots => k_is)
    (case l_all_lots => k_is)
    (case cc_all_lots => k_is)
    (case kk_all_lots => k_is)
    (case a_middle_lots => k_is)
    (case l_middle_lots => k_is)
    (case cc_middle_lots => k_is)
    (case kk_middle_lots => k_is)
    (case a_whole_lot => k_is)
    (case l_whole_lot => k_is)
    (case cc_whole_lot => k_is)
    (case kk_whole_lot => k_is)
    (case a_Family_or => k_is)
    (case i_Family_or => k_is)
    (case l_Family_or => k_is)
    (case cc_Family_or => k_is)
    (case kk_Family_or => k_is)
    (case a_Family_le => k_is)
    (case i_Family_le => k_is)
    (case l_Family_le => k_is)
    (case cc_Family_le => k_is)
    (case kk_Family_le => k_is)
    (case a_Family_eq => k_is)
    (case i_Family_eq => k_is)
    (case l_Family_eq => k_is)
    (case cc_Family_eq => k_is)
    (case kk_Family_eq => k_is)
    (case a_Family_dual => k_is)
    (case i_Family_dual => k_is)
    (case l_Family_dual => k_is)
    (case cc_Family_dual => k_is)
    (case kk_Family_dual => k_is)
    (case rd_Family_each => k_is)
    (case sg_Family_each => k_is)
    (case sa1_Family_each => k_is)
    (case sa2_Family_each => k_is)
    (case l_Family_each => k_is)
    (case cc_Family_each => k_is)
    (case kk_Family_each => k_is)
    (case a_Ratio_init => k_is)
    (case i_Ratio_init => k_is)
    (case l_Ratio_init => k_is)
    (case cc_Ratio_init => k_is)
    (case kk_Ratio_init => k_is)
    (case dl_Ratio_init => k_is)
    (case dd_Ratio_init => rfl)
    (case a_ratio_of => k_is)
    (case l_ratio_of => k_is)
    (case cc_ratio_of => k_is)
    (case kk_ratio_of => k_is)
    (case a_Ratio_eq => k_is)
    (case i_Ratio_eq => k_is)
    (case l_Ratio_eq => k_is)
    (case cc_Ratio_eq => k_is)
    (case kk_Ratio_eq => k_is)
    (case a_Ratio_lt => k_is)
    (case i_Ratio_lt => k_is)
    (case l_Ratio_lt => k_is)
    (case cc_Ratio_lt => k_is)
    (case kk_Ratio_lt => k_is)
    (case a_Ratio_le => k_is)
    (case i_Ratio_le => k_is)
    (case l_Ratio_le => k_is)
    (case cc_Ratio_le => k_is)
    (case kk_Ratio_le => k_is)
    (case a_Ratio_gt => k_is)
    (case i_Ratio_gt => k_is)
    (case l_Ratio_gt => k_is)
    (case cc_Ratio_gt => k_is)
    (case kk_Ratio_gt => k_is)
    (case a_Ratio_ge => k_is)
    (case i_Ratio_ge => k_is)
    (case l_Ratio_ge => k_is)
    (case cc_Ratio_ge => k_is)
    (case kk_Ratio_ge => k_is)
    (case a_Ratio_add => k_is)
    (case i_Ratio_add => k_is)
    (case l_Ratio_add => k_is)
    (case cc_Ratio_add => k_is)
    (case kk_Ratio_add => k_is)
    (case a_Ratio_radd => k_is)
    (case i_Ratio_radd => k_is)
    (case l_Ratio_radd => k_is)
    (case cc_Ratio_radd => k_is)
    (case kk_Ratio_radd => k_is)
    (case a_Ratio_sub => k_is)
    (case i_Ratio_sub => k_is)
    (case l_Ratio_sub => k_is)
    (case cc_Ratio_sub => k_is)
    (case kk_Ratio_sub => k_is)
    (case a_Ratio_rsub => k_is)
    (case i_Ratio_rsub => k_is)
    (case l_Ratio_rsub => k_is)
    (case cc_Ratio_rsub => k_is)
    (case kk_Ratio_rsub => k_is)
    (case a_Ratio_mul => k_is)
    (case i_Ratio_mul => k_is)
    (case l_Ratio_mul => k_is)
    (case cc_Ratio_mul => k_is)
    (case kk_Ratio_mul => k_is)
    (case a_Ratio_rmul => k_is)
    (case i_Ratio_rmul => k_is)
    (case l_Ratio_rmul => k_is)
    (case cc_Ratio_rmul => k_is)
    (case kk_Ratio_rmul => k_is)
    (case rd_Ratio_half => k_is)
    (case sg_Ratio_half => k_is)
    (case sa1_Ratio_half => k_is)
    (case sa2_Ratio_half => k_is)
    (case l_Ratio_half => k_is)
    (case cc_Ratio_half => k_is)
    (case kk_Ratio_half => k_is)
    (case a_Ratio_divided => k_is)
    (case i_Ratio_divided => k_is)
    (case l_Ratio_divided => k_is)
    (case cc_Ratio_divided => k_is)
    (case kk_Ratio_divided => k_is)
    (case a_is_short => k_is)
    (case l_is_short => k_is)
    (case cc_is_short => k_is)
    (case kk_is_short => k_is)
    (case a_check_chance => k_is)
    (case l_check_chance => k_is)
    (case cc_check_chance => k_is)
    (case kk_check_chance => k_is)
    (case a_scale_of => k_is)
    (case l_scale_of => k_is)
    (case cc_scale_of => k_is)
    (case kk_scale_of => k_is)
    (case a_counts_of => k_is)
    (case l_counts_of => k_is)
    (case cc_counts_of => k_is)
    (case kk_counts_of => k_is)
    (case a_Chances_init => k_is)
    (case i_Chances_init => k_is)
    (case l_Chances_init => k_is)
    (case cc_Chances_init => k_is)
    (case kk_Chances_init => k_is)
    (case a_Chances_add => k_is)
    (case i_Chances_add => k_is)
    (case l_Chances_add => k_is)
    (case cc_Chances_add => k_is)
    (case kk_Chances_add => k_is)
    (case a_Chances_len => k_is)
    (case i_Chances_len => k_is)
    (case l_Chances_len => k_is)
    (case cc_Chances_len => k_is)
    (case kk_Chances_len => k_is)
    (case a_Chances_alone => k_is)
    (case i_Chances_alone => k_is)
    (case l_Chances_alone => k_is)
    (case cc_Chances_alone => k_is)
    (case kk_Chances_alone => k_is)
    (case a_Chances_up => k_is)
    (case i_Chances_up => k_is)
    (case l_Chances_up => k_is)
    (case cc_Chances_up => k_is)
    (case kk_Chances_up => k_is)
    (case a_check_share => k_is)
    (case l_check_share => k_is)
    (case cc_check_share => k_is)
    (case kk_check_share => k_is)
    (case a_gain => k_is)
    (case l_gain => k_is)
    (case cc_gain => k_is)
    (case kk_gain => k_is)
    (case a_with_whole => k_is)
    (case l_with_whole => k_is)
    (case cc_with_whole => k_is)
    (case kk_with_whole => k_is)
    (case a_most_worth => k_is)
    (case l_most_worth => k_is)
    (case cc_most_worth => k_is)
    (case kk_most_worth => k_is)
    (case a_least_writes => k_is)
    (case l_least_writes => k_is)
    (case cc_least_writes => k_is)
    (case kk_least_writes => k_is)
    (case a_greatest_writes => k_is)
    (case l_greatest_writes => k_is)
    (case cc_greatest_writes => k_is)
    (case kk_greatest_writes => k_is)
    (case a_is_best => k_is)
    (case l_is_best => k_is)
    (case cc_is_best => k_is)
    (case kk_is_best => k_is)
    (case a_lot_break => k_is)
    (case l_lot_break => k_is)
    (case cc_lot_break => k_is)
    (case kk_lot_break => k_is)
    (case a_lot_breaks => k_is)
    (case l_lot_breaks => k_is)
    (case cc_lot_breaks => k_is)
    (case kk_lot_breaks => k_is)
    (case a_breaks => k_is)
    (case l_breaks => k_is)
    (case cc_breaks => k_is)
    (case kk_breaks => k_is)
    (case a_piece => k_is)
    (case l_piece => k_is)
    (case cc_piece => k_is)
    (case kk_piece => k_is)
    (case a_Curve_init => k_is)
    (case i_Curve_init => k_is)
    (case l_Curve_init => k_is)
    (case cc_Curve_init => k_is)
    (case kk_Curve_init => k_is)
    (case a_Curve_call => k_is)
    (case i_Curve_call => k_is)
    (case l_Curve_call => k_is)
    (case cc_Curve_call => k_is)
    (case kk_Curve_call => k_is)
    (case a_l_start => k_is)
    (case l_l_start => k_is)
    (case cc_l_start => k_is)
    (case kk_l_start => k_is)
    (case a_l_draw => k_is)
    (case l_l_draw => k_is)
    (case cc_l_draw => k_is)
    (case kk_l_draw => k_is)
    (case a_l_chances => k_is)
    (case l_l_chances => k_is)
    (case cc_l_chances => k_is)
    (case kk_l_chances => k_is)
    (case a_l_share => k_is)
    (case l_l_share => k_is)
    (case cc_l_share => k_is)
    (case kk_l_share => k_is)
    (case a_l_ratios => k_is)
    (case l_l_ratios => k_is)
    (case cc_l_ratios => k_is)
    (case kk_l_ratios => k_is)
    (case a_l_made => k_is)
    (case l_l_made => k_is)
    (case cc_l_made => k_is)
    (case kk_l_made => k_is)
    (case a_l_power => k_is)
    (case l_l_power => k_is)
    (case cc_l_power => k_is)
    (case kk_l_power => k_is)
    (case a_l_has => k_is)
    (case l_l_has => k_is)
    (case cc_l_has => k_is)
    (case kk_l_has => k_is)
    (case a_l_lot => k_is)
    (case l_l_lot => k_is)
    (case cc_l_lot => k_is)
    (case kk_l_lot => k_is)
    (case a_l_breaks_hold => k_is)
    (case l_l_breaks_hold => k_is)
    (case cc_l_breaks_hold => k_is)
    (case kk_l_breaks_hold => k_is)
    (case a_l_some_family => k_is)
    (case l_l_some_family => k_is)
    (case cc_l_some_family => k_is)
    (case kk_l_some_family => k_is)
    (case a_law => k_is)
    (case l_law => k_is)
    (case cc_law => k_is)
    (case kk_law => k_is)
    (case xL_BadNumber => k_is)
    (case bm_ok_BadNumber => decide +kernel)
    (case sa_BadNumber => k_is)
    (case eC_BadNumber => k_is)
    (case tC_BadNumber => k_is)
    (case kC_BadNumber => k_is)
    (case tI_BadNumber => k_is)
    (case ga_BadNumber => k_is)
    (case gg_BadNumber => k_is)
    (case hd_BadNumber => k_is)
    (case ic_BadNumber => k_is)
    (case cc_BadNumber => k_is)
    (case cm_BadNumber => k_is)
    (case n_BadNumber_what => k_is)
    (case n_BadNumber_value => k_is)
    (case xL_BadLot => k_is)
    (case bm_ok_BadLot => decide +kernel)
    (case sa_BadLot => k_is)
    (case eC_BadLot => k_is)
    (case tC_BadLot => k_is)
    (case kC_BadLot => k_is)
    (case tI_BadLot => k_is)
    (case ga_BadLot => k_is)
    (case gg_BadLot => k_is)
    (case hd_BadLot => k_is)
    (case ic_BadLot => k_is)
    (case cc_BadLot => k_is)
    (case cm_BadLot => k_is)
    (case n_BadLot_place => k_is)
    (case q0_Unlike => k_exc)
    (case kC_Unlike => k_is)
    (case eC_Unlike => k_is)
    (case tC_Unlike => k_is)
    (case ga_Unlike => k_is)
    (case gg_Unlike => k_is)
    (case ic_Unlike => k_is)
    (case cc_Unlike => k_is)
    (case cm_Unlike => k_is)
    (case cn_ => k_is)
    (case ct_ => k_is)
    (case pg_Ratio => k_is)
    (case hd_Ratio => k_is)
    (case po_Ratio => k_is)
    (case sa_Ratio => k_is)
    (case mk_Ratio => k_is)
    (case kc_Ratio => k_is)
    (case oh_Ratio_add => k_is)
    (case oh_Ratio_radd => k_is)
    (case oh_Ratio_sub => k_is)
    (case oh_Ratio_rsub => k_is)
    (case oh_Ratio_mul => k_is)
    (case oh_Ratio_rmul => k_is)
    (case sf_Ratio => k_is)
    (case ni_Ratio => k_is)
    (case in_Ratio => k_is)
    (case ne_Ratio => k_is)
    (case cc_Ratio => k_is)
    (case cm_Ratio => k_is)
    (case n_Ratio_over => k_is)
    (case n_Ratio_under => k_is)
    (case pg_Chances => k_is)
    (case hd_Chances => k_is)
    (case po_Chances => k_is)
    (case sa_Chances => k_is)
    (case mk_Chances => k_is)
    (case kc_Chances => k_is)
    (case oh_Chances_add => k_is)
    (case sf_Chances => k_is)
    (case ni_Chances => k_is)
    (case in_Chances => k_is)
    (case ne_Chances => k_is)
    (case cc_Chances => k_is)
    (case cm_Chances => k_is)
    (case n_Chances_ratios => k_is)
    (case n_Chances_scale => k_is)
    (case n_Chances_counts => k_is)
    (case pg_Family => k_is)
    (case hd_Family => k_is)
    (case po_Family => k_is)
    (case sa_Family => k_is)
    (case mk_Family => k_is)
    (case kc_Family => k_is)
    (case oh_Family_or => k_is)
    (case sf_Family => k_is)
    (case ni_Family => k_is)
    (case in_Family => k_is)
    (case ne_Family => k_is)
    (case cc_Family => k_is)
    (case cm_Family => k_is)
    (case n_Family_copies => k_is)
    (case n_Family_lots => k_is)
    (case n_Family_marks => k_is)
    (case pg_Curve => k_is)
    (case hd_Curve => k_is)
    (case po_Curve => k_is)
    (case sa_Curve => k_is)
    (case mk_Curve => k_is)
    (case kc_Curve => k_is)
    (case sf_Curve => k_is)
    (case ni_Curve => k_is)
    (case in_Curve => k_is)
    (case ne_Curve => k_is)
    (case cc_Curve => k_is)
    (case cm_Curve => k_is)
    (case n_Curve_rows => k_is)
    (case ih_add => k_is)
    (case ihr_add => k_is)
    (case ih_sub => k_is)
    (case ihr_sub => k_is)
    (case ih_mul => k_is)
    (case ihr_mul => k_is)
    (case ki_Ratio_Ratio => kit_is)
    (case ki_Chances_Chances => kit_is)
    (case ki_Family_Family => kit_is)
    (case ki_int_Ratio => kit_is)
    (case ki_bool_Ratio => kit_is)
    (case ki_NoneType_Ratio => kit_is)
    (case ki_str_Ratio => kit_is)
    (case gi_gcd => k_is)
    (case gk_MOST_COPIES => k_is)
    (case gk_MOST_UNDER => k_is)
    (case mb_abs => k_is)
    (case mb_all => k_is)
    (case mb_any => k_is)
    (case mb_bool => k_is)
    (case mb_enumerate => k_is)
    (case mb_int => k_is)
    (case mb_isinstance => k_is)
    (case mb_len => k_is)
    (case mb_range => k_is)
    (case mb_sum => k_is)
    (case mb_tuple => k_is)
    (case mb_zip => k_is)

import PyProof.Rows.All
import Wide.All
import OpenK.AllK
import Wide.FinOn
import KE.RegKIsAll
import KE.KExcIs
import HandS.ForSpec
import HandS.ExcInit
import HandS.ExcField
import HandS.IsInst
import HandS.Style
import HandS.Evl
import HandS.Comp
import HandS.Conv
import HandS.Walk
import HandS.WideBits
import HandS.TupAny
import PySem.Challenge.RW_copyvotes_k07_lots
set_option Elab.async false
set_option linter.all false
set_option maxRecDepth 100000
set_option maxHeartbeats 4000000

namespace Cv
open PySem PySem.Spec PyProof.Rows L2
def topS (i : Nat) : Stmt := PySem.Challenge.pw_copyvotes_k07_lots.main.body.getD i (.Pass ⟨0, 0, 0, 0⟩)
abbrev s_BadNumber_init : Stmt := inClass (topS 2) 0
theorem sc_BadNumber_init : FnScope ["self", "what", "value"] ["self", "what", "value"] (defScope s_BadNumber_init) := ⟨rfl, rfl, rfl, by decide +kernel, rfl, by decide +kernel, by decide +kernel⟩
abbrev s_is_integer : Stmt := topS 4
theorem sc_is_integer : FnScope ["value"] ["value"] (defScope s_is_integer) := ⟨rfl, rfl, rfl, by decide +kernel, rfl, by decide +kernel, by decide +kernel⟩
abbrev s_check_number : Stmt := topS 5
theorem sc_check_number : FnScope ["what", "value", "low", "high"] ["what", "value", "low", "high"] (defScope s_check_number) := ⟨rfl, rfl, rfl, by decide +kernel, rfl, by decide +kernel, by decide +kernel⟩
abbrev s_check_copies : Stmt := topS 8
theorem sc_check_copies : FnScope ["copies"] ["copies"] (defScope s_check_copies) := ⟨rfl, rfl, rfl, by decide +kernel, rfl, by decide +kernel, by decide +kernel⟩
abbrev s_check_copy : Stmt := topS 9
theorem sc_check_copy : FnScope ["copies", "copy"] ["copies", "copy"] (defScope s_check_copy) := ⟨rfl, rfl, rfl, by decide +kernel, rfl, by decide +kernel, by decide +kernel⟩
abbrev s_mask_of : Stmt := topS 10
theorem sc_mask_of : FnScope ["copies", "numbers", "mask", "number"] ["copies", "numbers"] (defScope s_mask_of) := ⟨rfl, rfl, rfl, by decide +kernel, rfl, by decide +kernel, by decide +kernel⟩
abbrev s_lot_at : Stmt := topS 11
theorem sc_lot_at : FnScope ["mask", "copy"] ["mask"] (defScope s_lot_at) := ⟨rfl, rfl, rfl, by decide +kernel, rfl, by decide +kernel, by decide +kernel⟩
abbrev s_lot_of : Stmt := topS 12
theorem sc_lot_of : FnScope ["copies", "numbers"] ["copies", "numbers"] (defScope s_lot_of) := ⟨rfl, rfl, rfl, by decide +kernel, rfl, by decide +kernel, by decide +kernel⟩
abbrev s_others : Stmt := topS 13
theorem sc_others : FnScope ["copies", "lot", "whole"] ["copies", "lot"] (defScope s_others) := ⟨rfl, rfl, rfl, by decide +kernel, rfl, by decide +kernel, by decide +kernel⟩
abbrev s_all_lots : Stmt := topS 14
theorem sc_all_lots : FnScope ["copies", "mask"] ["copies"] (defScope s_all_lots) := ⟨rfl, rfl, rfl, by decide +kernel, rfl, by decide +kernel, by decide +kernel⟩
abbrev s_l_start : Stmt := topS 16
theorem sc_l_start : FnScope ["_law_script", "_law_first"] ["_law_script"] (defScope s_l_start) := ⟨rfl, rfl, rfl, by decide +kernel, rfl, by decide +kernel, by decide +kernel⟩
abbrev s_l_draw : Stmt := topS 17
theorem sc_l_draw : FnScope ["_law_script", "_law_state", "_law_limit", "_law_number", "_law_cell", "_law_mixed"] ["_law_script", "_law_state", "_law_limit"] (defScope s_l_draw) := ⟨rfl, rfl, rfl, by decide +kernel, rfl, by decide +kernel, by decide +kernel⟩
abbrev s_l_code : Stmt := topS 18
theorem sc_l_code : FnScope ["_law_lot", "_law_copy"] ["_law_lot"] (defScope s_l_code) := ⟨rfl, rfl, rfl, by decide +kernel, rfl, by decide +kernel, by decide +kernel⟩
abbrev s_l_lots : Stmt := topS 19
theorem sc_l_lots : FnScope ["_law_copies", "_law_lots_here", "_law_copy", "_law_lot"] ["_law_copies"] (defScope s_l_lots) := ⟨rfl, rfl, rfl, by decide +kernel, rfl, by decide +kernel, by decide +kernel⟩
abbrev s_l_told : Stmt := topS 21
theorem sc_l_told : FnScope ["_law_kind", "_law_copies", "_law_numbers", "e"] ["_law_kind", "_law_copies", "_law_numbers"] (defScope s_l_told) := ⟨rfl, rfl, rfl, by decide +kernel, rfl, by decide +kernel, by decide +kernel⟩
abbrev s_law : Stmt := topS 22
theorem sc_law : FnScope ["_law_script", "_law_state", "_law_copies", "_law_lots_here", "_law_lot", "_law_numbers", "_law_k", "_law_kept", "_law_due", "_law_copy", "_law_rest", "_law_odd", "_law_at", "_law_wrong", "_law_kind", "_law_many"] ["_law_script"] (defScope s_law) := ⟨rfl, rfl, rfl, by decide +kernel, rfl, by decide +kernel, by decide +kernel⟩
/-! ## What every law's text wants: heaps, exceptions, the draws -/
theorem same_upd {H : Hp} {p : Addr} {o : HO} (h : H p = none) : Same H (upd H p o) := fun b x e => by
  rw [upd_ne (ne_of_none e h)]
  exact e
theorem same_upd2 {H H' : Hp} {p : Addr} {o : HO} (e : Same H H') (h : H p = none) : Same H (upd H' p o) := fun b x k => by
  rw [upd_ne (ne_of_none k h)]
  exact e b x k
/-- an except clause that names an own class -/
theorem exm_own {K : PySem.W.Frag} {cls : Value} {S : Addr} {b : Bool} (h1 : PySem.W.subIn K (.ref S) (.type "BaseException") = some true) (h2 : PySem.W.isClsIn K S = true) (h3 : PySem.W.typeIn K (.ref S) = some (.type "type")) (h4 : PySem.W.subIn K cls (.ref S) = some b) :
    PySem.W.exmOne K cls (.ref S) = some b := by
  have e1 : (PySem.W.subIn K (.ref S) (.type "BaseException") == some true) = true := by rw [h1] <;> rfl
  have e2 : ((PySem.W.clsIn K S).isSome && PySem.W.typeIn K (.ref S) == some (.type "type")) = true := by
    have h2' : (PySem.W.clsIn K S).isSome = true := h2
    rw [h2', h3] <;> rfl
  show (if (PySem.W.subIn K (.ref S) (.type "BaseException") == some true) = true then (if ((PySem.W.clsIn K S).isSome && PySem.W.typeIn K (.ref S) == some (.type "type")) = true then PySem.W.subIn K cls (.ref S) else none) else none) = some b
  rw [if_pos e1, if_pos e2]
  exact h4
/-- what isinstance asks of an own exception class -/
structure XiC (K : PySem.W.Frag) (C : Addr) : Prop where
  cl : PySem.W.isClsIn K C = true
  ga : PySem.W.findIn K (.ref C) "__getattribute__" = some (some (.builtin "BaseException.__getattribute__"))
  gg : PySem.W.findIn K (.ref C) "__getattr__" = some none
  sb : PySem.W.subIn K (.ref C) (.type "BaseException") = some true
  ha : PySem.W.findIn K (.ref C) "__class__" = some (some (.builtin "object.__class__"))
  hn : PySem.W.specialIn K (.builtin "object.__class__") "__get__" = some (some (.builtin "getset_descriptor.__get__"))
  ht : PySem.W.takesIn K (.builtin "object.__class__") = some true
  hm : PySem.W.mroIn K C (.type "object") = some true
/-- isinstance(e, c) within the suite that holds e, an error with its own dict -/
def rIsX (K : PySem.W.Frag) (a C : Addr) (cls : Value) (d : Option Addr) : List V → Hp → VK → Prop := fun xs H Q => ∃ (c : V) (cv : Value) (b : Bool) (dd : Addr) (fs : List (Str × V)), xs = [.ref a, c] ∧ cls = .ref C ∧ d = some dd ∧ H dd = some (.xd fs) ∧ ClsV c cv ∧ PySem.W.kitOne K (.ref C) cv = some b ∧ Q (.bl b) H
theorem call_isX {X : Cx} {a C : Addr} {oe : Obj} {cls : Value} {d : Option Addr} {pn : List (Addr × Obj)} (T : XiC X.K C) (hz : Zc cls d oe) (hf : ∃ vs, oe.data = .fields vs) : CallR (X.suite a ((a, oe) :: pn)) (.builtin "isinstance") (rIsX X.K a C cls d) := by
  intro pins s σ H xs us Q I r h
  obtain ⟨c, cv, b, dd, fs, rfl, rfl, rfl, ea, hcv, e, q⟩ := h
  obtain ⟨u1, u2, rfl, r1, r2⟩ := vals2 r
  cases (show u1 = Value.ref a from r1)
  have ec := hcv.eq r2
  subst ec
  obtain ⟨ha, _⟩ := I.pin (a, oe) (List.mem_append_left _ List.mem_cons_self)
  obtain ⟨vs, hd⟩ := hf
  have hx : ObjOk X.prog X.w H s.heap dd (.xd fs) := I.hok dd _ ea
  obtain ⟨mA, hns, hr⟩ := hx
  obtain ⟨od, ho, hl⟩ := lookIn_ns hns
  have J : PySem.W.InstAt s.heap a oe C (some od) := ⟨ha, hz.1, by unfold PySem.W.notCls; rw [hd] <;> rfl, by rw [hz.2]; exact ho⟩
  exact PySem.W.kia_one (PySem.W.kitx_exc T.cl T.ga T.gg T.sb T.ha T.hn T.ht T.hm) I.kIn J e (fun z => nomatch z) fun tk => ⟨.bl b, H, I.kept (t' := tk) fun _ _ z => z, rfl, q⟩
/-! ### the state of the draws -/
def St4 (H : Hp) (t : Addr) : Prop := ∃ a b c d : Int, H t = some (.lst [.int a, .int b, .int c, .int d])
/-- H0: the heap of old, t: the state's list, l: the script -/
structure Drw (K : PySem.W.Frag) (H0 : Hp) (l t : Addr) (H : Hp) : Prop where
  scr : ∃ ns : List Int, SqL K H0 l (ns.map V.int)
  new : H0 t = none
  same : Same H0 H
  st : St4 H t
theorem Drw.sc {K : PySem.W.Frag} {H0 H : Hp} {l t : Addr} (D : Drw K H0 l t H) : ∃ ns : List Int, SqL K H l (ns.map V.int) := by
  obtain ⟨ns, h⟩ := D.scr
  exact ⟨ns, D.same.seq h⟩
theorem Drw.upd {K : PySem.W.Frag} {H0 H : Hp} {l t : Addr} {a b c d : Int} (D : Drw K H0 l t H) : Drw K H0 l t (upd H t (.lst [.int a, .int b, .int c, .int d])) :=
  ⟨D.scr, D.new, same_upd2 D.same D.new, ⟨a, b, c, d, upd_same⟩⟩
theorem Drw.mono {K : PySem.W.Frag} {H0 H H' : Hp} {l t : Addr} (D : Drw K H0 l t H) (e : Same H H') : Drw K H0 l t H' := by
  obtain ⟨a, b, c, d, h⟩ := D.st
  exact ⟨D.scr, D.new, D.same.trans e, ⟨a, b, c, d, e _ _ h⟩⟩
/-- all but what stands at t -/
def But (t : Addr) (H H' : Hp) : Prop := ∀ b, b ≠ t → H' b = H b
theorem But.refl {t : Addr} {H : Hp} : But t H H := fun _ _ => rfl
theorem But.trans {t : Addr} {H H1 H2 : Hp} (a : But t H H1) (b : But t H1 H2) : But t H H2 := fun c h => (b c h).trans (a c h)
theorem But.upd {t : Addr} {H H1 : Hp} {o : HO} (a : But t H H1) : But t H (upd H1 t o) := fun c h => (upd_ne h).trans (a c h)
def spStart (K : PySem.W.Frag) : Sp := fun vs H Q _ => ∃ (l : Addr) (ns : List Int), vs = [.ref l] ∧ SqL K H l (ns.map V.int) ∧ ∀ t H', H t = none → Drw K H l t H' → But t H H' → Q (.ref t) H'
def spDraw (K : PySem.W.Frag) : Sp := fun vs H Q _ => ∃ (l t : Addr) (m : Int) (H0 : Hp), vs = [.ref l, .ref t, .int m] ∧ Drw K H0 l t H ∧ 0 < m ∧ m < 1073741824 ∧ ∀ (v : Int) H', 0 ≤ v → v < m → But t H H' → Drw K H0 l t H' → Q (.int v) H'
theorem at0 {a b c d : V} : atI [a, b, c, d] 0 = some a := rfl
theorem at1 {a b c d : V} : atI [a, b, c, d] 1 = some b := rfl
theorem at2 {a b c d : V} : atI [a, b, c, d] 2 = some c := rfl
theorem at3 {a b c d : V} : atI [a, b, c, d] 3 = some d := rfl
/-- the plain steps of a reading -/
local macro_rules | `(tactic| walk_at "rd") => `(tactic| repeat (first | refine ⟨_, rfl, ?_⟩ | refine ⟨_, _, rfl, rfl, ?_⟩ | refine ⟨⟨by decide, by decide⟩, ?_⟩ | refine ⟨⟨by decide, by decide, by decide⟩, ?_⟩ | refine ⟨show (0 : Int) < _ by decide, ?_⟩))
/-! ### data, errors, numbers -/
theorem Same.seqT {K : PySem.W.Frag} {H H' : Hp} {a : Addr} {xs : List V} (e : Same H H') (h : SqT K H a xs) : SqT K H' a xs := by
  rcases h with (h | ⟨o, h⟩) | h
  · exact .inl (.inl (e _ _ h))
  · exact .inl (.inr ⟨o, e _ _ h⟩)
  · exact .inr h
mutual
theorem dp_same {K : PySem.W.Frag} {H H' : Hp} (e : Same H H') : ∀ {v : V} {d : PyData}, Dp K H v d → Dp K H' v d
  | _, _, .non => .non
  | _, _, .bl b => .bl b
  | _, _, .int i => .int i
  | _, _, .str x => .str x
  | _, _, .lst h a => .lst (e.seq h) (dps_same e a)
  | _, _, .tup h a => .tup (Same.seqT e h) (dps_same e a)
theorem dps_same {K : PySem.W.Frag} {H H' : Hp} (e : Same H H') : ∀ {vs : List V} {ds : List PyData}, DpAll K H vs ds → DpAll K H' vs ds
  | _, _, .nil => .nil
  | _, _, .cons h a => .cons (dp_same e h) (dps_same e a)
end
theorem ne_self {d : PyData} (h : SeqAt.shaped d = true) : (!PyData.eqv d d) = false := by
  rw [SeqAt.eqv_refl d (SeqAt.canLay_of_shaped h)] <;> rfl
theorem eq_self {d : PyData} (h : SeqAt.shaped d = true) : PyData.eqv d d = true := SeqAt.eqv_refl d (SeqAt.canLay_of_shaped h)
/-- an error of two fields, being made -/
def spX2 (C : Addr) (f1 f2 : Str) : Sp := fun vs H Q _ => ∃ (a : Addr) (x y : V), vs = [.ref a, x, y] ∧ H a = some (exo a C none) ∧
  ∀ d, H d = none → d ≠ a → Q .non (upd (upd (upd H d (exd d [(f1, x)])) a (exo a C (some d))) d (exd d [(f2, y), (f1, x)]))
theorem mk2 {C : Addr} {f1 f2 : Str} {H1 : Hp} {x y : V} {Q : XK} (h : ∀ d H', H1 d = none → Same H1 H' → H' d = some (.xd [(f2, y), (f1, x)]) → Q (.ref C) (some d) H') :
    ([x, y] : List V).length ≤ 1000 ∧ ∀ a, H1 a = none → spX2 C f1 f2 (.ref a :: ([x, y] ++ [])) (upd H1 a (exo a C none)) (fun v H2 => v = .non ∧ ∃ (d : Addr) (fs : List (Str × V)), H2 a = some (exo a C (some d)) ∧ H2 d = some (exd d fs) ∧ H1 d = none ∧ Q (.ref C) (some d) (upd (del H2 a) d (.xd fs))) (fun _ _ _ => False) := by
  refine ⟨by show 2 ≤ 1000; decide, fun a ha => ⟨a, x, y, rfl, upd_same, fun d hd hda => ⟨rfl, d, _, ?_, upd_same, ?_, ?_⟩⟩⟩
  · rw [upd_ne (Ne.symm hda), upd_same]
  · rw [upd_ne hda] at hd
    exact hd
  · have hd1 : H1 d = none := by
      rw [upd_ne hda] at hd
      exact hd
    refine h d _ hd1 (fun b o e => ?_) upd_same
    have hba : b ≠ a := ne_of_none e ha
    have hbd : b ≠ d := ne_of_none e hd1
    rw [upd_ne hbd, del_ne hba, upd_ne hbd, upd_ne hba, upd_ne hbd, upd_ne hba]
    exact e
/-- what is an integer -/
def isInt : V → Bool
  | .int _ => true
  | _ => false
/-- a value that isinstance can ask -/
def Kn (K : PySem.W.Frag) (H : Hp) (x : V) : Prop := ∃ t b1 b2, TyX K H x t ∧ PySem.W.kitOne K t (.type "int") = some b1 ∧ (b1 = true → PySem.W.kitOne K t (.type "bool") = some b2) ∧ (b1 && !b2) = isInt x
theorem kn_int {K : PySem.W.Frag} {H : Hp} (i : Int) : Kn K H (.int i) := ⟨_, true, false, .base (.int i), kit_ty (by decide +kernel), fun _ => kit_ty (by decide +kernel), rfl⟩
theorem kn_bl {K : PySem.W.Frag} {H : Hp} (b : Bool) : Kn K H (.bl b) := ⟨_, true, true, .base (.bl b), kit_ty (by decide +kernel), fun _ => kit_ty (by decide +kernel), rfl⟩
theorem kn_non {K : PySem.W.Frag} {H : Hp} : Kn K H .non := ⟨_, false, false, .base .non, kit_ty (by decide +kernel), fun z => (nomatch z), rfl⟩
theorem kn_str {K : PySem.W.Frag} {H : Hp} (x : Str) : Kn K H (.str x) := ⟨_, false, false, .base (.str x), kit_ty (by decide +kernel), fun z => (nomatch z), rfl⟩
theorem kn_tup {K : PySem.W.Frag} {H : Hp} {a : Addr} {xs : List V} (e : H a = some (.tup xs)) : Kn K H (.ref a) := ⟨_, false, false, .base (.tup e), kit_ty (by decide +kernel), fun z => (nomatch z), rfl⟩
def spIsInt (K : PySem.W.Frag) : Sp := fun vs H Q _ => ∃ x, vs = [x] ∧ Kn K H x ∧ Q (.bl (isInt x)) H
def oV : Option Int → V
  | none => .non
  | some i => .int i
/-- within the bounds -/
def good (x : V) (lo hi : Option Int) : Bool := match x with
  | .int i => lo.all (fun l => decide (l ≤ i)) && hi.all (fun h => decide (i ≤ h))
  | _ => false
def spCheck (K : PySem.W.Frag) (C : Addr) : Sp := fun vs H Q E => ∃ (w : Str) (x : V) (lo hi : Option Int), vs = [.str w, x, oV lo, oV hi] ∧ Kn K H x ∧ (good x lo hi = true → Q x H) ∧
  (good x lo hi = false → ∀ d H', H d = none → Same H H' → H' d = some (.xd [("value", x), ("what", .str w)]) → E (.ref C) (some d) H')
/-- subscripts whose written part is named (within a comprehension) -/
theorem ixK_list {X : Cx} {K : PySem.W.Frag} (h : X.K = K) : IxR X (rIxL K) := h ▸ ix_list
theorem ixK_tup {X : Cx} {K : PySem.W.Frag} (h : X.K = K) : IxR X (rIxT K) := h ▸ ix_tup
/-- a field, the written part named (within a try) -/
theorem pe_fldK {X : Cx} {K : PySem.W.Frag} {e : Expr} {f : Str} {pos : Pos} {ta : TE} (h : X.K = K) (he : PE X e ta) (hb : attributeBase e f X.env (eval e X.env) = eval e X.env) : PE X (.Attribute e f pos) (tFld K ta f) := h ▸ pe_fld he hb
/-! ### lists and tuples: walks, comprehensions -/
/-- a list or a tuple -/
def iSeq (K : PySem.W.Frag) (tl : TE) : TI := fun σ H R => tl σ H fun x H1 => ∃ a, x = .ref a ∧ (((∃ xs, SqL K H1 a xs) ∧ R (Itl K a) H1) ∨ ((∃ xs, SqT K H1 a xs) ∧ R (Itt K a) H1))
theorem pi_seq {X : Cx} {tg l : Expr} {tl : TE} (hl : PE X l tl) : PI X tg l (iSeq X.K tl) := by
  constructor
  intro pins s σ H R I h
  refine thn (hl.run pins s σ H _ I h) fun v t ⟨x, Hb, J, rx, a, ex, k⟩ => ?_
  subst ex
  cases rx
  rcases k with ⟨⟨xs, hq⟩, k⟩ | ⟨⟨xs, hq⟩, k⟩
  · obtain ⟨its, -, plc, -⟩ := J.list hq
    refine wpAny_pyIter_list plc.isList ⟨t.heap.objs.size, [t.heap.objs.size], _, _, Hb, rfl, J.kept (t' := t.toks) (fun _ _ e => Heap.get?_push_of_some _ e), turn_list a _, ⟨_, Heap.get?_push_size _ rfl, rfl, rfl⟩, ?_, k⟩
    intro b hb
    obtain rfl : b = t.heap.objs.size := by simpa using hb
    exact J.fpOk (Nat.le_refl _) (J.hok.fresh (Nat.le_refl _))
  · obtain ⟨its, -, plc, -⟩ := J.tuple hq
    refine wpAny_pyIter_tuple (show t.heap.IsTuple a its.toArray from plc) ⟨t.heap.objs.size, [t.heap.objs.size], _, _, Hb, rfl, J.kept (t' := t.toks) (fun _ _ e => Heap.get?_push_of_some _ e), turn_tuple a _, ⟨_, Heap.get?_push_size _ rfl, rfl, rfl⟩, ?_, k⟩
    intro b hb
    obtain rfl : b = t.heap.objs.size := by simpa using hb
    exact J.fpOk (Nat.le_refl _) (J.hok.fresh (Nat.le_refl _))
def rListOf (K : PySem.W.Frag) : List V → Hp → VK → Prop := fun xs H Q => ∃ p ys, xs = [.ref p] ∧ (SqL K H p ys ∨ SqT K H p ys) ∧ ∀ l, H l = none → Q (.ref l) (upd H l (.lst ys))
def rTupOf (K : PySem.W.Frag) : List V → Hp → VK → Prop := fun xs H Q => ∃ p ys, xs = [.ref p] ∧ ((SqL K H p ys ∧ ∀ l, H l = none → Q (.ref l) (upd H l (.tup ys))) ∨ (SqT K H p ys ∧ Q (.ref p) H))
/-! rules whose written part is named (within a comprehension) -/
theorem opK {X : Cx} {K : PySem.W.Frag} {f : Value → Value → Sem Value} (h : X.K = K) (r : PySem.W.Frag → R2) (o : OpR X f (r X.K)) : OpR X f (r K) := h ▸ o
theorem crK {X : Cx} {K : PySem.W.Frag} {f : Value} (h : X.K = K) (r : PySem.W.Frag → List V → Hp → VK → Prop) (o : CallR X f (r X.K)) : CallR X f (r K) := h ▸ o
theorem slK {X : Cx} {K : PySem.W.Frag} (h : X.K = K) (r : PySem.W.Frag → V → Option Int → Option Int → Hp → VK → Prop) (o : SlR X (r X.K)) : SlR X (r K) := h ▸ o
/-- a number as a test -/
def tInt (ta : TE) : TT := fun σ H Q => ta σ H fun x H' => ∃ i, x = .int i ∧ Q (i != 0) H'
theorem pt_int {X : Cx} {a : Expr} {ta : TE} (ha : PE X a ta) (he : ∀ whole, isTrue a X.env whole = (do let v ← whole; standAt a.pos; holding [v] (truthy v)) := by intro _; rfl) : PT X a (tInt ta) := by
  constructor
  intro pins s σ H Q I h
  refine isTrue_plain (thn (ha.run pins s σ H _ I h) fun v t ⟨x, Hb, J, rx, i, ex, k⟩ => ?_) (he _)
  subst ex
  exact tru_ok pins t σ Hb (.int i) v Q J rx ⟨_, rfl, k⟩
/-- the answer of a sign, by another name -/
theorem opN {g : Int → Int → V} {i j : Int} {z : V} {H : Hp} {Q : VK} (e : g i j = z) (k : Q z H) : rI0 g (.int i) (.int j) H Q := ⟨i, j, rfl, rfl, by show Q (g i j) H; rw [e]; exact k⟩
/-- all but lists stand -/
def SameT (H H' : Hp) : Prop := ∀ b o, H b = some o → (∀ xs, o ≠ .lst xs) → H' b = some o
theorem SameT.refl {H : Hp} : SameT H H := fun _ _ h _ => h
theorem SameT.trans {H H1 H2 : Hp} (a : SameT H H1) (b : SameT H1 H2) : SameT H H2 := fun c o h n => b c o (a c o h n) n
theorem Same.toT {H H' : Hp} (e : Same H H') : SameT H H' := fun b o h _ => e b o h
theorem sameT_upd {H : Hp} {p : Addr} {xs ys : List V} (h : H p = some (.lst xs)) : SameT H (upd H p (.lst ys)) := fun b o e n => by
  rw [upd_ne (ne_of e h (n xs))]
  exact e
theorem SameT.tup {H H' : Hp} {a : Addr} {xs : List V} (e : SameT H H') (h : H a = some (.tup xs)) : H' a = some (.tup xs) := e _ _ h (fun _ z => nomatch z)
theorem SameT.ins {H H' : Hp} {a C dx : Addr} {fs : List (Str × V)} (e : SameT H H') (h : H a = some (.ins C dx fs)) : H' a = some (.ins C dx fs) := e _ _ h (fun _ z => nomatch z)
theorem SameT.seqT {K : PySem.W.Frag} {H H' : Hp} {a : Addr} {xs : List V} (e : SameT H H') (h : SqT K H a xs) : SqT K H' a xs := by
  rcases h with (h | ⟨o, h⟩) | h
  · exact .inl (.inl (e.tup h))
  · exact .inl (.inr ⟨o, e _ _ h (fun _ z => nomatch z)⟩)
  · exact .inr h
theorem prImp {α β : Type} {F G : α → β → Prop} (h : ∀ a b, F a b → G a b) : ∀ {xs : List α} {ys : List β}, Paired F xs ys → Paired G xs ys
  | _, _, .nil => .nil
  | _, _, .cons a t => .cons (h _ _ a) (prImp h t)
theorem paired_eq {xs ys : List V} (h : Paired (fun a y => y = a) xs ys) : ys = xs := by
  induction h with
  | nil => rfl
  | cons a _ ih => rw [a, ih]
theorem paired_fn {α : Type} {f : α → V} {xs : List α} {ys : List V} (h : Paired (fun a y => y = f a) xs ys) : ys = xs.map f := by
  induction h with
  | nil => rfl
  | cons a _ ih => rw [a, ih, List.map_cons]
theorem prLen {α β : Type} {F : α → β → Prop} {xs : List α} {ys : List β} (h : Paired F xs ys) : ys.length = xs.length := by
  induction h with
  | nil => rfl
  | cons _ _ ih => rw [List.length_cons, List.length_cons, ih]
theorem prAt {α β : Type} {F : α → β → Prop} {xs : List α} {ys : List β} (h : Paired F xs ys) : ∀ {i : Nat} {y : β}, ys[i]? = some y → ∃ x, xs[i]? = some x ∧ F x y := by
  induction h with
  | nil => intro i y e; simp at e
  | cons a _ ih =>
    intro i y e
    cases i with
    | zero =>
      cases e
      exact ⟨_, rfl, a⟩
    | succ i => exact ih (i := i) (by simpa using e)
theorem prAt2 {α β : Type} {F : α → β → Prop} {xs : List α} {ys : List β} (h : Paired F xs ys) : ∀ {i : Nat} {x : α}, xs[i]? = some x → ∃ y, ys[i]? = some y ∧ F x y := by
  induction h with
  | nil => intro i y e; simp at e
  | cons a _ ih =>
    intro i y e
    cases i with
    | zero =>
      cases e
      exact ⟨_, rfl, a⟩
    | succ i => exact ih (i := i) (by simpa using e)
theorem prApp {α β : Type} {F : α → β → Prop} : ∀ {xs : List α} {ys : List β} {xs' : List α} {ys' : List β}, Paired F xs ys → Paired F xs' ys' → Paired F (xs ++ xs') (ys ++ ys')
  | _, _, _, _, .nil, h => h
  | _, _, _, _, .cons a t, h => .cons a (prApp t h)
theorem prMapL {α β γ : Type} {F : α → β → Prop} {f : γ → α} : ∀ {xs : List γ} {ys : List β}, Paired (fun c b => F (f c) b) xs ys → Paired F (xs.map f) ys
  | _, _, .nil => .nil
  | _, _, .cons a t => .cons a (prMapL t)
theorem prUnmapL {α β γ : Type} {F : α → β → Prop} {f : γ → α} : ∀ {xs : List γ} {ys : List β}, Paired F (xs.map f) ys → Paired (fun c b => F (f c) b) xs ys
  | [], _, .nil => .nil
  | _ :: _, _, .cons a t => .cons a (prUnmapL t)
theorem paired_dp {K : PySem.W.Frag} {H : Hp} {α : Type} {f : α → PyData} : ∀ {xs : List α} {ys : List V}, Paired (fun a y => Dp K H y (f a)) xs ys → DpAll K H ys (xs.map f)
  | _, _, .nil => .nil
  | _, _, .cons a t => .cons a (paired_dp t)
theorem dps_paired {K : PySem.W.Frag} {H : Hp} {α : Type} {f : α → PyData} : ∀ {xs : List α} {ys : List V}, DpAll K H ys (xs.map f) → Paired (fun a y => Dp K H y (f a)) xs ys
  | [], _, .nil => .nil
  | _ :: _, _, .cons a t => .cons a (dps_paired t)
/-- a comprehension: f tells what each turn gives (none: nothing), R how it is told by a value -/
theorem lc_itM {J : It} {n : Nat} {G : Hp → Prop} {Y : Nat → Hp → V → Hp → Prop} (w : Walk J n G Y) {α : Type} (f : Nat → Option α) (R : α → V → Hp → Prop) (st : ∀ a y H H', SameT H H' → R a y H → R a y H')
    {g : TG} {tt : TT} {te : TE} {vs : List Nat} {σ : L2.St} {H1 : Hp} {D : Addr} {Qd : Hp → Prop} (nD : H1 D = none) (hG : ∀ H, Same H1 H → G H) (hn : n ≤ 100000)
    (hs : ∀ i x H H' (k : V → Hp → Prop) (N : Hp → Prop), i < n → Same H1 H → Y i H x H' → (∀ y H4 a, Same H H4 → f i = some a → R a y H4 → k y H4) → (∀ H3, Same H H3 → f i = none → N H3) →
      g x (wipe σ vs) H' fun σ2 H2 => wipe σ2 vs = wipe σ vs ∧ tt σ2 H2 fun b H3 => if b = true then te σ2 H3 k else N H3)
    (hd : ∀ H' ys, Same H1 H' → H' D = some (.lst ys) → Paired (fun a y => R a y H') ((List.range n).filterMap f) ys → Qd H') :
    ∃ W : Nat → Nat → Hp → Prop, (∃ m, W 0 m (upd H1 D (.lst []))) ∧ ∀ i m H, W i m H →
      (J.stop i H ∧ Qd H) ∨ (J.go i H ∧ ∃ Nx : Hp → Prop, (∀ H', Nx H' → ∃ m', m' < m ∧ W (i + 1) m' H') ∧ ∀ x H', J.yld i H x H' → g x (wipe σ vs) H' fun σ2 H2 => wipe σ2 vs = wipe σ vs ∧ tt σ2 H2 fun b H3 =>
        if b = true then te σ2 H3 fun y H4 => ∃ acc, H4 D = some (.lst acc) ∧ acc.length < sizeLine ∧ Nx (upd H4 D (.lst (acc ++ [y]))) else Nx H3) := by
  have e100 : (100000 : Nat) < sizeLine := by decide
  refine lc_it w (fun i H => i ≤ n ∧ Same H1 H ∧ ∃ ys, H D = some (.lst ys) ∧ ys.length ≤ i ∧ Paired (fun a y => R a y H) ((List.range i).filterMap f) ys)
    ⟨Nat.zero_le _, same_upd nD, [], upd_same, Nat.le_refl _, .nil⟩ (fun i H _ h => hG H h.2.1) ?_ fun H h => by
      obtain ⟨_, sm, ys, hD, _, p⟩ := h
      exact hd H ys sm hD p
  rintro i x H H' hi ⟨_, sm, ys, hD, hl, p⟩ y
  refine hs i x H H' _ _ hi sm y (fun z H4 a s4 hf hr => ?_) fun H3 s3 hf => ?_
  · have h4 := s4 _ _ hD
    refine ⟨ys, h4, by omega, hi, same_upd2 (sm.trans s4) nD, _, upd_same, by rw [List.length_append, List.length_singleton]; omega, ?_⟩
    rw [List.range_succ, List.filterMap_append]
    have t4 : SameT H4 (upd H4 D (.lst (ys ++ [z]))) := sameT_upd h4
    refine prApp (prImp (fun a y' h => st a y' _ _ ((Same.toT s4).trans t4) h) p) ?_
    rw [List.filterMap_cons, hf]
    exact .cons (st a z _ _ t4 hr) .nil
  · refine ⟨hi, sm.trans s3, ys, s3 _ _ hD, by omega, ?_⟩
    rw [List.range_succ, List.filterMap_append, List.filterMap_cons, hf]
    rw [← List.append_nil ys]
    exact prApp (prImp (fun a y' h => st a y' _ _ (Same.toT s3) h) p) .nil
/-- .. where each turn gives something -/
theorem lc_itA {J : It} {n : Nat} {G : Hp → Prop} {Y : Nat → Hp → V → Hp → Prop} (w : Walk J n G Y) {α : Type} (f : Nat → α) (R : α → V → Hp → Prop) (st : ∀ a y H H', SameT H H' → R a y H → R a y H')
    {g : TG} {te : TE} {vs : List Nat} {σ : L2.St} {H1 : Hp} {D : Addr} {Qd : Hp → Prop} (nD : H1 D = none) (hG : ∀ H, Same H1 H → G H) (hn : n ≤ 100000)
    (hs : ∀ i x H H' (k : V → Hp → Prop), i < n → Same H1 H → Y i H x H' → (∀ y H4, Same H H4 → R (f i) y H4 → k y H4) → g x (wipe σ vs) H' fun σ2 H2 => wipe σ2 vs = wipe σ vs ∧ te σ2 H2 k)
    (hd : ∀ H' ys, Same H1 H' → H' D = some (.lst ys) → Paired (fun a y => R a y H') ((List.range n).map f) ys → Qd H') :
    ∃ W : Nat → Nat → Hp → Prop, (∃ m, W 0 m (upd H1 D (.lst []))) ∧ ∀ i m H, W i m H →
      (J.stop i H ∧ Qd H) ∨ (J.go i H ∧ ∃ Nx : Hp → Prop, (∀ H', Nx H' → ∃ m', m' < m ∧ W (i + 1) m' H') ∧ ∀ x H', J.yld i H x H' → g x (wipe σ vs) H' fun σ2 H2 => wipe σ2 vs = wipe σ vs ∧ tYes σ2 H2 fun b H3 =>
        if b = true then te σ2 H3 fun y H4 => ∃ acc, H4 D = some (.lst acc) ∧ acc.length < sizeLine ∧ Nx (upd H4 D (.lst (acc ++ [y]))) else Nx H3) := by
  refine lc_itM w (fun i => some (f i)) R st nD hG hn (fun i x H H' k N hi sm y hk _ => ?_) fun H' ys sm hD p => hd H' ys sm hD ?_
  · have := hs i x H H' k hi sm y fun y H4 s4 hr => hk y H4 _ s4 rfl hr
    exact this
  · rw [← List.filterMap_eq_map]
    exact p
theorem range_get {α β : Type} (g : α → β) (d : α) (xs : List α) : (List.range xs.length).map (fun i => g (xs.getD i d)) = xs.map g := by
  refine List.ext_getElem (by simp) fun i h1 h2 => ?_
  simp at h1
  simp [h1]
theorem range_getM {α β : Type} (g : α → Option β) (d : α) : ∀ (xs : List α), (List.range xs.length).filterMap (fun i => g (xs.getD i d)) = xs.filterMap g := fun xs => by
  have := congrArg (List.filterMap id) (range_get g d xs)
  rw [List.filterMap_map, List.filterMap_map] at this
  exact this
/-- a comprehension over what a list, a tuple holds -/
theorem lc_xsM {J : It} {xs : List V} {G : Hp → Prop} (w : Walk J xs.length G (YAt xs)) {α : Type} (f : V → Option α) (R : α → V → Hp → Prop) (st : ∀ a y H H', SameT H H' → R a y H → R a y H')
    {g : TG} {tt : TT} {te : TE} {vs : List Nat} {σ : L2.St} {H1 : Hp} {D : Addr} {Qd : Hp → Prop} (nD : H1 D = none) (hG : ∀ H, Same H1 H → G H) (hn : xs.length ≤ 100000)
    (hs : ∀ (i : Nat) (x : V) (H : Hp) (k : V → Hp → Prop) (N : Hp → Prop), xs[i]? = some x → Same H1 H → (∀ y H4 a, Same H H4 → f x = some a → R a y H4 → k y H4) → (∀ H3, Same H H3 → f x = none → N H3) →
      g x (wipe σ vs) H fun σ2 H2 => wipe σ2 vs = wipe σ vs ∧ tt σ2 H2 fun b H3 => if b = true then te σ2 H3 k else N H3)
    (hd : ∀ H' ys, Same H1 H' → H' D = some (.lst ys) → Paired (fun a y => R a y H') (xs.filterMap f) ys → Qd H') :
    ∃ W : Nat → Nat → Hp → Prop, (∃ m, W 0 m (upd H1 D (.lst []))) ∧ ∀ i m H, W i m H →
      (J.stop i H ∧ Qd H) ∨ (J.go i H ∧ ∃ Nx : Hp → Prop, (∀ H', Nx H' → ∃ m', m' < m ∧ W (i + 1) m' H') ∧ ∀ x H', J.yld i H x H' → g x (wipe σ vs) H' fun σ2 H2 => wipe σ2 vs = wipe σ vs ∧ tt σ2 H2 fun b H3 =>
        if b = true then te σ2 H3 fun y H4 => ∃ acc, H4 D = some (.lst acc) ∧ acc.length < sizeLine ∧ Nx (upd H4 D (.lst (acc ++ [y]))) else Nx H3) := by
  refine lc_itM w (fun i => f (xs.getD i .non)) R st nD hG hn (fun i x H H' k N hi sm y h1 h2 => ?_) fun H' ys sm hD p => hd H' ys sm hD ?_
  · obtain ⟨rfl, hx⟩ := y
    have e : xs.getD i .non = x := by rw [List.getD_eq_getElem?_getD, hx] <;> rfl
    rw [e] at h1 h2
    exact hs i x _ k N hx sm h1 h2
  · rw [← range_getM f .non xs]
    exact p
theorem lc_xsA {J : It} {xs : List V} {G : Hp → Prop} (w : Walk J xs.length G (YAt xs)) {α : Type} (f : V → α) (R : α → V → Hp → Prop) (st : ∀ a y H H', SameT H H' → R a y H → R a y H')
    {g : TG} {te : TE} {vs : List Nat} {σ : L2.St} {H1 : Hp} {D : Addr} {Qd : Hp → Prop} (nD : H1 D = none) (hG : ∀ H, Same H1 H → G H) (hn : xs.length ≤ 100000)
    (hs : ∀ (i : Nat) (x : V) (H : Hp) (k : V → Hp → Prop), xs[i]? = some x → Same H1 H → (∀ y H4, Same H H4 → R (f x) y H4 → k y H4) → g x (wipe σ vs) H fun σ2 H2 => wipe σ2 vs = wipe σ vs ∧ te σ2 H2 k)
    (hd : ∀ H' ys, Same H1 H' → H' D = some (.lst ys) → Paired (fun a y => R a y H') (xs.map f) ys → Qd H') :
    ∃ W : Nat → Nat → Hp → Prop, (∃ m, W 0 m (upd H1 D (.lst []))) ∧ ∀ i m H, W i m H →
      (J.stop i H ∧ Qd H) ∨ (J.go i H ∧ ∃ Nx : Hp → Prop, (∀ H', Nx H' → ∃ m', m' < m ∧ W (i + 1) m' H') ∧ ∀ x H', J.yld i H x H' → g x (wipe σ vs) H' fun σ2 H2 => wipe σ2 vs = wipe σ vs ∧ tYes σ2 H2 fun b H3 =>
        if b = true then te σ2 H3 fun y H4 => ∃ acc, H4 D = some (.lst acc) ∧ acc.length < sizeLine ∧ Nx (upd H4 D (.lst (acc ++ [y]))) else Nx H3) := by
  refine lc_itA w (fun i => f (xs.getD i .non)) R st nD hG hn (fun i x H H' k hi sm y h1 => ?_) fun H' ys sm hD p => hd H' ys sm hD ?_
  · obtain ⟨rfl, hx⟩ := y
    have e : xs.getD i .non = x := by rw [List.getD_eq_getElem?_getD, hx] <;> rfl
    rw [e] at h1
    exact hs i x _ k hx sm h1
  · rw [← range_get f .non xs]
    exact p
/-- all that stands but what is at t -/
def Exc (t : Addr) (H H' : Hp) : Prop := ∀ b o, b ≠ t → H b = some o → H' b = some o
theorem Exc.refl {t : Addr} {H : Hp} : Exc t H H := fun _ _ _ h => h
theorem Exc.trans {t : Addr} {H H1 H2 : Hp} (a : Exc t H H1) (b : Exc t H1 H2) : Exc t H H2 := fun c o n h => b c o n (a c o n h)
theorem But.exc {t : Addr} {H H' : Hp} (b : But t H H') : Exc t H H' := fun c o n h => (b c n).trans h
theorem exc_same {t : Addr} {H H' : Hp} (e : Same H H') : Exc t H H' := fun c o _ h => e c o h
theorem exc_upd {t p : Addr} {H : Hp} {o : HO} (h : H p = none) : Exc t H (upd H p o) := exc_same (same_upd h)
theorem Drw.exc {K : PySem.W.Frag} {H0 H H' : Hp} {l t : Addr} (D : Drw K H0 l t H) (e : Same H H') : Drw K H0 l t H' := D.mono e
theorem Drw.ne {K : PySem.W.Frag} {H0 H : Hp} {l t p : Addr} (D : Drw K H0 l t H) (h : H p = none) : p ≠ t := fun z => by
  obtain ⟨a, b, c, d, e⟩ := D.st
  rw [← z, h] at e
  cases e
theorem Drw.updN {K : PySem.W.Frag} {H0 H H' : Hp} {l t p : Addr} {o : HO} (D : Drw K H0 l t H') (h : H0 p = none) (n : p ≠ t) : Drw K H0 l t (L2.upd H' p o) := by
  obtain ⟨a, b, c, d, e⟩ := D.st
  exact ⟨D.scr, D.new, same_upd2 D.same h, ⟨a, b, c, d, by rw [upd_ne (Ne.symm n)]; exact e⟩⟩
/-- a list of draws -/
theorem lc_draws {K : PySem.W.Frag} {g : TG} {te : TE} {vs : List Nat} {σ : L2.St} {H H1 : Hp} {D l t : Addr} {Qd : Hp → Prop} {lo : Int} (m : Int) (n : Nat) (D1 : Drw K H l t H1) (nD : H1 D = none) (hn : n ≤ 100000)
    (hs : ∀ (i : Nat) (H2 : Hp) (k : V → Hp → Prop), i < n → Drw K H l t H2 → Exc t H1 H2 → (∀ (v : Int) H', 0 ≤ v → v < m → But t H2 H' → Drw K H l t H' → k (.int v) H') → g (.int (lo + i)) (wipe σ vs) H2 fun σ2 H3 => wipe σ2 vs = wipe σ vs ∧ te σ2 H3 k)
    (hd : ∀ H' (cs : List Int), Exc t H1 H' → Drw K H l t H' → H' D = some (.lst (cs.map V.int)) → cs.length = n → (∀ c ∈ cs, 0 ≤ c ∧ c < m) → Qd H') :
    ∃ W : Nat → Nat → Hp → Prop, (∃ m, W 0 m (upd H1 D (.lst []))) ∧ ∀ i m H, W i m H →
      ((Itr lo n).stop i H ∧ Qd H) ∨ ((Itr lo n).go i H ∧ ∃ Nx : Hp → Prop, (∀ H', Nx H' → ∃ m', m' < m ∧ W (i + 1) m' H') ∧ ∀ x H', (Itr lo n).yld i H x H' → g x (wipe σ vs) H' fun σ2 H2 => wipe σ2 vs = wipe σ vs ∧ tYes σ2 H2 fun b H3 =>
        if b = true then te σ2 H3 fun y H4 => ∃ acc, H4 D = some (.lst acc) ∧ acc.length < sizeLine ∧ Nx (upd H4 D (.lst (acc ++ [y]))) else Nx H3) := by
  have e100 : (100000 : Nat) < sizeLine := by decide
  have nt := D1.ne nD
  have n0 : H D = none := D1.same.free nD
  refine lc_range (lo := lo) (n := n) (fun i H' => Exc t H1 H' ∧ Drw K H l t H' ∧ ∃ cs : List Int, H' D = some (.lst (cs.map V.int)) ∧ cs.length = i ∧ ∀ c ∈ cs, 0 ≤ c ∧ c < m)
    ⟨exc_upd nD, D1.updN (H := H) n0 nt, [], upd_same, rfl, fun c hc => by cases hc⟩ ?_ fun H' ⟨e, D2, cs, hD, hl, hc⟩ => hd H' cs e D2 hD hl hc
  rintro i H2 hi ⟨e, D2, cs, hD, hl, hc⟩
  have z := hs i H2 (fun y H4 => ∃ acc, H4 D = some (.lst acc) ∧ acc.length < sizeLine ∧ (Exc t H1 (upd H4 D (.lst (acc ++ [y]))) ∧ Drw K H l t (upd H4 D (.lst (acc ++ [y]))) ∧ ∃ cs : List Int, upd H4 D (.lst (acc ++ [y])) D = some (.lst (cs.map V.int)) ∧ cs.length = i + 1 ∧ ∀ c ∈ cs, 0 ≤ c ∧ c < m)) hi D2 e fun v H' h0 h1 b D3 => by
    have hD' : H' D = some (.lst (cs.map V.int)) := by rw [b D nt]; exact hD
    refine ⟨_, hD', by rw [List.length_map, hl]; omega, fun c o nc hc => ?_, D3.updN (H := H) n0 nt, cs ++ [v], ?_, by rw [List.length_append, hl] <;> rfl, fun c hc' => ?_⟩
    · rw [upd_ne (ne_of_none hc nD)]
      exact (e.trans b.exc) c o nc hc
    · rw [upd_same, List.map_append] <;> rfl
    · rcases List.mem_append.mp hc' with h | h
      · exact hc c h
      · rw [List.mem_singleton.mp h]
        exact ⟨h0, h1⟩
  exact z
theorem But.t {K : PySem.W.Frag} {H0 H H' : Hp} {l t : Addr} (D : Drw K H0 l t H) (b : But t H H') : SameT H H' := fun c o h n => by
  obtain ⟨x, y, z, u, e⟩ := D.st
  rw [b c (fun q => by rw [q, e] at h; cases h; exact n _ rfl)]
  exact h
theorem excT {K : PySem.W.Frag} {H0 H H' : Hp} {l t : Addr} (D : Drw K H0 l t H) (b : Exc t H H') : SameT H H' := fun c o h n => by
  obtain ⟨x, y, z, u, e⟩ := D.st
  exact b c o (fun q => by rw [q, e] at h; cases h; exact n _ rfl) h
theorem bl_ne {a b : Bool} {H : Hp} {Q : VK} (c : Bool) (e : (a != b) = c) (k : Q (.bl c) H) : rNe (.bl a) (.bl b) H Q := by
  refine ⟨rfl, ?_⟩
  rw [← e] at k
  have : (!decide (V.bl a = V.bl b)) = (a != b) := by cases a <;> cases b <;> rfl
  rw [this]
  exact k
theorem bl_eq {a b : Bool} {H : Hp} {Q : VK} (c : Bool) (e : (a == b) = c) (k : Q (.bl c) H) : rEq (.bl a) (.bl b) H Q := by
  refine ⟨rfl, ?_⟩
  rw [← e] at k
  have : decide (V.bl a = V.bl b) = (a == b) := by cases a <;> cases b <;> rfl
  rw [this]
  exact k
theorem int_ne {a b : Int} {H : Hp} {Q : VK} (e : a = b) (k : Q (.bl false) H) : rNe (.int a) (.int b) H Q := by
  refine ⟨rfl, ?_⟩
  rw [decide_eq_true (by rw [e])]
  exact k
/-- a list of things made of draws -/
theorem lc_drawsR {K : PySem.W.Frag} {α : Type} (R : α → V → Hp → Prop) (st : ∀ a y H H', SameT H H' → R a y H → R a y H') (ok : α → Prop) {g : TG} {te : TE} {vs : List Nat} {σ : L2.St} {H H1 : Hp} {D l t : Addr} {Qd : Hp → Prop} {lo : Int} (n : Nat) (D1 : Drw K H l t H1) (nD : H1 D = none) (hn : n ≤ 100000)
    (hs : ∀ (i : Nat) (H2 : Hp) (k : V → Hp → Prop), i < n → Drw K H l t H2 → Exc t H1 H2 → SameT H1 H2 → (∀ (y : V) (a : α) H', Exc t H2 H' → SameT H2 H' → Drw K H l t H' → R a y H' → ok a → k y H') → g (.int (lo + i)) (wipe σ vs) H2 fun σ2 H3 => wipe σ2 vs = wipe σ vs ∧ te σ2 H3 k)
    (hd : ∀ H' (as : List α) (ys : List V), Exc t H1 H' → Drw K H l t H' → H' D = some (.lst ys) → Paired (fun a y => R a y H') as ys → as.length = n → (∀ a ∈ as, ok a) → Qd H') :
    ∃ W : Nat → Nat → Hp → Prop, (∃ m, W 0 m (upd H1 D (.lst []))) ∧ ∀ i m H, W i m H →
      ((Itr lo n).stop i H ∧ Qd H) ∨ ((Itr lo n).go i H ∧ ∃ Nx : Hp → Prop, (∀ H', Nx H' → ∃ m', m' < m ∧ W (i + 1) m' H') ∧ ∀ x H', (Itr lo n).yld i H x H' → g x (wipe σ vs) H' fun σ2 H2 => wipe σ2 vs = wipe σ vs ∧ tYes σ2 H2 fun b H3 =>
        if b = true then te σ2 H3 fun y H4 => ∃ acc, H4 D = some (.lst acc) ∧ acc.length < sizeLine ∧ Nx (upd H4 D (.lst (acc ++ [y]))) else Nx H3) := by
  have e100 : (100000 : Nat) < sizeLine := by decide
  have nt := D1.ne nD
  have n0 : H D = none := D1.same.free nD
  refine lc_range (lo := lo) (n := n) (fun i H' => Exc t H1 H' ∧ SameT H1 H' ∧ Drw K H l t H' ∧ ∃ (as : List α) (ys : List V), H' D = some (.lst ys) ∧ Paired (fun a y => R a y H') as ys ∧ as.length = i ∧ ∀ a ∈ as, ok a)
    ⟨exc_upd nD, Same.toT (same_upd nD), D1.updN (H := H) n0 nt, [], [], upd_same, .nil, rfl, fun c hc => by cases hc⟩ ?_ fun H' ⟨e, _, D2, as, ys, hD, p, hl, hc⟩ => hd H' as ys e D2 hD p hl hc
  rintro i H2 hi ⟨e, e5, D2, as, ys, hD, p, hl, hc⟩
  have z := hs i H2 (fun y H4 => ∃ acc, H4 D = some (.lst acc) ∧ acc.length < sizeLine ∧ (Exc t H1 (upd H4 D (.lst (acc ++ [y]))) ∧ SameT H1 (upd H4 D (.lst (acc ++ [y]))) ∧ Drw K H l t (upd H4 D (.lst (acc ++ [y]))) ∧ ∃ (as : List α) (ys : List V), upd H4 D (.lst (acc ++ [y])) D = some (.lst ys) ∧ Paired (fun a z => R a z (upd H4 D (.lst (acc ++ [y])))) as ys ∧ as.length = i + 1 ∧ ∀ a ∈ as, ok a)) hi D2 e e5 fun y a H' e2 t2 D3 hr ha => by
    have hD' : H' D = some (.lst ys) := e2 D _ nt hD
    have ly := prLen p
    have t4 : SameT H' (upd H' D (.lst (ys ++ [y]))) := sameT_upd hD'
    refine ⟨_, hD', by omega, fun c o nc hc => ?_, e5.trans (t2.trans t4), D3.updN (H := H) n0 nt, as ++ [a], ys ++ [y], upd_same, ?_, by rw [List.length_append, hl] <;> rfl, fun c hc' => ?_⟩
    · rw [upd_ne (ne_of_none hc nD)]
      exact (e.trans e2) c o nc hc
    · exact prApp (prImp (fun b u h => st b u _ _ (t2.trans t4) h) p) (.cons (st a y _ _ t4 hr) .nil)
    · rcases List.mem_append.mp hc' with h | h
      · exact hc c h
      · rw [List.mem_singleton.mp h]
        exact ha
  exact z
theorem rep_one {α : Type} (x : α) : ∀ n : Nat, (List.replicate n [x]).flatten = List.replicate n x
  | 0 => rfl
  | n + 1 => by rw [List.replicate_succ, List.flatten_cons, rep_one x n, List.replicate_succ] <;> rfl
theorem cut_at {α : Type} {xs : List α} {i : Nat} {x : α} (h : xs[i]? = some x) : xs.take i ++ x :: xs.drop (i + 1) = xs := by
  obtain ⟨hi, e⟩ := List.getElem?_eq_some_iff.mp h
  rw [← e, ← List.drop_eq_getElem_cons hi, List.take_append_drop]
/-! ### data: what is shaped -/
theorem canAll_iff : ∀ {ds : List PyData}, (∀ d ∈ ds, d.canLay0 = true) → PyData.canLayAll0 ds = true
  | [], _ => by simp only [PyData.canLayAll0]
  | d :: r, h => by
    simp only [PyData.canLayAll0]
    rw [h d List.mem_cons_self, canAll_iff fun x hx => h x (List.mem_cons_of_mem _ hx)] <;> rfl
theorem depAll_le {k : Nat} : ∀ {ds : List PyData}, (∀ d ∈ ds, d.depth ≤ k) → PyData.depthAll ds ≤ k
  | [], _ => by simp only [PyData.depthAll]; omega
  | d :: r, h => by
    simp only [PyData.depthAll]
    have h1 := h d List.mem_cons_self
    have h2 := depAll_le fun x hx => h x (List.mem_cons_of_mem d hx)
    omega
/-- data of at most k levels -/
def Fit (k : Nat) (d : PyData) : Prop := d.canLay0 = true ∧ d.depth ≤ k
theorem fit_int {k : Nat} (i : Int) : Fit k (.int i) := ⟨by simp only [PyData.canLay0], by simp only [PyData.depth]; omega⟩
theorem fit_bl {k : Nat} (i : Bool) : Fit k (.bool i) := ⟨by simp only [PyData.canLay0], by simp only [PyData.depth]; omega⟩
theorem fit_non {k : Nat} : Fit k .none := ⟨by simp only [PyData.canLay0], by simp only [PyData.depth]; omega⟩
theorem fit_str {k : Nat} {x : Str} (h : PyData.strOk x = true) : Fit k (.str x) := ⟨by simp only [PyData.canLay0]; exact h, by simp only [PyData.depth]; omega⟩
theorem fit_tup {k : Nat} {ds : List PyData} (h : ∀ d ∈ ds, Fit k d) : Fit (k + 1) (.tuple ds) :=
  ⟨by simp only [PyData.canLay0]; exact canAll_iff fun d hd => (h d hd).1, by simp only [PyData.depth]; have := depAll_le fun d hd => (h d hd).2; omega⟩
theorem fit_lst {k : Nat} {ds : List PyData} (h : ∀ d ∈ ds, Fit k d) : Fit (k + 1) (.list ds) :=
  ⟨by simp only [PyData.canLay0]; exact canAll_iff fun d hd => (h d hd).1, by simp only [PyData.depth]; have := depAll_le fun d hd => (h d hd).2; omega⟩
theorem Fit.shaped {k : Nat} {d : PyData} (h : Fit k d) (hk : k ≤ 64) : SeqAt.shaped d = true := by
  unfold SeqAt.shaped
  rw [h.1, decide_eq_true (Nat.le_trans h.2 hk)] <;> rfl
theorem Fit.mono {k m : Nat} {d : PyData} (h : Fit k d) (hk : k ≤ m) : Fit m d := ⟨h.1, Nat.le_trans h.2 hk⟩
/-! ### scalars -/
def scalV : V → Bool
  | .non => true
  | .bl _ => true
  | .int _ => true
  | .str x => PyData.strOk x
  | _ => false
def datV : V → PyData
  | .bl b => .bool b
  | .int i => .int i
  | .str x => .str x
  | _ => .none
theorem kn_scal {K : PySem.W.Frag} {H : Hp} {x : V} (h : scalV x = true) : Kn K H x := by
  cases x with
  | non => exact kn_non
  | bl b => exact kn_bl b
  | int i => exact kn_int i
  | str x => exact kn_str x
  | _ => cases h
theorem dp_scal {K : PySem.W.Frag} {H : Hp} {x : V} (h : scalV x = true) : Dp K H x (datV x) := by
  cases x with
  | non => exact .non
  | bl b => exact .bl b
  | int i => exact .int i
  | str x => exact .str x
  | _ => cases h
theorem fit_scal {k : Nat} {x : V} (h : scalV x = true) : Fit k (datV x) := by
  cases x with
  | non => exact fit_non
  | bl b => exact fit_bl b
  | int i => exact fit_int i
  | str x => exact fit_str h
  | _ => cases h
theorem flat_scal {x : V} (h : scalV x = true) : flatV x = true := by
  cases x with
  | non => rfl
  | bl b => rfl
  | int i => rfl
  | str x => rfl
  | _ => cases h
/-! ### lots: the mathematics -/
def oneL (m : Nat) : List Nat := (List.range 8).filter fun c => m.testBit c
/-- the lot of a mask -/
def lotL (m : Nat) : List Int := (oneL m).map fun (c : Nat) => (c : Int)
def lotV (m : Nat) : List V := (lotL m).map V.int
def lotD (m : Nat) : PyData := .tuple ((lotL m).map PyData.int)
/-- v is the lot of mask m -/
def Lot (K : PySem.W.Frag) (H : Hp) (m : Nat) (v : V) : Prop := ∃ a, v = .ref a ∧ SqT K H a (lotV m)
theorem Lot.sameT {K : PySem.W.Frag} {H H' : Hp} {m : Nat} {v : V} (h : Lot K H m v) (e : SameT H H') : Lot K H' m v := by
  obtain ⟨a, rfl, h⟩ := h
  exact ⟨a, rfl, e.seqT h⟩
theorem Lot.same {K : PySem.W.Frag} {H H' : Hp} {m : Nat} {v : V} (h : Lot K H m v) (e : Same H H') : Lot K H' m v := h.sameT (Same.toT e)
theorem dps_ints {K : PySem.W.Frag} {H : Hp} : ∀ (ns : List Int), DpAll K H (ns.map V.int) (ns.map PyData.int)
  | [] => .nil
  | n :: r => .cons (.int n) (dps_ints r)
theorem Lot.dp {K : PySem.W.Frag} {H : Hp} {m : Nat} {v : V} (h : Lot K H m v) : Dp K H v (lotD m) := by
  obtain ⟨a, rfl, h⟩ := h
  exact .tup h (dps_ints _)
theorem fit_lot (m : Nat) : Fit 1 (lotD m) := fit_tup fun d hd => by
  obtain ⟨i, _, rfl⟩ := List.mem_map.mp hd
  exact fit_int i
/-- the copy that a value names -/
def idx : V → Nat
  | .int i => i.toNat
  | _ => 0
def copyOk (n : Nat) (x : V) : Bool := good x (some 0) (some ((n : Int) - 1))
theorem copyOk_iff {n : Nat} {x : V} (h : copyOk n x = true) : ∃ c : Nat, x = .int c ∧ c < n := by
  unfold copyOk good at h
  cases x with
  | int i =>
    simp at h
    refine ⟨i.toNat, by congr 1; omega, by omega⟩
  | _ => cases h
theorem copyOk_nat {n c : Nat} (h : c < n) : copyOk n (.int c) = true := by
  unfold copyOk good
  simp
  omega
def maskV (xs : List V) : Nat := xs.foldl (fun m x => m ||| 1 <<< idx x) 0
theorem maskV_snoc (xs : List V) (x : V) : maskV (xs ++ [x]) = maskV xs ||| 1 <<< idx x := by
  unfold maskV
  rw [List.foldl_append] <;> rfl
theorem one_bit (i c : Nat) : (1 <<< i).testBit c = decide (i = c) := by
  rw [Nat.one_shiftLeft, Nat.testBit_two_pow]
theorem maskV_bit (c : Nat) : ∀ (xs : List V) (m : Nat), (xs.foldl (fun m x => m ||| 1 <<< idx x) m).testBit c = (m.testBit c || xs.any fun x => decide (idx x = c))
  | [], m => by simp
  | x :: r, m => by
    rw [List.foldl_cons, maskV_bit c r, Nat.testBit_or, one_bit, List.any_cons, Bool.or_assoc]
theorem mask_bit (c : Nat) (xs : List V) : (maskV xs).testBit c = xs.any fun x => decide (idx x = c) := by
  unfold maskV
  rw [maskV_bit]
  simp
theorem maskV_lt {n : Nat} : ∀ (xs : List V) (m : Nat), m < 2 ^ n → (∀ x ∈ xs, idx x < n) → xs.foldl (fun m x => m ||| 1 <<< idx x) m < 2 ^ n
  | [], m, h, _ => h
  | x :: r, m, h, k => by
    rw [List.foldl_cons]
    refine maskV_lt r _ (Nat.or_lt_two_pow h ?_) fun y hy => k y (List.mem_cons_of_mem _ hy)
    rw [Nat.one_shiftLeft]
    exact Nat.pow_lt_pow_right (by decide) (k x List.mem_cons_self)
theorem mask_lt {n : Nat} {xs : List V} (h : ∀ x ∈ xs, copyOk n x = true) : maskV xs < 2 ^ n := by
  refine maskV_lt xs 0 (Nat.two_pow_pos n) fun x hx => ?_
  obtain ⟨c, rfl, hc⟩ := copyOk_iff (h x hx)
  exact hc
theorem pow_le8 {n : Nat} (h : n ≤ 8) : 2 ^ n ≤ 256 := Nat.pow_le_pow_right (by decide) h
theorem range_cut {n m : Nat} {p : Nat → Bool} (h : n ≤ m) (k : ∀ c, n ≤ c → p c = false) : (List.range m).filter p = (List.range n).filter p := by
  obtain ⟨d, rfl⟩ := Nat.exists_eq_add_of_le h
  rw [List.range_add, List.filter_append]
  have : ((List.range d).map (n + ·)).filter p = [] := by
    rw [List.filter_eq_nil_iff]
    intro c hc
    obtain ⟨e, _, rfl⟩ := List.mem_map.mp hc
    rw [k _ (Nat.le_add_right _ _)]
    simp
  rw [this, List.append_nil]
/-- a lot of n copies, copy by copy -/
theorem oneL_n {n m : Nat} (hn : n ≤ 8) (h : m < 2 ^ n) : oneL m = (List.range n).filter fun c => m.testBit c := by
  refine range_cut hn fun c hc => ?_
  exact Nat.testBit_lt_two_pow (Nat.lt_of_lt_of_le h (Nat.pow_le_pow_right (by decide) hc))
theorem other_bit {n m : Nat} (h : m < 2 ^ n) (c : Nat) : (2 ^ n - 1 - m).testBit c = (decide (c < n) && !m.testBit c) := by
  rw [Nat.sub_sub, Nat.add_comm 1 m]
  exact Nat.testBit_two_pow_sub_succ h c
theorem lotV_at {m i : Nat} {x : V} (h : (lotV m)[i]? = some x) : ∃ c : Nat, x = .int c ∧ c < 8 ∧ m.testBit c = true := by
  have h := List.mem_of_getElem? h
  unfold lotV lotL oneL at h
  rw [List.map_map] at h
  obtain ⟨c, hc, rfl⟩ := List.mem_map.mp h
  obtain ⟨h1, h2⟩ := List.mem_filter.mp hc
  exact ⟨c, rfl, List.mem_range.mp h1, h2⟩
theorem lotV_mem {m : Nat} {x : V} (h : x ∈ lotV m) : ∃ c : Nat, x = .int c ∧ c < 8 ∧ m.testBit c = true := by
  obtain ⟨i, hi, e⟩ := List.mem_iff_getElem.mp h
  exact lotV_at (i := i) (by rw [List.getElem?_eq_getElem hi, e])
theorem lotV_ok {n m : Nat} (h : m < 2 ^ n) {x : V} (hx : x ∈ lotV m) : copyOk n x = true := by
  obtain ⟨c, rfl, _, hb⟩ := lotV_mem hx
  refine copyOk_nat ?_
  rcases Nat.lt_or_ge c n with k | k
  · exact k
  · rw [Nat.testBit_lt_two_pow (Nat.lt_of_lt_of_le h (Nat.pow_le_pow_right (by decide) k))] at hb
    cases hb
theorem mask_lotV {m : Nat} (h : m < 256) : maskV (lotV m) = m := by
  refine Nat.eq_of_testBit_eq fun c => ?_
  rw [mask_bit]
  cases e : m.testBit c with
  | true =>
    rw [List.any_eq_true]
    refine ⟨.int (c : Nat), ?_, by unfold idx; simp⟩
    unfold lotV lotL oneL
    rw [List.map_map]
    refine List.mem_map.mpr ⟨c, List.mem_filter.mpr ⟨List.mem_range.mpr ?_, e⟩, rfl⟩
    rcases Nat.lt_or_ge c 8 with k | k
    · exact k
    · rw [Nat.testBit_lt_two_pow (Nat.lt_of_lt_of_le h (Nat.pow_le_pow_right (by decide) k : 2 ^ 8 ≤ 2 ^ c))] at e
      cases e
  | false =>
    rw [List.any_eq_false]
    intro x hx
    obtain ⟨d, rfl, _, hd⟩ := lotV_mem hx
    unfold idx
    simp
    intro z
    subst z
    rw [hd] at e
    cases e
theorem lotV_filter {n m : Nat} (hn : n ≤ 8) (hm : m < 2 ^ n) : lotV m = (List.range n).filterMap (fun i => if m.testBit i = true then some (V.int i) else none) := by
  unfold lotV lotL
  rw [oneL_n hn hm, List.map_map, ← List.filterMap_eq_map, List.filterMap_filter]
  rfl
theorem fm_congr {α β : Type} {f g : α → Option β} : ∀ {l : List α}, (∀ x ∈ l, f x = g x) → l.filterMap f = l.filterMap g
  | [], _ => rfl
  | a :: r, h => by
    rw [List.filterMap_cons, List.filterMap_cons, h a List.mem_cons_self, fm_congr fun x hx => h x (List.mem_cons_of_mem _ hx)]
theorem lotV_others {n m : Nat} (hn : n ≤ 8) (hm : m < 2 ^ n) : lotV (2 ^ n - 1 - m) = (List.range n).filterMap (fun i => if m.testBit i = true then none else some (V.int i)) := by
  rw [lotV_filter hn (by omega)]
  refine fm_congr fun i hi => ?_
  rw [other_bit hm, decide_eq_true (List.mem_range.mp hi), Bool.true_and]
  cases m.testBit i <;> rfl
theorem inV_mask {cs : List Int} (h : ∀ c ∈ cs, 0 ≤ c) (i : Nat) : inV (.int i) (cs.map V.int) = (maskV (cs.map V.int)).testBit i := by
  rw [mask_bit]
  unfold inV
  rw [List.any_map, List.any_map]
  induction cs with
  | nil => rfl
  | cons c r ih =>
    rw [List.any_cons, List.any_cons, ih fun x hx => h x (List.mem_cons_of_mem _ hx)]
    congr 1
    have := h c List.mem_cons_self
    show (c == (i : Int)) = decide (c.toNat = i)
    by_cases e : c = i
    · subst e
      simp
    · rw [decide_eq_false (by omega)]
      simpa using e
theorem scal_lotV {m : Nat} {x : V} (hx : x ∈ lotV m) : scalV x = true := by
  obtain ⟨c, rfl, _⟩ := lotV_mem hx
  rfl
theorem scal_int {ns : List Int} {x : V} (hx : x ∈ ns.map V.int) : scalV x = true := by
  obtain ⟨i, _, rfl⟩ := List.mem_map.mp hx
  rfl
/-! ### lots: the promises -/
/-- the list or tuple at a -/
def SqA (K : PySem.W.Frag) (H : Hp) (a : Addr) (xs : List V) : Prop := SqL K H a xs ∨ SqT K H a xs
theorem SqA.same {K : PySem.W.Frag} {H H' : Hp} {a : Addr} {xs : List V} (h : SqA K H a xs) (e : Same H H') : SqA K H' a xs := by
  rcases h with h | h
  · exact .inl (e.seq h)
  · exact .inr (Same.seqT e h)
def Err (C : Addr) (H : Hp) (E : XK) (w : Str) (x : V) : Prop := ∀ d H', H d = none → Same H H' → H' d = some (.xd [("value", x), ("what", .str w)]) → E (.ref C) (some d) H'
theorem Err.of {C : Addr} {H H1 : Hp} {E : XK} {w : Str} {x : V} (h : Err C H E w x) (e : Same H H1) : Err C H1 E w x := fun d H' nd sm hx => h d H' (e.free nd) (e.trans sm) hx
def spCopies (K : PySem.W.Frag) (C : Addr) : Sp := fun vs H Q E => ∃ x, vs = [x] ∧ Kn K H x ∧ (good x (some 1) (some 8) = true → Q x H) ∧ (good x (some 1) (some 8) = false → Err C H E "copies" x)
def spCopy (K : PySem.W.Frag) (C : Addr) : Sp := fun vs H Q E => ∃ (n : Nat) (x : V), vs = [.int n, x] ∧ Kn K H x ∧ (copyOk n x = true → Q x H) ∧ (copyOk n x = false → Err C H E "copy" x)
/-- the first value that is no copy -/
def badOf (n : Nat) (xs : List V) : Option V := xs.find? fun x => !copyOk n x
theorem badOf_none {n : Nat} {xs : List V} (h : badOf n xs = none) {x : V} (hx : x ∈ xs) : copyOk n x = true := by
  have := List.find?_eq_none.mp h x hx
  simpa using this
theorem badOf_ok {n : Nat} {xs : List V} (h : ∀ x ∈ xs, copyOk n x = true) : badOf n xs = none := List.find?_eq_none.mpr fun x hx => by rw [h x hx]; simp
theorem badOf_at {n i : Nat} {xs : List V} {x : V} (hx : xs[i]? = some x) (hok : ∀ y ∈ xs.take i, copyOk n y = true) (h : copyOk n x = false) : badOf n xs = some x := by
  have e : badOf n (xs.take i ++ x :: xs.drop (i + 1)) = some x := by
    unfold badOf
    rw [List.find?_append, List.find?_eq_none.mpr (fun y hy => by rw [hok y hy]; simp), Option.none_or, List.find?_cons, h] <;> rfl
  rwa [cut_at hx] at e
def spMaskOf (K : PySem.W.Frag) (C : Addr) : Sp := fun vs H Q E => ∃ (n : Nat) (a : Addr) (xs : List V), vs = [.int n, .ref a] ∧ n ≤ 8 ∧ SqA K H a xs ∧ (∀ x ∈ xs, scalV x = true) ∧
  (badOf n xs = none → Q (.int (maskV xs)) H) ∧ (∀ x, badOf n xs = some x → Err C H E "copy" x)
def spLotAt (K : PySem.W.Frag) : Sp := fun vs H Q _ => ∃ m : Nat, vs = [.int m] ∧ ∀ p H', Same H H' → H p = none → H' p = some (.tup (lotV m)) → Q (.ref p) H'
/-- lot_of, others: f makes a mask of a mask -/
def spLotOf (K : PySem.W.Frag) (C : Addr) (f : Nat → Nat → Nat) : Sp := fun vs H Q E => ∃ (c : V) (a : Addr) (xs : List V), vs = [c, .ref a] ∧ Kn K H c ∧ SqA K H a xs ∧ (∀ x ∈ xs, scalV x = true) ∧
  (good c (some 1) (some 8) = false → Err C H E "copies" c) ∧
  (∀ n : Nat, c = .int n → 1 ≤ n → n ≤ 8 → (badOf n xs = none → ∀ p H', Same H H' → H p = none → H' p = some (.tup (lotV (f n (maskV xs)))) → Q (.ref p) H') ∧ (∀ x, badOf n xs = some x → Err C H E "copy" x))
def spAllLots (K : PySem.W.Frag) (C : Addr) : Sp := fun vs H Q E => ∃ c : V, vs = [c] ∧ Kn K H c ∧ (good c (some 1) (some 8) = false → Err C H E "copies" c) ∧
  (∀ n : Nat, c = .int n → 1 ≤ n → n ≤ 8 → ∀ p ys H', Same H H' → H p = none → H' p = some (.lst ys) → Paired (fun m y => Lot K H' m y) (List.range (2 ^ n)) ys → Q (.ref p) H')
theorem good_copies {c : V} (h : good c (some 1) (some 8) = true) : ∃ n : Nat, c = .int n ∧ 1 ≤ n ∧ n ≤ 8 := by
  unfold good at h
  cases c with
  | int i =>
    simp at h
    exact ⟨i.toNat, by congr 1; omega, by omega, by omega⟩
  | _ => cases h
theorem copies_good {n : Nat} (h1 : 1 ≤ n) (h2 : n ≤ 8) : good (.int n) (some 1) (some 8) = true := by
  unfold good
  simp
  omega
theorem bitAnd_nat (a b : Nat) : Builtin.bitAnd (a : Int) (b : Int) = ((a &&& b : Nat) : Int) := by rw [PyProof.Rows.bitAnd_pp (by omega) (by omega), Int.toNat_natCast, Int.toNat_natCast]
theorem shl_nat (c : Nat) : (1 : Int) * (2 : Int) ^ ((c : Int)).toNat = ((1 <<< c : Nat) : Int) := by
  rw [Int.toNat_natCast, Int.one_mul, Nat.one_shiftLeft, Int.natCast_pow] <;> rfl
theorem and_bit (m c : Nat) : (((m &&& 1 <<< c : Nat) : Int) != 0) = m.testBit c := by
  have h : m &&& 1 <<< c = if m.testBit c then 1 <<< c else 0 := by
    refine Nat.eq_of_testBit_eq fun d => ?_
    rw [Nat.testBit_and, one_bit]
    by_cases e : c = d
    · subst e
      cases h : m.testBit c with
      | true => simp [one_bit]
      | false => simp
    · rw [decide_eq_false e, Bool.and_false]
      split
      · rw [one_bit, decide_eq_false e]
      · simp
  rw [h]
  have : 0 < 1 <<< c := by rw [Nat.one_shiftLeft]; exact Nat.two_pow_pos c
  cases m.testBit c with
  | true =>
    show (((1 <<< c : Nat) : Int) != 0) = true
    rw [bne_iff_ne]
    omega
  | false => rfl
/-- what the top has left -/
structure Ctx (K : PySem.W.Frag) (mg : Str → Option Value) where
  c_VoteError : Addr
  gc_VoteError : mg "VoteError" = some (.ref c_VoteError)
  c_BadNumber : Addr
  gc_BadNumber : mg "BadNumber" = some (.ref c_BadNumber)
  f_BadNumber_init : Addr
  fd_BadNumber_init : FuncData
  F_BadNumber_init : Fun K "__init__" "BadNumber.__init__" s_BadNumber_init f_BadNumber_init fd_BadNumber_init
  b_BadNumber_init : Binds K fd_BadNumber_init ["self", "what", "value"] []
  f_is_integer : Addr
  fd_is_integer : FuncData
  F_is_integer : Fun K "is_integer" "is_integer" s_is_integer f_is_integer fd_is_integer
  b_is_integer : Binds K fd_is_integer ["value"] []
  g_is_integer : mg "is_integer" = some (.ref f_is_integer)
  f_check_number : Addr
  fd_check_number : FuncData
  F_check_number : Fun K "check_number" "check_number" s_check_number f_check_number fd_check_number
  b_check_number : Binds K fd_check_number ["what", "value", "low", "high"] []
  g_check_number : mg "check_number" = some (.ref f_check_number)
  f_check_copies : Addr
  fd_check_copies : FuncData
  F_check_copies : Fun K "check_copies" "check_copies" s_check_copies f_check_copies fd_check_copies
  b_check_copies : Binds K fd_check_copies ["copies"] []
  g_check_copies : mg "check_copies" = some (.ref f_check_copies)
  f_check_copy : Addr
  fd_check_copy : FuncData
  F_check_copy : Fun K "check_copy" "check_copy" s_check_copy f_check_copy fd_check_copy
  b_check_copy : Binds K fd_check_copy ["copies", "copy"] []
  g_check_copy : mg "check_copy" = some (.ref f_check_copy)
  f_mask_of : Addr
  fd_mask_of : FuncData
  F_mask_of : Fun K "mask_of" "mask_of" s_mask_of f_mask_of fd_mask_of
  b_mask_of : Binds K fd_mask_of ["copies", "numbers"] []
  g_mask_of : mg "mask_of" = some (.ref f_mask_of)
  f_lot_at : Addr
  fd_lot_at : FuncData
  F_lot_at : Fun K "lot_at" "lot_at" s_lot_at f_lot_at fd_lot_at
  b_lot_at : Binds K fd_lot_at ["mask"] []
  g_lot_at : mg "lot_at" = some (.ref f_lot_at)
  f_lot_of : Addr
  fd_lot_of : FuncData
  F_lot_of : Fun K "lot_of" "lot_of" s_lot_of f_lot_of fd_lot_of
  b_lot_of : Binds K fd_lot_of ["copies", "numbers"] []
  g_lot_of : mg "lot_of" = some (.ref f_lot_of)
  f_others : Addr
  fd_others : FuncData
  F_others : Fun K "others" "others" s_others f_others fd_others
  b_others : Binds K fd_others ["copies", "lot"] []
  g_others : mg "others" = some (.ref f_others)
  f_all_lots : Addr
  fd_all_lots : FuncData
  F_all_lots : Fun K "all_lots" "all_lots" s_all_lots f_all_lots fd_all_lots
  b_all_lots : Binds K fd_all_lots ["copies"] []
  g_all_lots : mg "all_lots" = some (.ref f_all_lots)
  f_l_start : Addr
  fd_l_start : FuncData
  F_l_start : Fun K "_law_start" "_law_start" s_l_start f_l_start fd_l_start
  b_l_start : Binds K fd_l_start ["_law_script"] []
  g_l_start : mg "_law_start" = some (.ref f_l_start)
  f_l_draw : Addr
  fd_l_draw : FuncData
  F_l_draw : Fun K "_law_draw" "_law_draw" s_l_draw f_l_draw fd_l_draw
  b_l_draw : Binds K fd_l_draw ["_law_script", "_law_state", "_law_limit"] []
  g_l_draw : mg "_law_draw" = some (.ref f_l_draw)
  f_l_code : Addr
  fd_l_code : FuncData
  F_l_code : Fun K "_law_code" "_law_code" s_l_code f_l_code fd_l_code
  b_l_code : Binds K fd_l_code ["_law_lot"] []
  g_l_code : mg "_law_code" = some (.ref f_l_code)
  f_l_lots : Addr
  fd_l_lots : FuncData
  F_l_lots : Fun K "_law_lots" "_law_lots" s_l_lots f_l_lots fd_l_lots
  b_l_lots : Binds K fd_l_lots ["_law_copies"] []
  g_l_lots : mg "_law_lots" = some (.ref f_l_lots)
  f_l_told : Addr
  fd_l_told : FuncData
  F_l_told : Fun K "_law_told" "_law_told" s_l_told f_l_told fd_l_told
  b_l_told : Binds K fd_l_told ["_law_kind", "_law_copies", "_law_numbers"] []
  g_l_told : mg "_law_told" = some (.ref f_l_told)
  f_law : Addr
  fd_law : FuncData
  F_law : Fun K "law" "law" s_law f_law fd_law
  b_law : Binds K fd_law ["_law_script"] []
  g_law : mg "law" = some (.ref f_law)
  ox_BadNumber : OexC K c_BadNumber
  xn_BadNumber : PySem.W.findIn K (.ref c_BadNumber) "__init__" = some (some (.ref f_BadNumber_init))
  xt_BadNumber : PySem.W.typeIn K (.ref f_BadNumber_init) = some (.type "function")
  xf_BadNumber : XfC K c_BadNumber
  xi_BadNumber : XiC K c_BadNumber
  n_BadNumber_what : PySem.W.findIn K (.ref c_BadNumber) "what" = some none
  n_BadNumber_value : PySem.W.findIn K (.ref c_BadNumber) "value" = some none
  ex_BadNumber_BadNumber : PySem.W.exmOne K (.ref c_BadNumber) (.ref c_BadNumber) = some true
  gt_MOST_COPIES : Tok
  gk_MOST_COPIES : mg "MOST_COPIES" = some (.int 8 gt_MOST_COPIES)
  m_abs : mg "abs" = none
  m_bool : mg "bool" = none
  m_int : mg "int" = none
  m_isinstance : mg "isinstance" = none
  m_len : mg "len" = none
  m_list : mg "list" = none
  m_range : mg "range" = none
  m_sum : mg "sum" = none
  m_tuple : mg "tuple" = none

section
variable {P : Program} {w : World} {K : PySem.W.Frag} {mg : Str → Option Value} {base : Heap}
theorem ok_l_start (T : Ctx K mg) : FnOk P w K mg base CX0 1 T.f_l_start T.fd_l_start ["_law_script"] (spStart K) := by
  refine T.F_l_start.ok sc_l_start (fun vs H Q E h => ?_) (fun cdv A outer s H vs Q E hr h => ?_)
  · obtain ⟨l, ns, rfl, _⟩ := h
    rfl
  · obtain ⟨l, ns, rfl, hS, q⟩ := h
    refine ⟨_, (pss_cons (ps_set (i := 1) sc_l_start.nd rfl (Or.inl rfl) pe_int)
      (Evl.pss_cut (ps_if (pt_cmpR op_gt (pe_callB call_len_seq (by rfl) T.m_len (by decide +kernel) (pa_cons (pv 0) pa_nil)) pe_int (nomark _))
        (pss_one (ps_set (i := 1) sc_l_start.nd rfl (Or.inl rfl) (pe_ix ix_list (pv 0) pe_int (fun _ _ => rfl))))
        pss_nil)
      (pss_one (ps_ret (pe_lst (pa_cons (pe_callB call_abs (by rfl) T.m_abs (by decide +kernel) (pa_cons (pe_callTy call_int1 (by rfl) T.m_int (by decide +kernel) (pa_cons (pv 1) pa_nil)) pa_nil)) (pa_cons (pe_callTy call_int1 (by rfl) T.m_int (by decide +kernel) (pa_cons (pe_cmpR op_ge (pe_callB call_abs (by rfl) T.m_abs (by decide +kernel) (pa_cons (pe_callTy call_int1 (by rfl) T.m_int (by decide +kernel) (pa_cons (pv 1) pa_nil)) pa_nil)) (pe_op op_pow pe_int pe_int) (nomark _)) pa_nil)) (pa_cons pe_int (pa_cons pe_int pa_nil))))))))), ?_⟩
    refine ⟨fun σ' H' => H' = H ∧ ∃ z : Int, σ' = [some (.ref l), some (.int z)], ?_, ?_⟩
    · refine ⟨_, rfl, l, _, rfl, .inl hS, _, _, rfl, rfl, _, rfl, ?_⟩
      refine ite2 (fun hc => ?_) fun hc => ⟨rfl, 0, rfl⟩
      have hn : 0 < ns.length := by
        have := of_decide_eq_true hc
        rw [List.length_map] at this
        omega
      refine ⟨_, rfl, l, _, _, .int ns[0], rfl, rfl, hS, at_of (j := 0) rfl (by rw [List.getElem?_map, List.getElem?_eq_getElem hn]; rfl), ?_⟩
      exact ⟨rfl, _, rfl⟩
    · rintro σ' H' ⟨rfl, z, rfl⟩
      refine ⟨_, rfl, .inl ⟨_, rfl, _, rfl, ?_⟩⟩
      refine ⟨_, rfl, .inl ⟨_, rfl, _, rfl, _, _, rfl, rfl, ⟨by decide, by decide, by decide⟩, _, _, rfl, rfl, .inr ⟨_, rfl, ?_⟩⟩⟩
      refine ⟨by show 4 ≤ sizeLine; decide, fun t ht => ?_⟩
      exact q t _ ht ⟨⟨ns, hS⟩, ht, same_upd ht, ⟨_, _, _, _, upd_same⟩⟩ (But.refl.upd)
theorem ok_l_draw (T : Ctx K mg) : FnOk P w K mg base CX0 1 T.f_l_draw T.fd_l_draw ["_law_script", "_law_state", "_law_limit"] (spDraw K) := by
  refine T.F_l_draw.ok sc_l_draw (fun vs H Q E h => ?_) (fun cdv A outer s H vs Q E hr h => ?_)
  · obtain ⟨l, t, m, H0, rfl, _⟩ := h
    rfl
  · obtain ⟨l, t, m, H0, rfl, D, hm, hm2, q⟩ := h
    obtain ⟨a, b, c, d, ht⟩ := D.st
    have fin : ∀ (z : Int) H', But t H H' → Drw K H0 l t H' → Q (.int (z.fmod m)) H' := fun z H' e1 D' =>
      q _ _ (Int.fmod_nonneg_of_pos _ hm) (Int.fmod_lt_of_pos _ hm) e1 D'
    refine ⟨_, (pss_cons (ps_asg (pe_op op_add (pe_ix ix_list (pv 1) pe_int (fun _ _ => rfl)) pe_int) (pg_sub (pv 1) pe_int set_list))
      (Evl.pss_cut (ps_if (PW.pt (pw_and (pt_cmpR op_eq (pe_ix ix_list (pv 1) pe_int (fun _ _ => rfl)) pe_int (nomark _)) (pw_and1 (pt_cmpR op_gt (pe_ix ix_list (pv 1) pe_int (fun _ _ => rfl)) pe_int (nomark _)))))
        (pss_cons (ps_set (i := 3) sc_l_draw.nd rfl (Or.inl rfl) (pe_op op_modN (pe_callTy call_int1 (by rfl) T.m_int (by decide +kernel) (pa_cons (pe_ix ix_list (pv 1) pe_int (fun _ _ => rfl)) pa_nil)) (pv 2)))
        (pss_cons (ps_asg (pe_op op_fdivN (pe_ix ix_list (pv 1) pe_int (fun _ _ => rfl)) (pv 2)) (pg_sub (pv 1) pe_int set_list))
        (pss_one (ps_ret (pv 3)))))
        pss_nil)
      (pss_cons (ps_asg pe_int (pg_sub (pv 1) pe_int set_list))
      (pss_cons (ps_set (i := 4) sc_l_draw.nd rfl (Or.inl rfl) pe_int)
      (Evl.pss_cut (ps_if (pt_cmpR op_gt (pe_callB call_len_seq (by rfl) T.m_len (by decide +kernel) (pa_cons (pv 0) pa_nil)) pe_int (nomark _))
        (pss_one (ps_set (i := 4) sc_l_draw.nd rfl (Or.inl rfl) (pe_ix ix_list (pv 0) (pe_op op_modN (pe_callTy call_int1 (by rfl) T.m_int (by decide +kernel) (pa_cons (pe_ix ix_list (pv 1) pe_int (fun _ _ => rfl)) pa_nil)) (pe_callB call_len_seq (by rfl) T.m_len (by decide +kernel) (pa_cons (pv 0) pa_nil))) (fun _ _ => rfl))))
        pss_nil)
      (pss_cons (ps_asg (pe_op op_add (pe_ix ix_list (pv 1) pe_int (fun _ _ => rfl)) pe_int) (pg_sub (pv 1) pe_int set_list))
      (pss_cons (ps_set (i := 5) sc_l_draw.nd rfl (Or.inl rfl) (pe_op op_mul (pe_op op_mod (pe_callTy call_int1 (by rfl) T.m_int (by decide +kernel) (pa_cons (pe_ix ix_list (pv 1) pe_int (fun _ _ => rfl)) pa_nil)) pe_int) pe_int))
      (pss_cons (ps_set (i := 5) sc_l_draw.nd rfl (Or.inl rfl) (pe_op op_add (pe_op op_add (pe_op op_add (pv 5) (pe_op op_mod (pe_callTy call_int1 (by rfl) T.m_int (by decide +kernel) (pa_cons (pv 4) pa_nil)) pe_int)) (pe_op op_mul pe_int (pe_ix ix_list (pv 1) pe_int (fun _ _ => rfl)))) pe_int))
      (pss_cons (ps_asg (pe_op op_mod (pe_callTy call_int1 (by rfl) T.m_int (by decide +kernel) (pa_cons (pv 5) pa_nil)) pe_int) (pg_sub (pv 1) pe_int set_list))
      (pss_cons (ps_set (i := 5) sc_l_draw.nd rfl (Or.inl rfl) (pe_op op_mod (pe_callTy call_int1 (by rfl) T.m_int (by decide +kernel) (pa_cons (pe_op op_add (pe_op op_mul (pe_ix ix_list (pv 1) pe_int (fun _ _ => rfl)) pe_int) (pe_ix ix_list (pv 1) pe_int (fun _ _ => rfl))) pa_nil)) pe_int))
      (pss_one (ps_ret (pe_op op_modN (pe_callTy call_int1 (by rfl) T.m_int (by decide +kernel) (pa_cons (pe_op op_fdiv (pv 5) pe_int) pa_nil)) (pv 2)))))))))))))), ?_⟩
    -- state[3] = state[3] + 1
    refine ⟨_, rfl, t, _, _, _, rfl, rfl, SqL.of ht, at3, _, _, rfl, rfl, _, rfl, t, _, _, 3, rfl, rfl, ht, rfl, ?_⟩
    -- the first way
    refine ⟨fun σ' H' => σ' = [some (.ref l), some (.ref t), some (.int m), none, none, none] ∧ H' = upd H t (.lst [.int a, .int b, .int c, .int (d + 1)]), ?_, ?_⟩
    · refine ⟨_, rfl, t, _, _, _, rfl, rfl, SqL.of upd_same, at1, rfl, _, rfl, ?_⟩
      refine ite2 (fun hc => ?_) fun hc => iteF ⟨rfl, rfl⟩
      refine ⟨_, rfl, t, _, _, _, rfl, rfl, SqL.of upd_same, at0, _, _, rfl, rfl, _, rfl, ?_⟩
      refine ite2 (fun hc => ?_) fun hc => ⟨rfl, rfl⟩
      refine ⟨_, rfl, t, _, _, _, rfl, rfl, SqL.of upd_same, at0, .inl ⟨_, rfl, _, rfl, _, _, rfl, rfl, by omega, ?_⟩⟩
      refine ⟨_, rfl, t, _, _, _, rfl, rfl, SqL.of upd_same, at0, _, rfl, _, _, rfl, rfl, ⟨by omega, by omega⟩, _, rfl, t, _, _, 0, rfl, rfl, upd_same, rfl, ?_⟩
      exact ⟨_, rfl, fin _ _ (But.refl.upd.upd) (D.upd.upd)⟩
    · rintro σ' H' ⟨rfl, rfl⟩
      -- state[1] = 0; cell = 0
      refine ⟨_, rfl, t, _, _, 1, rfl, rfl, upd_same, rfl, ?_⟩
      have e1 : upd (upd H t (.lst [.int a, .int b, .int c, .int (d + 1)])) t (.lst ([V.int a, .int b, .int c, .int (d + 1)].set 1 (.int 0))) = upd H t (.lst [.int a, .int 0, .int c, .int (d + 1)]) := upd_upd
      rw [e1]
      have D1 : Drw K H0 l t (upd H t (.lst [.int a, .int 0, .int c, .int (d + 1)])) := D.upd
      obtain ⟨ns, hS⟩ := D1.sc
      refine ⟨fun σ' H' => H' = upd H t (.lst [.int a, .int 0, .int c, .int (d + 1)]) ∧ ∃ z : Int, σ' = [some (.ref l), some (.ref t), some (.int m), none, some (.int z), none], ?_, ?_⟩
      · refine ⟨_, rfl, l, _, rfl, .inl hS, _, _, rfl, rfl, _, rfl, ?_⟩
        refine ite2 (fun hc => ?_) fun hc => ⟨rfl, 0, rfl⟩
        have hn : 0 < ns.length := by
          have := of_decide_eq_true hc
          rw [List.length_map] at this
          omega
        have hn' : (0 : Int) < (((ns.map V.int).length : Nat) : Int) := by
          rw [List.length_map]
          omega
        have h0 := Int.fmod_nonneg_of_pos c hn'
        have h1 := Int.fmod_lt_of_pos c hn'
        rw [List.length_map] at h1
        have hj : (c.fmod ((ns.map V.int).length : Nat)).toNat < ns.length := by
          rw [List.length_map] at h0 ⊢
          omega
        refine ⟨_, rfl, _, rfl, t, _, _, _, rfl, rfl, SqL.of upd_same, at2, .inl ⟨_, rfl, _, rfl, l, _, rfl, .inl hS, _, _, rfl, rfl, by omega, ?_⟩⟩
        refine ⟨l, _, _, .int ns[(c.fmod ((ns.map V.int).length : Nat)).toNat], rfl, rfl, hS, at_of (j := (c.fmod ((ns.map V.int).length : Nat)).toNat) (by omega) (by rw [List.getElem?_map, List.getElem?_eq_getElem hj]; rfl), ?_⟩
        exact ⟨rfl, _, rfl⟩
      · rintro σ' H' ⟨rfl, z, rfl⟩
        -- state[2] = state[2] + 1
        refine ⟨_, rfl, t, _, _, _, rfl, rfl, SqL.of upd_same, at2, _, _, rfl, rfl, _, rfl, t, _, _, 2, rfl, rfl, upd_same, rfl, ?_⟩
        have e2 : upd (upd H t (.lst [.int a, .int 0, .int c, .int (d + 1)])) t (.lst ([V.int a, .int 0, .int c, .int (d + 1)].set 2 (.int (c + 1)))) = upd H t (.lst [.int a, .int 0, .int (c + 1), .int (d + 1)]) := upd_upd
        rw [e2]
        have hb := Int.emod_nonneg a (b := 2147483647) (by decide)
        have hb2 := Int.emod_lt_of_pos a (b := 2147483647) (by decide)
        refine ⟨_, rfl, t, _, _, _, rfl, rfl, SqL.of upd_same, at0, .inl ⟨_, rfl, _, _, rfl, rfl, (show (0 : Int) < 2147483647 by decide), _, _, rfl, rfl, .inl ⟨by omega, by omega⟩, ?_⟩⟩
        refine ⟨_, rfl, _, rfl, .inl ⟨_, rfl, _, _, rfl, rfl, (show (0 : Int) < 2147483629 by decide), _, _, rfl, rfl, _, rfl, t, _, _, _, rfl, rfl, SqL.of upd_same, at3, _, _, rfl, rfl, .inl ⟨by decide, by decide⟩, _, _, rfl, rfl, _, _, rfl, rfl, ?_⟩⟩
        refine ⟨_, rfl, .inl ⟨_, rfl, _, _, rfl, rfl, (show (0 : Int) < 2147483647 by decide), _, rfl, t, _, _, 0, rfl, rfl, upd_same, rfl, ?_⟩⟩
        generalize hw : (a % 2147483647 * 48271 + z % 2147483629 + 7 * (d + 1) + 11) = w'
        have e3 : upd (upd H t (.lst [.int a, .int 0, .int (c + 1), .int (d + 1)])) t (.lst ([V.int a, .int 0, .int (c + 1), .int (d + 1)].set 0 (.int (w' % 2147483647)))) = upd H t (.lst [.int (w' % 2147483647), .int 0, .int (c + 1), .int (d + 1)]) := upd_upd
        rw [e3]
        have hc := Int.emod_nonneg w' (b := 2147483647) (by decide)
        have hc2 := Int.emod_lt_of_pos w' (b := 2147483647) (by decide)
        refine ⟨_, rfl, t, _, _, _, rfl, rfl, SqL.of upd_same, at0, _, _, rfl, rfl, .inl ⟨by omega, by omega⟩, _, rfl, t, _, _, _, rfl, rfl, SqL.of upd_same, at3, _, _, rfl, rfl, .inl ⟨_, rfl, _, _, rfl, rfl, (show (0 : Int) < 2147483629 by decide), ?_⟩⟩
        refine ⟨_, rfl, _, _, rfl, rfl, ⟨by decide, by decide⟩, .inl ⟨_, rfl, _, rfl, _, _, rfl, rfl, by omega, ?_⟩⟩
        exact fin _ _ But.refl.upd D.upd
end
section
variable {P : Program} {w : World} {K : PySem.W.Frag} {mg : Str → Option Value} {base : Heap}
theorem ok_BadNumber_init (T : Ctx K mg) : FnOk P w K mg base CX0 1 T.f_BadNumber_init T.fd_BadNumber_init ["self", "what", "value"] (spX2 T.c_BadNumber "what" "value") := by
  refine T.F_BadNumber_init.ok sc_BadNumber_init (fun vs H Q E h => ?_) (fun cdv A outer s H vs Q E hr h => ?_)
  · obtain ⟨a, x, y, rfl, _⟩ := h
    rfl
  · obtain ⟨a, x, y, rfl, ha, q⟩ := h
    refine ⟨_, (pss_cons (ps_ost (pv 0) (pv 1))
      (pss_one (ps_ost (pv 0) (pv 2)))), ?_⟩
    refine ⟨_, rfl, _, rfl, a, T.c_BadNumber, rfl, T.ox_BadNumber, T.n_BadNumber_what, .inl ⟨ha, fun d hd hda => ?_⟩⟩
    refine ⟨_, rfl, _, rfl, a, T.c_BadNumber, rfl, T.ox_BadNumber, T.n_BadNumber_value, .inr ⟨d, [("what", x)], upd_same, ?_, by show 1 ≤ 900; decide, ?_⟩⟩
    · rw [upd_ne hda, upd_same]
    · exact q d hd hda
theorem ok_is_integer (T : Ctx K mg) : FnOk P w K mg base CX0 1 T.f_is_integer T.fd_is_integer ["value"] (spIsInt K) := by
  refine T.F_is_integer.ok sc_is_integer (fun vs H Q E h => ?_) (fun cdv A outer s H vs Q E hr h => ?_)
  · obtain ⟨x, rfl, _⟩ := h
    rfl
  · obtain ⟨x, rfl, ⟨t, b1, b2, ty, k1, k2, e⟩, q⟩ := h
    refine ⟨_, (pss_one (ps_ret (pe_and (pe_callB call_isi (by rfl) T.m_isinstance (by decide +kernel) (pa_cons (pv 0) (pa_cons (pe_bltn (v := .ty "int") (by rfl) T.m_int (by decide +kernel) rfl) pa_nil))) (pe_one (pe_not (pe_callB call_isi (by rfl) T.m_isinstance (by decide +kernel) (pa_cons (pv 0) (pa_cons (pe_bltn (v := .ty "bool") (by rfl) T.m_bool (by decide +kernel) rfl) pa_nil)))))))), ?_⟩
    refine ⟨_, rfl, _, _, _, _, _, rfl, .ty _, ty, k1, b1, rfl, ?_⟩
    rw [← e] at q
    cases b1 with
    | false => exact iteF q
    | true => exact iteT ⟨_, rfl, _, _, _, _, _, rfl, .ty _, ty, k2 rfl, b2, rfl, q⟩
theorem ok_check_number (T : Ctx K mg) : FnOk P w K mg base (L2.CX P w) 3 T.f_check_number T.fd_check_number ["what", "value", "low", "high"] (spCheck K T.c_BadNumber) := by
  refine T.F_check_number.okX sc_check_number (fun vs H Q E h => ?_) (fun cdv A outer s H vs Q E hr h => ?_)
  · obtain ⟨w, x, lo, hi, rfl, _⟩ := h
    rfl
  · obtain ⟨w, x, lo, hi, rfl, kn, q1, q2⟩ := h
    refine ⟨_, (pss_cons (ps_if (pt_not (pt_val (pe_call (ok_is_integer T) (hr.mono (by decide)) (by rfl) T.g_is_integer T.F_is_integer.kp T.b_is_integer .nil pass0 (pa_cons (pv 1) pa_nil))))
        (pss_one (ps_raise rfl (takes_of rfl rfl rfl rfl) (pmk_oex T.ox_BadNumber T.xn_BadNumber T.xt_BadNumber (ok_BadNumber_init T) (hr.mono (by decide)) T.b_BadNumber_init .nil pass0 (by rfl) T.gc_BadNumber (pa_cons (pv 0) (pa_cons (pv 1) pa_nil)))))
        pss_nil)
      (Evl.pss_cut (ps_if (PW.pt (pw_and (pt_cmpR op_notN (pv 2) pe_non (nomark _)) (pw_and1 (pt_cmpR op_lt (pv 1) (pv 2) (nomark _)))))
        (pss_one (ps_raise rfl (takes_of rfl rfl rfl rfl) (pmk_oex T.ox_BadNumber T.xn_BadNumber T.xt_BadNumber (ok_BadNumber_init T) (hr.mono (by decide)) T.b_BadNumber_init .nil pass0 (by rfl) T.gc_BadNumber (pa_cons (pv 0) (pa_cons (pv 1) pa_nil)))))
        pss_nil)
      (Evl.pss_cut (ps_if (PW.pt (pw_and (pt_cmpR op_notN (pv 3) pe_non (nomark _)) (pw_and1 (pt_cmpR op_gt (pv 1) (pv 3) (nomark _)))))
        (pss_one (ps_raise rfl (takes_of rfl rfl rfl rfl) (pmk_oex T.ox_BadNumber T.xn_BadNumber T.xt_BadNumber (ok_BadNumber_init T) (hr.mono (by decide)) T.b_BadNumber_init .nil pass0 (by rfl) T.gc_BadNumber (pa_cons (pv 0) (pa_cons (pv 1) pa_nil)))))
        pss_nil)
      (pss_one (ps_ret (pv 1)))))), ?_⟩
    refine ⟨_, rfl, x, rfl, kn, _, rfl, ?_⟩
    cases x with
    | int i =>
      refine iteF ?_
      refine ⟨fun σ' H' => σ' = [some (.str w), some (.int i), some (oV lo), some (oV hi)] ∧ H' = H ∧ lo.all (fun l => decide (l ≤ i)) = true, ?_, ?_⟩
      · cases lo with
        | none => exact ⟨_, rfl, rfl, _, rfl, iteF ⟨rfl, rfl, rfl⟩⟩
        | some l =>
          refine ⟨_, rfl, rfl, _, rfl, iteT ⟨_, rfl, _, rfl, _, _, rfl, rfl, _, rfl, ?_⟩⟩
          refine ite2 (fun hc => ?_) fun hc => ⟨rfl, rfl, ?_⟩
          · have hlt := of_decide_eq_true hc
            refine ⟨_, rfl, _, rfl, mk2 (q2 ?_)⟩
            have z : decide (l ≤ i) = false := decide_eq_false (by omega)
            simp [good, z]
          · have hlt := of_decide_eq_false (Bool.eq_false_iff.mpr hc)
            exact decide_eq_true (show l ≤ i by omega)
      · rintro σ' H' ⟨rfl, rfl, hlo⟩
        refine ⟨fun σ' H'' => σ' = [some (.str w), some (.int i), some (oV lo), some (oV hi)] ∧ H'' = H' ∧ hi.all (fun h => decide (i ≤ h)) = true, ?_, ?_⟩
        · cases hi with
          | none => exact ⟨_, rfl, rfl, _, rfl, iteF ⟨rfl, rfl, rfl⟩⟩
          | some l =>
            refine ⟨_, rfl, rfl, _, rfl, iteT ⟨_, rfl, _, rfl, _, _, rfl, rfl, _, rfl, ?_⟩⟩
            refine ite2 (fun hc => ?_) fun hc => ⟨rfl, rfl, ?_⟩
            · have hlt := of_decide_eq_true hc
              refine ⟨_, rfl, _, rfl, mk2 (q2 ?_)⟩
              have z : decide (i ≤ l) = false := decide_eq_false (by omega)
              simp [good, z]
            · have hlt := of_decide_eq_false (Bool.eq_false_iff.mpr hc)
              exact decide_eq_true (show i ≤ l by omega)
        · rintro σ' H'' ⟨rfl, rfl, hhi⟩
          refine ⟨_, rfl, q1 ?_⟩
          show (lo.all (fun l => decide (l ≤ i)) && hi.all (fun h => decide (i ≤ h))) = true
          rw [hlo, hhi] <;> rfl
    | _ => exact iteT ⟨_, rfl, _, rfl, mk2 (q2 rfl)⟩
end
section
variable {P : Program} {w : World} {K : PySem.W.Frag} {mg : Str → Option Value} {base : Heap}
theorem ok_check_copies (T : Ctx K mg) : FnOk P w K mg base (L2.CX P w) 4 T.f_check_copies T.fd_check_copies ["copies"] (spCopies K T.c_BadNumber) := by
  refine T.F_check_copies.okX sc_check_copies (fun vs H Q E h => ?_) (fun cdv A outer s H vs Q E hr h => ?_)
  · obtain ⟨x, rfl, _⟩ := h
    rfl
  · obtain ⟨x, rfl, kn, k1, k2⟩ := h
    refine ⟨_, (pss_one (ps_ret (pe_call (ok_check_number T) (hr.mono (by decide)) (by rfl) T.g_check_number T.F_check_number.kp T.b_check_number .nil (passes_call (takes_of rfl rfl rfl rfl) (fun _ _ _ _ h => h)) (pa_cons pe_str (pa_cons (pv 0) (pa_cons pe_int (pa_cons (pe_glob (v := .int 8) (by rfl) T.gk_MOST_COPIES ⟨_, rfl⟩) pa_nil))))))), ?_⟩
    exact ⟨_, rfl, "copies", x, some 1, some 8, rfl, kn, k1, k2⟩
theorem ok_check_copy (T : Ctx K mg) : FnOk P w K mg base (L2.CX P w) 4 T.f_check_copy T.fd_check_copy ["copies", "copy"] (spCopy K T.c_BadNumber) := by
  refine T.F_check_copy.okX sc_check_copy (fun vs H Q E h => ?_) (fun cdv A outer s H vs Q E hr h => ?_)
  · obtain ⟨n, x, rfl, _⟩ := h
    rfl
  · obtain ⟨n, x, rfl, kn, k1, k2⟩ := h
    refine ⟨_, (pss_one (ps_ret (pe_call (ok_check_number T) (hr.mono (by decide)) (by rfl) T.g_check_number T.F_check_number.kp T.b_check_number .nil (passes_call (takes_of rfl rfl rfl rfl) (fun _ _ _ _ h => h)) (pa_cons pe_str (pa_cons (pv 1) (pa_cons pe_int (pa_cons (pe_op op_sub (pv 0) pe_int) pa_nil))))))), ?_⟩
    exact ⟨_, rfl, _, rfl, _, _, rfl, rfl, "copy", x, some 0, some ((n : Int) - 1), rfl, kn, k1, k2⟩
theorem ok_mask_of (T : Ctx K mg) : FnOk P w K mg base (L2.CX P w) 5 T.f_mask_of T.fd_mask_of ["copies", "numbers"] (spMaskOf K T.c_BadNumber) := by
  refine T.F_mask_of.okX sc_mask_of (fun vs H Q E h => ?_) (fun cdv A outer s H vs Q E hr h => ?_)
  · obtain ⟨n, a, xs, rfl, _⟩ := h
    rfl
  · obtain ⟨n, a, xs, rfl, hn, hS, sc, k1, k2⟩ := h
    refine ⟨_, (pss_cons (ps_set (i := 2) sc_mask_of.nd rfl (Or.inl rfl) pe_int)
      (pss_cons (ps_for (passes_of rfl) rfl (pi_seq (pv 1)) (pg_name (i := 3) sc_mask_of.nd rfl (Or.inl rfl))
        (pss_one (ps_set (i := 2) sc_mask_of.nd rfl (Or.inl rfl) (pe_op op_or (pv 2) (pe_op op_shl pe_int (pe_call (ok_check_copy T) (hr.mono (by decide)) (by rfl) T.g_check_copy T.F_check_copy.kp T.b_check_copy .nil (passes_call (takes_of rfl rfl rfl rfl) (fun _ _ _ _ h => h)) (pa_cons (pv 0) (pa_cons (pv 3) pa_nil))))))))
      (pss_one (ps_ret (pv 2))))), ?_⟩
    let Pv : Nat → L2.St → Hp → Prop := fun i σ H' => H' = H ∧ (∀ x ∈ xs.take i, copyOk n x = true) ∧ ∃ v, σ = [some (.int n), some (.ref a), some (.int (maskV (xs.take i))), v]
    have start : Pv 0 [some (.int n), some (.ref a), some (.int 0), none] H := ⟨rfl, fun x hx => by simp at hx, _, rfl⟩
    have fin : ∀ σ H', Pv xs.length σ H' → ∃ v, σ[2]? = some (some v) ∧ Q v H' := by
      rintro σ H' ⟨rfl, hok, v, rfl⟩
      rw [List.take_length] at hok ⊢
      exact ⟨_, rfl, k1 (badOf_ok hok)⟩
    have turn : ∀ i x σ H', xs[i]? = some x → Pv i σ H' → ∃ v, σ = [some (.int n), some (.ref a), some (.int (maskV (xs.take i))), v] ∧ H' = H ∧ Kn K H x ∧
        (copyOk n x = true → ∃ c : Nat, x = .int c ∧ Builtin.bitOr (maskV (xs.take i)) ((1 : Int) * (2 : Int) ^ ((c : Int)).toNat) = (maskV (xs.take (i + 1)) : Nat) ∧ c < n ∧ ∀ x ∈ xs.take (i + 1), copyOk n x = true) ∧ (copyOk n x = false → Err T.c_BadNumber H E "copy" x) := by
      rintro i x σ H' hx ⟨rfl, hok, v, rfl⟩
      refine ⟨v, rfl, rfl, kn_scal (sc x (List.mem_of_getElem? hx)), fun h => ?_, fun h => k2 x ?_⟩
      · obtain ⟨c, rfl, hc⟩ := copyOk_iff h
        refine ⟨c, rfl, ?_, hc, fun y hy => ?_⟩
        · rw [List.take_add_one, hx, shl_nat c, bitOr_nn (Int.natCast_nonneg _) (Int.natCast_nonneg _), Int.toNat_natCast, Int.toNat_natCast]
          show _ = ((maskV (xs.take i ++ [.int (c : Nat)]) : Nat) : Int)
          rw [maskV_snoc] <;> rfl
        · rw [List.take_add_one, hx] at hy
          rcases List.mem_append.mp hy with k | k
          · exact hok y k
          · have k : y ∈ [V.int (c : Nat)] := k
            rw [List.mem_singleton.mp k]
            exact h
      · exact badOf_at hx hok h
    refine ⟨_, rfl, a, rfl, ?_⟩
    rcases hS with hS | hS
    · refine .inl ⟨⟨xs, hS⟩, for_list (K := K) (a := a) (xs := xs) Pv start (fun i σ H' _ h => by rw [h.1]; exact hS) (fun i x σ H' hx hp => ?_) fun σ H' hp => fin σ H' hp⟩
      obtain ⟨v, rfl, rfl, kn, t1, t2⟩ := turn i x σ H' hx hp
      refine ⟨_, rfl, _, rfl, _, rfl, n, x, rfl, kn, fun h => ?_, t2⟩
      obtain ⟨c, rfl, e, hc, ho⟩ := t1 h
      refine ⟨_, _, rfl, rfl, ⟨by omega, by omega, by decide⟩, _, _, rfl, rfl, ?_⟩
      refine ⟨rfl, ho, some (.int c), ?_⟩
      show [some (V.int n), some (.ref a), some (V.int (Builtin.bitOr (maskV (xs.take i)) ((1 : Int) * (2 : Int) ^ ((c : Int)).toNat))), some (.int c)] = _
      rw [e]
    · refine .inr ⟨⟨xs, hS⟩, for_tup (K := K) (a := a) (xs := xs) Pv start (fun i σ H' _ h => by rw [h.1]; exact hS) (fun i x σ H' hx hp => ?_) fun σ H' hp => fin σ H' hp⟩
      obtain ⟨v, rfl, rfl, kn, t1, t2⟩ := turn i x σ H' hx hp
      refine ⟨_, rfl, _, rfl, _, rfl, n, x, rfl, kn, fun h => ?_, t2⟩
      obtain ⟨c, rfl, e, hc, ho⟩ := t1 h
      refine ⟨_, _, rfl, rfl, ⟨by omega, by omega, by decide⟩, _, _, rfl, rfl, ?_⟩
      refine ⟨rfl, ho, some (.int c), ?_⟩
      show [some (V.int n), some (.ref a), some (V.int (Builtin.bitOr (maskV (xs.take i)) ((1 : Int) * (2 : Int) ^ ((c : Int)).toNat))), some (.int c)] = _
      rw [e]
theorem ok_lot_at (T : Ctx K mg) : FnOk P w K mg base CX0 1 T.f_lot_at T.fd_lot_at ["mask"] (spLotAt K) := by
  refine T.F_lot_at.ok sc_lot_at (fun vs H Q E h => ?_) (fun cdv A outer s H vs Q E hr h => ?_)
  · obtain ⟨m, rfl, _⟩ := h
    rfl
  · obtain ⟨m, rfl, q⟩ := h
    refine ⟨_, (pss_one (ps_ret (pe_callTy call_tuple_of (by rfl) T.m_tuple (by decide +kernel) (pa_cons (pe_lc (own := [("copy", 1)]) (g := gName 1) (tt := _) rfl sc_lot_at.nd (pi_range1 (by rfl) T.m_range (pa_cons (pe_glob (v := .int 8) (by rfl) T.gk_MOST_COPIES ⟨_, rfl⟩) pa_nil)) (blkOk_by (own := [("copy", 1)]) (N := ["mask", "copy"]) (sc := defScope s_lot_at) (by decide +kernel)) (fun _ _ _ _ _ => (pg_name (i := 1) sc_lot_at.nd rfl (Or.inl rfl))) (fun _ _ _ _ _ => (pts_one (pt_int (pe_op op_and (pv 0) (pe_op op_shl pe_int (pv 1)))))) (fun _ _ _ _ _ => (pv 1))) pa_nil)))), ?_⟩
    refine ⟨_, rfl, by decide, by decide, fun D nD => lc_itM (walk_range (lo := 0) (n := 8)) (fun i => if m.testBit i then some (V.int i) else none) (fun a y _ => y = a) (fun _ _ _ _ _ h => h) nD (fun _ _ => trivial) (by decide) ?_ ?_⟩
    · rintro i x H1 H' k N hi sm ⟨rfl, rfl⟩ h1 h2
      refine ⟨rfl, _, rfl, _, rfl, _, _, rfl, rfl, ⟨by omega, by omega, by decide⟩, _, _, rfl, rfl, _, rfl, ?_⟩
      have e0 : (Builtin.bitAnd (m : Int) ((1 : Int) * (2 : Int) ^ (0 + (i : Int)).toNat) != 0) = m.testBit i := by rw [Int.zero_add, shl_nat, bitAnd_nat, and_bit]
      rw [e0]
      cases e : m.testBit i with
      | true => exact iteT ⟨_, rfl, h1 _ _ _ (Same.refl _) (by rw [e] <;> rfl) (by show V.int (0 + (i : Int)) = V.int i; rw [Int.zero_add])⟩
      | false => exact iteF (h2 _ (Same.refl _) (by rw [e] <;> rfl))
    · intro H' ys sm hD p
      have e := paired_eq p
      have e2 : ys = lotV m := by
        rw [e]
        unfold lotV lotL oneL
        rw [List.map_map, ← List.filterMap_eq_map, List.filterMap_filter]
        rfl
      subst e2
      exact ⟨D, _, rfl, .inl ⟨SqL.of hD, fun l nl => q l _ (same_upd2 sm (sm.free nl)) (sm.free nl) upd_same⟩⟩
end
section
variable {P : Program} {w : World} {K : PySem.W.Frag} {mg : Str → Option Value} {base : Heap}
theorem ok_lot_of (T : Ctx K mg) : FnOk P w K mg base (L2.CX P w) 6 T.f_lot_of T.fd_lot_of ["copies", "numbers"] (spLotOf K T.c_BadNumber fun _ m => m) := by
  refine T.F_lot_of.okX sc_lot_of (fun vs H Q E h => ?_) (fun cdv A outer s H vs Q E hr h => ?_)
  · obtain ⟨n, a, xs, rfl, _⟩ := h
    rfl
  · obtain ⟨c, a, xs, rfl, kn, hS, sc, k1, k2⟩ := h
    refine ⟨_, (pss_cons (ps_expr (pe_call (ok_check_copies T) (hr.mono (by decide)) (by rfl) T.g_check_copies T.F_check_copies.kp T.b_check_copies .nil (passes_call (takes_of rfl rfl rfl rfl) (fun _ _ _ _ h => h)) (pa_cons (pv 0) pa_nil)))
      (pss_one (ps_ret (pe_call (ok_lot_at T) (hr.mono (by decide)) (by rfl) T.g_lot_at T.F_lot_at.kp T.b_lot_at .nil pass0 (pa_cons (pe_call (ok_mask_of T) (hr.mono (by decide)) (by rfl) T.g_mask_of T.F_mask_of.kp T.b_mask_of .nil (passes_call (takes_of rfl rfl rfl rfl) (fun _ _ _ _ h => h)) (pa_cons (pv 0) (pa_cons (pv 1) pa_nil))) pa_nil))))), ?_⟩
    refine ⟨_, rfl, c, rfl, kn, fun h => ?_, k1⟩
    obtain ⟨n, rfl, h1, h2⟩ := good_copies h
    obtain ⟨q1, q2⟩ := k2 n rfl h1 h2
    refine ⟨_, rfl, _, rfl, n, a, xs, rfl, h2, hS, sc, fun hb => ?_, q2⟩
    exact ⟨_, rfl, q1 hb⟩
theorem ok_others (T : Ctx K mg) : FnOk P w K mg base (L2.CX P w) 6 T.f_others T.fd_others ["copies", "lot"] (spLotOf K T.c_BadNumber fun n m => 2 ^ n - 1 - m) := by
  refine T.F_others.okX sc_others (fun vs H Q E h => ?_) (fun cdv A outer s H vs Q E hr h => ?_)
  · obtain ⟨n, a, xs, rfl, _⟩ := h
    rfl
  · obtain ⟨c, a, xs, rfl, kn, hS, sc, k1, k2⟩ := h
    refine ⟨_, (pss_cons (ps_expr (pe_call (ok_check_copies T) (hr.mono (by decide)) (by rfl) T.g_check_copies T.F_check_copies.kp T.b_check_copies .nil (passes_call (takes_of rfl rfl rfl rfl) (fun _ _ _ _ h => h)) (pa_cons (pv 0) pa_nil)))
      (pss_cons (ps_set (i := 2) sc_others.nd rfl (Or.inl rfl) (pe_op op_sub (pe_op op_shl pe_int (pv 0)) pe_int))
      (pss_one (ps_ret (pe_call (ok_lot_at T) (hr.mono (by decide)) (by rfl) T.g_lot_at T.F_lot_at.kp T.b_lot_at .nil pass0 (pa_cons (pe_op op_sub (pv 2) (pe_call (ok_mask_of T) (hr.mono (by decide)) (by rfl) T.g_mask_of T.F_mask_of.kp T.b_mask_of .nil (passes_call (takes_of rfl rfl rfl rfl) (fun _ _ _ _ h => h)) (pa_cons (pv 0) (pa_cons (pv 1) pa_nil)))) pa_nil)))))), ?_⟩
    refine ⟨_, rfl, c, rfl, kn, fun h => ?_, k1⟩
    obtain ⟨n, rfl, h1, h2⟩ := good_copies h
    obtain ⟨q1, q2⟩ := k2 n rfl h1 h2
    refine ⟨_, rfl, _, _, rfl, rfl, ⟨by omega, by omega, by decide⟩, _, _, rfl, rfl, ?_⟩
    refine ⟨_, rfl, _, rfl, _, rfl, n, a, xs, rfl, h2, hS, sc, fun hb => ?_, q2⟩
    have hlt : maskV xs < 2 ^ n := mask_lt fun x hx => badOf_none hb hx
    refine ⟨_, _, rfl, rfl, 2 ^ n - 1 - maskV xs, ?_, q1 hb⟩
    rw [shl_nat, Nat.one_shiftLeft]
    generalize 2 ^ n = N at hlt
    exact congrArg (fun z => [V.int z]) (by omega)
theorem ok_all_lots (T : Ctx K mg) : FnOk P w K mg base (L2.CX P w) 6 T.f_all_lots T.fd_all_lots ["copies"] (spAllLots K T.c_BadNumber) := by
  refine T.F_all_lots.okX sc_all_lots (fun vs H Q E h => ?_) (fun cdv A outer s H vs Q E hr h => ?_)
  · obtain ⟨c, rfl, _⟩ := h
    rfl
  · obtain ⟨c, rfl, kn, k1, k2⟩ := h
    refine ⟨_, (pss_cons (ps_expr (pe_call (ok_check_copies T) (hr.mono (by decide)) (by rfl) T.g_check_copies T.F_check_copies.kp T.b_check_copies .nil (passes_call (takes_of rfl rfl rfl rfl) (fun _ _ _ _ h => h)) (pa_cons (pv 0) pa_nil)))
      (pss_one (ps_ret (pe_lc (own := [("mask", 1)]) (g := gName 1) (tt := tYes) rfl sc_all_lots.nd (pi_range1 (by rfl) T.m_range (pa_cons (pe_op op_shl pe_int (pv 0)) pa_nil)) (blkOk_by (own := [("mask", 1)]) (N := ["copies", "mask"]) (sc := defScope s_all_lots) (by decide +kernel)) (fun _ _ _ _ _ => (pg_name (i := 1) sc_all_lots.nd rfl (Or.inl rfl))) (fun _ _ _ _ _ => pts_nil) (fun _ _ _ _ _ => (pe_call (ok_lot_at T) (hr.mono (by decide)) (by rfl) T.g_lot_at T.F_lot_at.kp T.b_lot_at .nil pass0 (pa_cons (pv 1) pa_nil))))))), ?_⟩
    refine ⟨_, rfl, c, rfl, kn, fun h => ?_, k1⟩
    obtain ⟨n, rfl, h1, h2⟩ := good_copies h
    have q := k2 n rfl h1 h2
    have h256 := pow_le8 h2
    refine ⟨_, rfl, _, _, rfl, rfl, ⟨by omega, by omega, by decide⟩, ?_⟩
    have e : (1 : Int) * (2 : Int) ^ ((n : Int)).toNat = ((2 ^ n : Nat) : Int) := by rw [shl_nat, Nat.one_shiftLeft]
    generalize 2 ^ n = N at h256 q e
    refine ⟨(N : Int), congrArg (fun z => [V.int z]) e, by omega, by omega, fun D nD => ?_⟩
    rw [Int.toNat_natCast]
    refine lc_itA (walk_range (lo := 0) (n := N)) (fun i => i) (fun m y H' => Lot K H' m y) (fun _ _ _ _ e h => h.sameT e) nD (fun _ _ => trivial) (by omega) ?_ ?_
    · rintro i x H1 H' k hi sm ⟨rfl, rfl⟩ h1
      refine ⟨rfl, _, rfl, i, congrArg (fun z => [V.int z]) (Int.zero_add _), fun p H2 s2 np hp => h1 _ _ s2 ⟨p, rfl, .inl (.inl hp)⟩⟩
    · intro H' ys sm hD p
      rw [List.map_id'] at p
      exact q D ys H' sm nD hD p
end

def spLaw (K : PySem.W.Frag) : Sp := fun vs H Q _ => ∃ (a : Addr) (ns : List Int), vs = [.ref a] ∧ SqL K H a (ns.map V.int) ∧ ns.length ≤ 63 ∧ ∀ H', Q (.bl true) H'
def spCode (K : PySem.W.Frag) : Sp := fun vs H Q _ => ∃ (m : Nat) (v : V), vs = [v] ∧ m < 256 ∧ Lot K H m v ∧ ∀ H', Same H H' → Q (.int m) H'
theorem code_sum : ∀ m : Nat, m < 256 → ((lotL m).map fun c => (2 : Int) ^ c.toNat).sum = m := by decide +kernel
theorem code_at : ∀ c : Nat, c < 8 → atI [V.int 1, .int 2, .int 4, .int 8, .int 16, .int 32, .int 64, .int 128] (c : Int) = some (.int ((2 : Int) ^ c)) := by decide +kernel
def spLots (K : PySem.W.Frag) : Sp := fun vs H Q _ => ∃ n : Nat, vs = [.int n] ∧ n ≤ 8 ∧ ∀ p ys H', Same H H' → H p = none → H' p = some (.lst ys) → Paired (fun m y => Lot K H' m y) (List.range (2 ^ n)) ys → Q (.ref p) H'
theorem lot_more : ∀ i : Nat, i < 8 → ∀ m : Nat, m < 2 ^ i → lotV (2 ^ i + m) = lotV m ++ [V.int i] := by decide +kernel
theorem lot_zero : lotV 0 = [] := by decide +kernel
theorem lot_len : ∀ m : Nat, (lotV m).length ≤ 8 := fun m => by
  unfold lotV lotL oneL
  rw [List.length_map, List.length_map]
  exact Nat.le_trans (List.length_filter_le _ _) (by simp)
theorem cut_last (xs : List V) (v : V) : cutV (xs ++ [v]) none (some (-1)) = xs := by
  unfold cutV HT.sIx
  simp
  have : ((-1 : Int) + ((xs.length : Int) + 1)).toNat = xs.length := by omega
  rw [this, List.take_left']
  rfl
/-- what _law_told tells -/
def copiesOf : V → Option Nat
  | .int i => if 1 ≤ i ∧ i ≤ 8 then some i.toNat else none
  | _ => none
theorem copiesOf_some {c : V} (h : good c (some 1) (some 8) = true) : ∃ n : Nat, c = .int n ∧ 1 ≤ n ∧ n ≤ 8 ∧ copiesOf c = some n := by
  obtain ⟨n, rfl, h1, h2⟩ := good_copies h
  refine ⟨n, rfl, h1, h2, ?_⟩
  show (if 1 ≤ (n : Int) ∧ (n : Int) ≤ 8 then some (n : Int).toNat else none) = some n
  rw [if_pos (by omega), Int.toNat_natCast]
theorem copiesOf_none {c : V} (h : good c (some 1) (some 8) = false) : copiesOf c = none := by
  unfold good at h
  unfold copiesOf
  cases c with
  | int i =>
    simp at h
    exact if_neg fun z => by omega
  | _ => rfl
def badD (w : Str) (x : V) : PyData := .tuple [.str "bad", .str w, datV x]
def toldD (kind : Int) (c : V) (xs : List V) : PyData := match copiesOf c with
  | none => badD "copies" c
  | some n => if kind = 2 then .list ((List.range (2 ^ n)).map lotD) else match badOf n xs with
    | some x => badD "copy" x
    | none => lotD (if kind = 0 then maskV xs else 2 ^ n - 1 - maskV xs)
def spTold (K : PySem.W.Frag) : Sp := fun vs H Q _ => ∃ (kind : Int) (c : V) (a : Addr) (xs : List V), vs = [.int kind, c, .ref a] ∧ (kind = 0 ∨ kind = 1 ∨ kind = 2) ∧ scalV c = true ∧ SqA K H a xs ∧ (∀ x ∈ xs, scalV x = true) ∧
  ∀ r H', Same H H' → Dp K H' r (toldD kind c xs) → Q r H'
theorem fit_bad {w : Str} {x : V} (hw : PyData.strOk w = true) (h : scalV x = true) : Fit 2 (badD w x) := fit_tup fun d hd => by
  simp at hd
  rcases hd with rfl | rfl | rfl
  · exact fit_str (by decide +kernel)
  · exact fit_str hw
  · exact fit_scal h
theorem fit_lots (l : List Nat) : Fit 2 (.list (l.map lotD)) := fit_lst fun d hd => by
  obtain ⟨m, _, rfl⟩ := List.mem_map.mp hd
  exact fit_lot m
theorem fit_told {kind : Int} {c : V} {xs : List V} (hc : scalV c = true) (hx : ∀ x ∈ xs, scalV x = true) : Fit 2 (toldD kind c xs) := by
  unfold toldD
  split
  · exact fit_bad (by decide +kernel) hc
  · split
    · exact fit_lots _
    · split
      · rename_i h
        exact fit_bad (by decide +kernel) (hx _ (List.mem_of_find?_eq_some h))
      · exact (fit_lot _).mono (by decide)
theorem lots_dp {K : PySem.W.Frag} {H : Hp} {p : Addr} {ms : List Nat} {ys : List V} (h : H p = some (.lst ys)) (k : Paired (fun m y => Lot K H m y) ms ys) : Dp K H (.ref p) (.list (ms.map lotD)) :=
  .lst (SqL.of h) (paired_dp (prImp (fun _ _ z => z.dp) k))
section
variable {P : Program} {w : World} {K : PySem.W.Frag} {mg : Str → Option Value} {base : Heap}
theorem ok_l_code (T : Ctx K mg) : FnOk P w K mg base CX0 1 T.f_l_code T.fd_l_code ["_law_lot"] (spCode K) := by
  refine T.F_l_code.ok sc_l_code (fun vs H Q E h => ?_) (fun cdv A outer s H vs Q E hr h => ?_)
  · obtain ⟨m, v, rfl, _⟩ := h
    rfl
  · obtain ⟨m, v, rfl, hm, ⟨a, rfl, hL⟩, q⟩ := h
    refine ⟨_, (pss_one (ps_ret (pe_callB (cr_sum rfl) (by rfl) T.m_sum (by decide +kernel) (pa_cons (pe_lc (own := [("_law_copy", 1)]) (g := gName 1) (tt := tYes) rfl sc_l_code.nd (pi_tup (pv 0)) (blkOk_by (own := [("_law_copy", 1)]) (N := ["_law_lot", "_law_copy"]) (sc := defScope s_l_code) (by decide +kernel)) (fun _ _ _ _ _ => (pg_name (i := 1) sc_l_code.nd rfl (Or.inl rfl))) (fun _ _ _ _ _ => pts_nil) (fun _ _ _ _ _ => (pe_ix (ixK_list (K := K) rfl) (pe_lst (pa_cons pe_int (pa_cons pe_int (pa_cons pe_int (pa_cons pe_int (pa_cons pe_int (pa_cons pe_int (pa_cons pe_int (pa_cons pe_int pa_nil))))))))) (pv 1) (fun _ _ => rfl)))) pa_nil)))), ?_⟩
    refine ⟨_, rfl, a, rfl, ⟨_, hL⟩, fun D nD => lc_xsA (walk_tup (K := K) (a := a) (xs := lotV m)) (fun x => V.int ((2 : Int) ^ (idx x))) (fun x y _ => y = x) (fun _ _ _ _ _ h => h) nD (fun H' e => Same.seqT e hL) (Nat.le_trans (lot_len m) (by decide)) ?_ ?_⟩
    · rintro i x H1 k hx sm h1
      obtain ⟨c, rfl, hc, _⟩ := lotV_at hx
      refine ⟨rfl, (by show 8 ≤ sizeLine; decide), fun p np => ⟨_, rfl, p, _, _, _, rfl, rfl, SqL.of upd_same, code_at c hc, h1 _ _ (same_upd np) ?_⟩⟩
      show V.int ((2 : Int) ^ c) = V.int ((2 : Int) ^ ((c : Int)).toNat)
      rw [Int.toNat_natCast]
    · intro H' ys sm hD p
      have e := paired_eq p
      have e2 : ys = ((lotL m).map fun c => (2 : Int) ^ c.toNat).map V.int := by
        rw [e]
        unfold lotV
        rw [List.map_map, List.map_map]
        rfl
      rw [e2] at hD
      refine ⟨D, _, rfl, SqL.of hD, ?_⟩
      rw [code_sum m hm]
      exact q H' sm
theorem ok_l_lots (T : Ctx K mg) : FnOk P w K mg base CX0 1 T.f_l_lots T.fd_l_lots ["_law_copies"] (spLots K) := by
  refine T.F_l_lots.ok sc_l_lots (fun vs H Q E h => ?_) (fun cdv A outer s H vs Q E hr h => ?_)
  · obtain ⟨n, rfl, _⟩ := h
    rfl
  · obtain ⟨n, rfl, hn, q⟩ := h
    refine ⟨_, (pss_cons (ps_set (i := 1) sc_l_lots.nd rfl (Or.inl rfl) (pe_lst (pa_cons (pe_tup pa_nil) pa_nil)))
      (pss_cons (ps_for PassesOwn.never rfl (pi_range1 (by rfl) T.m_range (pa_cons (pv 0) pa_nil)) (pg_name (i := 2) sc_l_lots.nd rfl (Or.inr rfl))
        (pss_one (ps_set (i := 1) sc_l_lots.nd rfl (Or.inl rfl) (pe_op op_cat (pv 1) (pe_lc (own := [("_law_lot", 3)]) (g := gName 3) (tt := tYes) rfl sc_l_lots.nd (pi_list (pv 1)) (blkOk_by (own := [("_law_lot", 3)]) (N := ["_law_copies", "_law_lots_here", "_law_copy", "_law_lot"]) (sc := defScope s_l_lots) (by decide +kernel)) (fun _ _ _ _ _ => (pg_name (i := 3) sc_l_lots.nd rfl (Or.inl rfl))) (fun _ _ _ _ _ => pts_nil) (fun _ _ _ _ _ => (pe_op (opK (K := K) rfl rCatA op_catA) (pv 3) (pe_tup (pa_cons (pv 2) pa_nil)))))))))
      (pss_one (ps_ret (pv 1))))), ?_⟩
    refine ⟨(by show 0 ≤ sizeLine; decide), fun e ne => ⟨(by show 1 ≤ sizeLine; decide), fun p np => ?_⟩⟩
    refine ⟨_, rfl, n, rfl, by omega, by omega, ?_⟩
    rw [Int.toNat_natCast]
    have h0 : SqT K (upd (upd H e (.tup [])) p (.lst [.ref e])) e [] := .inl (.inl (by rw [upd_ne (ne_of_none upd_same np), upd_same]))
    refine for_range (n := n) (fun i σ H' => i ≤ n ∧ Same H H' ∧ ∃ p ys v3 v4, σ = [some (.int n), some (.ref p), v3, v4] ∧ H p = none ∧ H' p = some (.lst ys) ∧ Paired (fun m y => Lot K H' m y) (List.range (2 ^ i)) ys)
      ⟨Nat.zero_le _, (same_upd ne).trans (same_upd np), p, [.ref e], _, _, rfl, (same_upd ne).free np, upd_same, .cons ⟨e, rfl, by rw [lot_zero]; exact h0⟩ .nil⟩ ?_ ?_
    · rintro i σ H1 hi ⟨_, sm, p1, ys, v3, v4, rfl, np1, hp1, pr⟩
      have hi8 : i < 8 := by omega
      have h2i : 2 ^ i ≤ 256 := pow_le8 (by omega)
      have hys := prLen pr
      rw [List.length_range] at hys
      refine ⟨_, rfl, _, rfl, p1, rfl, ⟨_, SqL.of hp1⟩, fun D nD => ?_⟩
      refine lc_itA (walk_list (K := K) (a := p1) (xs := ys)) (fun j => 2 ^ i + j) (fun m y H' => Lot K H' m y) (fun _ _ _ _ e h => h.sameT e) nD (fun H' e => e.seq (SqL.of hp1)) (by omega) ?_ ?_
      · rintro j x H2 H2' k hj s2 ⟨rfl, hx⟩ h1
        obtain ⟨m, hm, hL⟩ := prAt pr hx
        have hjr : m = j := by
          rw [List.getElem?_range (by omega)] at hm
          exact (Option.some.inj hm).symm
        subst hjr
        obtain ⟨a, rfl, hL2⟩ := hL.same s2
        have el := lot_more i hi8 m (by omega)
        refine ⟨rfl, _, rfl, _, rfl, (by show 1 ≤ sizeLine; decide), fun t nt => ?_⟩
        have ht : SqT K (upd H2' t (.tup [V.int (0 + (i : Int))])) t [V.int i] := .inl (.inl (by rw [upd_same, Int.zero_add]))
        have e8 : (9 : Nat) ≤ sizeLine := by decide
        refine ⟨a, t, _, _, rfl, rfl, Same.seqT (same_upd nt) hL2, ht, Nat.le_trans (Nat.add_le_add_right (lot_len m) 1) e8, fun hz => ?_, fun _ hz => absurd hz (by simp), fun _ _ u nu => ?_⟩
        · refine h1 _ _ (same_upd nt) ⟨t, rfl, ?_⟩
          rw [el, hz]
          exact ht
        · refine h1 _ _ ((same_upd nt).trans (same_upd nu)) ⟨u, rfl, .inl (.inl ?_)⟩
          rw [el, upd_same]
      · intro H' zs s2 hD pz
        have hp1' := s2 _ _ hp1
        have hzs := prLen pz
        rw [List.length_map, List.length_range] at hzs
        have e512 : (512 : Nat) ≤ sizeLine := by decide
        refine ⟨p1, D, ys, zs, rfl, rfl, hp1', hD, by omega, fun u nu => ?_⟩
        have s3 := same_upd (o := .lst (ys ++ zs)) nu
        refine ⟨hi, sm.trans (s2.trans s3), u, ys ++ zs, _, _, rfl, (sm.trans s2).free nu, upd_same, ?_⟩
        rw [Nat.pow_succ, Nat.mul_two, List.range_add]
        rw [hys] at pz
        exact prApp (prImp (fun m y h => h.same (s2.trans s3)) pr) (prImp (fun m y h => h.same s3) pz)
    · rintro σ H1 ⟨_, sm, p1, ys, v3, v4, rfl, np1, hp1, pr⟩
      exact ⟨_, rfl, q p1 ys H1 sm np1 hp1 pr⟩
theorem ok_l_told (T : Ctx K mg) : FnOk P w K mg base CX0 7 T.f_l_told T.fd_l_told ["_law_kind", "_law_copies", "_law_numbers"] (spTold K) := by
  refine T.F_l_told.ok sc_l_told (fun vs H Q E h => ?_) (fun cdv A outer s H vs Q E hr h => ?_)
  · obtain ⟨kind, c, a, xs, rfl, _⟩ := h
    rfl
  · obtain ⟨kind, c, a, xs, rfl, hk, hc, hS, sc, q⟩ := h
    refine ⟨_, (pss_one (ps_try_as (i := 3) (Wout := fun _ _ _ _ => False) rfl rfl sc_l_told.nd rfl rfl ⟨rfl, by decide, Or.inl T.gc_BadNumber⟩ takes0
        (fun W pn xe tk po => (pss_cons (ps_if (pt_cmpR op_eq (pv 0) pe_int (nomark _))
          (pss_one (ps_ret (pe_callS (ok_lot_of T) (hr.mono (by decide)) rfl T.g_lot_of T.F_lot_of.kp T.b_lot_of (fun σ => passAt tk σ) (pa_cons (pv 1) (pa_cons (pv 2) pa_nil)))))
          pss_nil)
        (pss_cons (ps_if (pt_cmpR op_eq (pv 0) pe_int (nomark _))
          (pss_one (ps_ret (pe_callS (ok_others T) (hr.mono (by decide)) rfl T.g_others T.F_others.kp T.b_others (fun σ => passAt tk σ) (pa_cons (pv 1) (pa_cons (pv 2) pa_nil)))))
          pss_nil)
        (pss_one (ps_ret (pe_callS (ok_all_lots T) (hr.mono (by decide)) rfl T.g_all_lots T.F_all_lots.kp T.b_all_lots (fun σ => passAt tk σ) (pa_cons (pv 1) pa_nil)))))))
        (fun a oe cls d pn hz hf => (pss_one (ps_ret (pe_tup (pa_cons pe_str (pa_cons (pe_xf T.xf_BadNumber T.n_BadNumber_what hz hf (pv 3)) (pa_cons (pe_xf T.xf_BadNumber T.n_BadNumber_value hz hf (pv 3)) pa_nil))))))))), ?_⟩
    have kn := kn_scal (K := K) (H := H) hc
    have tell : ∀ (w : Str) (x : V) (tt : Addr) (H' : Hp), toldD kind c xs = badD w x ∧ scalV x = true → H' tt = some (.tup [.str "bad", .str w, x]) → Dp K H' (.ref tt) (toldD kind c xs) := fun w x tt H' ⟨e, hx⟩ ht => by
      rw [e]
      exact .tup (.inl (.inl ht)) (.cons (.str _) (.cons (.str _) (.cons (dp_scal hx) .nil)))
    have e1 : good c (some 1) (some 8) = false → toldD kind c xs = badD "copies" c ∧ scalV c = true := fun h => ⟨by unfold toldD; rw [copiesOf_none h], hc⟩
    have e2 : kind ≠ 2 → ∀ n x, copiesOf c = some n → badOf n xs = some x → toldD kind c xs = badD "copy" x ∧ scalV x = true := fun hk n x hn hb => ⟨by unfold toldD; rw [hn]; simp only; rw [if_neg hk, hb], sc x (List.mem_of_find?_eq_some hb)⟩
    have e3 : kind ≠ 2 → ∀ n, copiesOf c = some n → badOf n xs = none → toldD kind c xs = lotD (if kind = 0 then maskV xs else 2 ^ n - 1 - maskV xs) := fun hk n hn hb => by unfold toldD; rw [hn]; simp only; rw [if_neg hk, hb]
    have some8 : ∀ n : Nat, c = .int n → 1 ≤ n → n ≤ 8 → copiesOf c = some n := fun n e h1 h2 => by
      subst e
      obtain ⟨m, e, _, _, h⟩ := copiesOf_some (copies_good h1 h2)
      rw [h]
      congr 1
      injection e with e
      omega
    refine ⟨_, rfl, rfl, _, rfl, ite2 (fun h => ?_) fun h => ?_⟩
    · cases of_decide_eq_true h
      refine ⟨_, rfl, _, rfl, c, a, xs, rfl, kn, hS, sc, fun hg => ?_, fun n en h1 h2 => ⟨fun hb p H' sm np hp => q _ H' sm ?_, fun x hb => ?_⟩⟩
      · exact fun d H' nd sm hx => ⟨true, T.ex_BadNumber_BadNumber, fun _ e ne => ⟨.ref e, rfl, rfl, rfl, d, _, _, rfl, hx, rfl, _, rfl, rfl, rfl, d, _, _, rfl, hx, rfl, (by show 3 ≤ sizeLine; decide), fun tt ht => q _ _ (same_upd2 sm (sm.free ht)) (tell "copies" c tt _ (e1 hg) upd_same)⟩, fun z => nomatch z⟩
      · rw [e3 (by decide) n (some8 n en h1 h2) hb, if_pos rfl]
        exact .tup (.inl (.inl hp)) (dps_ints _)
      · exact fun d H' nd sm hx => ⟨true, T.ex_BadNumber_BadNumber, fun _ e ne => ⟨.ref e, rfl, rfl, rfl, d, _, _, rfl, hx, rfl, _, rfl, rfl, rfl, d, _, _, rfl, hx, rfl, (by show 3 ≤ sizeLine; decide), fun tt ht => q _ _ (same_upd2 sm (sm.free ht)) (tell "copy" x tt _ (e2 (by decide) n x (some8 n en h1 h2) hb) upd_same)⟩, fun z => nomatch z⟩
    · refine ⟨_, rfl, rfl, _, rfl, ite2 (fun h => ?_) fun h' => ?_⟩
      · cases of_decide_eq_true h
        refine ⟨_, rfl, _, rfl, c, a, xs, rfl, kn, hS, sc, fun hg => ?_, fun n en h1 h2 => ⟨fun hb p H' sm np hp => q _ H' sm ?_, fun x hb => ?_⟩⟩
        · exact fun d H' nd sm hx => ⟨true, T.ex_BadNumber_BadNumber, fun _ e ne => ⟨.ref e, rfl, rfl, rfl, d, _, _, rfl, hx, rfl, _, rfl, rfl, rfl, d, _, _, rfl, hx, rfl, (by show 3 ≤ sizeLine; decide), fun tt ht => q _ _ (same_upd2 sm (sm.free ht)) (tell "copies" c tt _ (e1 hg) upd_same)⟩, fun z => nomatch z⟩
        · rw [e3 (by decide) n (some8 n en h1 h2) hb, if_neg (by decide)]
          exact .tup (.inl (.inl hp)) (dps_ints _)
        · exact fun d H' nd sm hx => ⟨true, T.ex_BadNumber_BadNumber, fun _ e ne => ⟨.ref e, rfl, rfl, rfl, d, _, _, rfl, hx, rfl, _, rfl, rfl, rfl, d, _, _, rfl, hx, rfl, (by show 3 ≤ sizeLine; decide), fun tt ht => q _ _ (same_upd2 sm (sm.free ht)) (tell "copy" x tt _ (e2 (by decide) n x (some8 n en h1 h2) hb) upd_same)⟩, fun z => nomatch z⟩
      · have hk2 : kind = 2 := by
          rcases hk with rfl | rfl | rfl
          · exact absurd rfl h
          · exact absurd rfl h'
          · rfl
        subst hk2
        refine ⟨_, rfl, c, rfl, kn, fun hg => ?_, fun n en h1 h2 p ys H' sm np hp pr => q _ H' sm ?_⟩
        · exact fun d H' nd sm hx => ⟨true, T.ex_BadNumber_BadNumber, fun _ e ne => ⟨.ref e, rfl, rfl, rfl, d, _, _, rfl, hx, rfl, _, rfl, rfl, rfl, d, _, _, rfl, hx, rfl, (by show 3 ≤ sizeLine; decide), fun tt ht => q _ _ (same_upd2 sm (sm.free ht)) (tell "copies" c tt _ (e1 hg) upd_same)⟩, fun z => nomatch z⟩
        · unfold toldD
          rw [some8 n en h1 h2]
          exact lots_dp hp pr
theorem ok_law (T : Ctx K mg) : FnOk P w K mg base CX0 9 T.f_law T.fd_law ["_law_script"] (spLaw K) := by
  refine T.F_law.ok sc_law (fun vs H Q E h => ?_) (fun cdv A outer s H vs Q E hr h => ?_)
  · obtain ⟨l, ns, rfl, _⟩ := h
    rfl
  · obtain ⟨l, ns, rfl, hS, hlen, q⟩ := h
    refine ⟨_, (pss_cons (ps_set (i := 1) sc_law.nd rfl (Or.inr rfl) (pe_call (ok_l_start T) (hr.mono (by decide)) (by rfl) T.g_l_start T.F_l_start.kp T.b_l_start .nil pass0 (pa_cons (pv 0) pa_nil)))
      (pss_cons (ps_set (i := 2) sc_law.nd rfl (Or.inr rfl) (pe_op op_add pe_int (pe_call (ok_l_draw T) (hr.mono (by decide)) (by rfl) T.g_l_draw T.F_l_draw.kp T.b_l_draw .nil pass0 (pa_cons (pv 0) (pa_cons (pv 1) (pa_cons pe_int pa_nil))))))
      (pss_cons (ps_set (i := 3) sc_law.nd rfl (Or.inl rfl) (pe_call (ok_all_lots T) (hr.mono (by decide)) (by rfl) T.g_all_lots T.F_all_lots.kp T.b_all_lots .nil passL (pa_cons (pv 2) pa_nil)))
      (Evl.pss_cut (ps_if (PW.pt (pw_or (pt_cmpR (op_neD hr.units) (pv 3) (pe_call (ok_l_lots T) (hr.mono (by decide)) (by rfl) T.g_l_lots T.F_l_lots.kp T.b_l_lots .nil pass0 (pa_cons (pv 2) pa_nil)) (nomark _)) (pw_or1 (pt_cmpR (op_neD hr.units) (pe_lc (own := [("_law_lot", 4)]) (g := gName 4) (tt := tYes) rfl sc_law.nd (pi_list (pv 3)) (blkOk_by (own := [("_law_lot", 4)]) (N := ["_law_script", "_law_state", "_law_copies", "_law_lots_here", "_law_lot", "_law_numbers", "_law_k", "_law_kept", "_law_due", "_law_copy", "_law_rest", "_law_odd", "_law_at", "_law_wrong", "_law_kind", "_law_many"]) (sc := defScope s_law) (by decide +kernel)) (fun _ _ _ _ _ => (pg_name (i := 4) sc_law.nd rfl (Or.inl rfl))) (fun _ _ _ _ _ => pts_nil) (fun _ _ _ _ _ => (pe_call (ok_l_code T) (hr.mono (by decide)) (by rfl) T.g_l_code T.F_l_code.kp T.b_l_code .nil pass0 (pa_cons (pv 4) pa_nil)))) (pe_listRg rfl (by rfl) T.m_list (prg_1 (by rfl) T.m_range (pe_callB call_len_seq (by rfl) T.m_len (by decide +kernel) (pa_cons (pv 3) pa_nil)))) (nomark _)))))
        (pss_one (ps_ret pe_bl))
        pss_nil)
      (pss_cons (ps_expr (pe_bm PySem.F.plainAttrs_list PySem.F.slot_list_append PySem.F.type_list_append mt_append (pv 3) (pa_cons pe_non pa_nil)))
      (pss_cons (ps_if (pt_cmpR (op_neD hr.units) (pe_call (ok_all_lots T) (hr.mono (by decide)) (by rfl) T.g_all_lots T.F_all_lots.kp T.b_all_lots .nil passL (pa_cons (pv 2) pa_nil)) (pe_slice sl_list (pv 3) po_none (po_some (pe_un un_neg pe_int))) (nomark _))
        (pss_one (ps_ret pe_bl))
        pss_nil)
      (pss_cons (ps_set (i := 5) sc_law.nd rfl (Or.inr rfl) (pe_lc (own := [("_law_k", 6)]) (g := gName 6) (tt := tYes) rfl sc_law.nd (pi_range1 (by rfl) T.m_range (pa_cons (pe_call (ok_l_draw T) (hr.mono (by decide)) (by rfl) T.g_l_draw T.F_l_draw.kp T.b_l_draw .nil pass0 (pa_cons (pv 0) (pa_cons (pv 1) (pa_cons pe_int pa_nil)))) pa_nil)) (blkOk_by (own := [("_law_k", 6)]) (N := ["_law_script", "_law_state", "_law_copies", "_law_lots_here", "_law_lot", "_law_numbers", "_law_k", "_law_kept", "_law_due", "_law_copy", "_law_rest", "_law_odd", "_law_at", "_law_wrong", "_law_kind", "_law_many"]) (sc := defScope s_law) (by decide +kernel)) (fun _ _ _ _ _ => (pg_name (i := 6) sc_law.nd rfl (Or.inl rfl))) (fun _ _ _ _ _ => pts_nil) (fun _ _ _ _ _ => (pe_call (ok_l_draw T) (hr.mono (by decide)) (by rfl) T.g_l_draw T.F_l_draw.kp T.b_l_draw .nil pass0 (pa_cons (pv 0) (pa_cons (pv 1) (pa_cons (pv 2) pa_nil)))))))
      (pss_cons (ps_set (i := 7) sc_law.nd rfl (Or.inl rfl) (pe_callTy call_list_of (by rfl) T.m_list (by decide +kernel) (pa_cons (pv 5) pa_nil)))
      (pss_cons (ps_set (i := 8) sc_law.nd rfl (Or.inl rfl) (pe_callTy call_tuple_of (by rfl) T.m_tuple (by decide +kernel) (pa_cons (pe_lc (own := [("_law_copy", 9)]) (g := gName 9) (tt := _) rfl sc_law.nd (pi_range1 (by rfl) T.m_range (pa_cons (pv 2) pa_nil)) (blkOk_by (own := [("_law_copy", 9)]) (N := ["_law_script", "_law_state", "_law_copies", "_law_lots_here", "_law_lot", "_law_numbers", "_law_k", "_law_kept", "_law_due", "_law_copy", "_law_rest", "_law_odd", "_law_at", "_law_wrong", "_law_kind", "_law_many"]) (sc := defScope s_law) (by decide +kernel)) (fun _ _ _ _ _ => (pg_name (i := 9) sc_law.nd rfl (Or.inl rfl))) (fun _ _ _ _ _ => (pts_one (pt_cmpR (opK (K := K) rfl (fun K => rIn K false) op_in_seq) (pv 9) (pv 5) rfl))) (fun _ _ _ _ _ => (pv 9))) pa_nil)))
      (pss_cons (ps_set (i := 10) sc_law.nd rfl (Or.inl rfl) (pe_callTy call_tuple_of (by rfl) T.m_tuple (by decide +kernel) (pa_cons (pe_lc (own := [("_law_copy", 9)]) (g := gName 9) (tt := _) rfl sc_law.nd (pi_range1 (by rfl) T.m_range (pa_cons (pv 2) pa_nil)) (blkOk_by (own := [("_law_copy", 9)]) (N := ["_law_script", "_law_state", "_law_copies", "_law_lots_here", "_law_lot", "_law_numbers", "_law_k", "_law_kept", "_law_due", "_law_copy", "_law_rest", "_law_odd", "_law_at", "_law_wrong", "_law_kind", "_law_many"]) (sc := defScope s_law) (by decide +kernel)) (fun _ _ _ _ _ => (pg_name (i := 9) sc_law.nd rfl (Or.inl rfl))) (fun _ _ _ _ _ => (pts_one (pt_cmpR (opK (K := K) rfl (fun K => rIn K true) op_notIn_seq) (pv 9) (pv 5) rfl))) (fun _ _ _ _ _ => (pv 9))) pa_nil)))
      (Evl.pss_cut (ps_if (PW.pt (pw_or (pt_cmpR (op_neD hr.units) (pe_call (ok_l_told T) (hr.mono (by decide)) (by rfl) T.g_l_told T.F_l_told.kp T.b_l_told .nil pass0 (pa_cons pe_int (pa_cons (pv 2) (pa_cons (pv 5) pa_nil)))) (pv 8) (nomark _)) (pw_or (pt_cmpR (op_neD hr.units) (pe_call (ok_l_told T) (hr.mono (by decide)) (by rfl) T.g_l_told T.F_l_told.kp T.b_l_told .nil pass0 (pa_cons pe_int (pa_cons (pv 2) (pa_cons (pv 5) pa_nil)))) (pv 10) (nomark _)) (pw_or1 (pt_cmpR (op_neD hr.units) (pv 5) (pv 7) (nomark _))))))
        (pss_one (ps_ret pe_bl))
        pss_nil)
      (Evl.pss_cut (ps_if (PW.pt (pw_or (pt_cmpR (op_neD hr.units) (pe_call (ok_l_told T) (hr.mono (by decide)) (by rfl) T.g_l_told T.F_l_told.kp T.b_l_told .nil pass0 (pa_cons pe_int (pa_cons (pv 2) (pa_cons (pe_callTy call_tuple_of (by rfl) T.m_tuple (by decide +kernel) (pa_cons (pv 5) pa_nil)) pa_nil)))) (pv 8) (nomark _)) (pw_or1 (pt_cmpR (op_neD hr.units) (pe_call (ok_l_told T) (hr.mono (by decide)) (by rfl) T.g_l_told T.F_l_told.kp T.b_l_told .nil pass0 (pa_cons pe_int (pa_cons (pv 2) (pa_cons (pv 10) pa_nil)))) (pv 8) (nomark _)))))
        (pss_one (ps_ret pe_bl))
        pss_nil)
      (pss_cons (ps_set (i := 11) sc_law.nd rfl (Or.inl rfl) (pe_ix ix_list (pe_lst (pa_cons (pv 2) (pa_cons (pe_un un_neg pe_int) (pa_cons pe_bl (pa_cons pe_non (pa_cons pe_str (pa_cons (pe_op op_pow pe_int pe_int) pa_nil))))))) (pe_call (ok_l_draw T) (hr.mono (by decide)) (by rfl) T.g_l_draw T.F_l_draw.kp T.b_l_draw .nil pass0 (pa_cons (pv 0) (pa_cons (pv 1) (pa_cons pe_int pa_nil)))) (fun _ _ => rfl)))
      (pss_cons (ps_set (i := 12) sc_law.nd rfl (Or.inl rfl) (pe_call (ok_l_draw T) (hr.mono (by decide)) (by rfl) T.g_l_draw T.F_l_draw.kp T.b_l_draw .nil pass0 (pa_cons (pv 0) (pa_cons (pv 1) (pa_cons (pe_op op_add (pe_callB call_len_seq (by rfl) T.m_len (by decide +kernel) (pa_cons (pv 5) pa_nil)) pe_int) pa_nil)))))
      (pss_cons (ps_set (i := 13) sc_law.nd rfl (Or.inl rfl) (pe_op op_cat (pe_op op_cat (pe_op op_cat (pe_slice sl_list (pv 5) po_none (po_some (pv 12))) (pe_lst (pa_cons (pv 11) pa_nil))) (pe_slice sl_list (pv 5) (po_some (pv 12)) po_none)) (pe_lst (pa_cons (pe_un un_neg pe_int) pa_nil))))
      (pss_cons (ps_for PassesOwn.never rfl (pi_range1 (by rfl) T.m_range (pa_cons pe_int pa_nil)) (pg_name (i := 14) sc_law.nd rfl (Or.inl rfl))
        (pss_one (ps_if (pt_cmpR (op_neD hr.units) (pe_call (ok_l_told T) (hr.mono (by decide)) (by rfl) T.g_l_told T.F_l_told.kp T.b_l_told .nil pass0 (pa_cons (pv 14) (pa_cons (pv 2) (pa_cons (pv 13) pa_nil)))) (pe_tup (pa_cons pe_str (pa_cons pe_str (pa_cons (pv 11) pa_nil)))) (nomark _))
          (pss_one (ps_ret pe_bl))
          pss_nil)))
      (pss_cons (ps_for PassesOwn.never rfl (pi_list (pe_lst (pa_cons pe_int (pa_cons pe_int (pa_cons pe_bl (pa_cons pe_non (pa_cons (pe_un un_neg (pe_op op_pow pe_int pe_int)) pa_nil))))))) (pg_name (i := 15) sc_law.nd rfl (Or.inl rfl))
        (pss_one (ps_for PassesOwn.never rfl (pi_range1 (by rfl) T.m_range (pa_cons pe_int pa_nil)) (pg_name (i := 14) sc_law.nd rfl (Or.inl rfl))
          (pss_one (ps_if (pt_cmpR (op_neD hr.units) (pe_call (ok_l_told T) (hr.mono (by decide)) (by rfl) T.g_l_told T.F_l_told.kp T.b_l_told .nil pass0 (pa_cons (pv 14) (pa_cons (pv 15) (pa_cons (pv 13) pa_nil)))) (pe_tup (pa_cons pe_str (pa_cons pe_str (pa_cons (pv 15) pa_nil)))) (nomark _))
            (pss_one (ps_ret pe_bl))
            pss_nil)))))
      (pss_one (ps_ret (pe_and (pe_cmpR op_eq (pe_callB call_len_seq (by rfl) T.m_len (by decide +kernel) (pa_cons (pe_call (ok_all_lots T) (hr.mono (by decide)) (by rfl) T.g_all_lots T.F_all_lots.kp T.b_all_lots .nil passL (pa_cons pe_int pa_nil)) pa_nil)) pe_int (nomark _)) (pe_one (pe_cmpR (op_eqD hr.units) (pe_call (ok_all_lots T) (hr.mono (by decide)) (by rfl) T.g_all_lots T.F_all_lots.kp T.b_all_lots .nil passL (pa_cons pe_int pa_nil)) (pe_lst (pa_cons (pe_tup pa_nil) (pa_cons (pe_tup (pa_cons pe_int pa_nil)) pa_nil))) (nomark _))))))))))))))))))))))), ?_⟩
    refine ⟨_, rfl, l, ns, rfl, hS, fun t H1 nt D1 b1 => ?_⟩
    refine ⟨_, rfl, _, rfl, l, t, 8, H, rfl, D1, by decide, by decide, fun x H2 a1 a2 b2 D2 => ?_⟩
    obtain ⟨n, hn⟩ : ∃ n : Nat, 1 + x = (n : Int) := ⟨(1 + x).toNat, by omega⟩
    refine opN (z := .int n) (congrArg V.int hn) ?_
    have n1 : 1 ≤ n := by omega
    have n8 : n ≤ 8 := by omega
    clear a1 a2 hn
    refine ⟨_, rfl, .int n, rfl, kn_int _, fun z => absurd (copies_good n1 n8) (by rw [z]; simp), fun n' e _ _ p1 ys1 H3 s3 np1 hp1 pr1 => ?_⟩
    cases (show n = n' from by injection e with e; omega)
    have D3 := D2.mono s3
    have n256 := pow_le8 n8
    have hy1 := prLen pr1
    rw [List.length_range] at hy1
    refine ⟨fun σ' H' => (∃ v4, σ' = [some (.ref l), some (.ref t), some (.int n), some (.ref p1), v4, none, none, none, none, none, none, none, none, none, none, none]) ∧ Same H3 H', ?_, ?_⟩
    · refine ⟨_, rfl, _, rfl, n, rfl, n8, fun p2 ys2 H4 s4 np2 hp2 pr2 => ?_⟩
      refine ⟨_, _, lots_dp (s4 _ _ hp1) (prImp (fun m y h => h.same s4) pr1), lots_dp hp2 pr2, (fit_lots _).shaped (by decide), (fit_lots _).shaped (by decide), _, rfl, ?_⟩
      rw [ne_self ((fit_lots _).shaped (by decide))]
      refine iteF ⟨_, rfl, p1, rfl, ⟨_, SqL.of (s4 _ _ hp1)⟩, fun D nD => ?_⟩
      refine lc_itA (walk_list (K := K) (a := p1) (xs := ys1)) (fun i => V.int i) (fun v y _ => y = v) (fun _ _ _ _ _ h => h) nD (fun H' e => e.seq (SqL.of (s4 _ _ hp1))) (by omega) ?_ ?_
      · rintro i x H5 H5' k hi s5 ⟨rfl, hx⟩ h1
        obtain ⟨m, hm, hL⟩ := prAt pr1 hx
        rw [List.getElem?_range (by omega)] at hm
        cases Option.some.inj hm
        exact ⟨rfl, _, rfl, i, x, rfl, by omega, hL.same (s4.trans s5), fun H' s6 => h1 _ _ s6 rfl⟩
      · intro H' zs s5 hD pz
        have ez := paired_eq pz
        refine ⟨_, rfl, p1, _, rfl, .inl (SqL.of (s5 _ _ (s4 _ _ hp1))), _, rfl, RgOk.of_le (by decide) (by omega) (by decide) (by omega), fun u nu => ?_⟩
        have hD2 : upd H' u (.lst (rgV 0 ys1.length)) D = some (.lst zs) := (upd_ne (ne_of_none hD nu)).trans hD
        have erg : rgV 0 ys1.length = (List.range ys1.length).map fun (i : Nat) => V.int i := by
          unfold rgV
          rw [Int.sub_zero, Int.toNat_natCast]
          exact List.map_congr_left fun i _ => by rw [Int.zero_add]
        rw [erg, ← ez] at hD2 ⊢
        have dz : ∀ {H : Hp} {q : Addr}, H q = some (.lst zs) → Dp K H (.ref q) (.list ((List.range ys1.length).map fun (i : Nat) => PyData.int i)) := fun {H q} h => by
          rw [ez] at h
          refine .lst (SqL.of h) ?_
          clear h
          generalize List.range ys1.length = L
          induction L with
          | nil => exact .nil
          | cons a r ih => exact .cons (.int _) ih
        have fz : Fit 2 (.list ((List.range ys1.length).map fun (i : Nat) => PyData.int i)) := fit_lst fun d hd => by
          obtain ⟨i, _, rfl⟩ := List.mem_map.mp hd
          exact fit_int _
        refine ⟨_, _, dz hD2, dz upd_same, fz.shaped (by decide), fz.shaped (by decide), _, rfl, ?_⟩
        rw [ne_self (fz.shaped (by decide))]
        exact iteF ⟨⟨_, rfl⟩, s4.trans (s5.trans (same_upd nu))⟩
    · rintro σ' H4 ⟨⟨v4, rfl⟩, s4⟩
      have hp4 := s4 _ _ hp1
      have pr4 := prImp (fun m y (h : Lot K H3 m y) => h.same s4) pr1
      have D4 := D3.mono s4
      -- append(None)
      have ntp : t ≠ p1 := fun z => by
        obtain ⟨a, b, c, d, h⟩ := D2.st
        rw [z, np1] at h
        cases h
      refine ⟨_, rfl, .inl ⟨rfl, _, SqL.of hp4⟩, p1, _, _, rfl, rfl, hp4, Nat.lt_of_le_of_lt (by omega) (by decide : 256 < sizeLine), ?_⟩
      have hp5 : upd H4 p1 (.lst (ys1 ++ [.non])) p1 = some (.lst (ys1 ++ [.non])) := upd_same
      have st5 : SameT H4 (upd H4 p1 (.lst (ys1 ++ [.non]))) := sameT_upd hp4
      have D5 : Drw K H l t (upd H4 p1 (.lst (ys1 ++ [.non]))) := D2.mono (same_upd2 (s3.trans s4) np1)
      have pr5 := prImp (fun m y (h : Lot K H4 m y) => h.sameT st5) pr4
      revert hp5 D5 pr5
      clear st5 D4 pr4 hp4 s4 D3 pr1 hp1 s3
      generalize upd H4 p1 _ = H5
      intro hp5 D5 pr5
      -- all_lots(copies) != lots[:-1]
      refine ⟨_, rfl, .int n, rfl, kn_int _, fun z => absurd (copies_good n1 n8) (by rw [z]; simp), fun n' e _ _ p6 ys6 H6 s6 np6 hp6 pr6 => ?_⟩
      cases (show n = n' from by injection e with e; omega)
      refine ⟨_, rfl, _, rfl, _, rfl, p1, _, rfl, SqL.of (s6 _ _ hp5), fun p7 np7 => ?_⟩
      have s7 := same_upd (o := .lst (cutV (ys1 ++ [.non]) none (some (-1)))) np7
      refine ⟨_, _, lots_dp (s7 _ _ hp6) (prImp (fun m y h => h.same s7) pr6), lots_dp (ys := ys1) (by rw [upd_same, cut_last]) (prImp (fun m y h => h.same (s6.trans s7)) pr5), (fit_lots _).shaped (by decide), (fit_lots _).shaped (by decide), _, rfl, ?_⟩
      rw [ne_self ((fit_lots _).shaped (by decide))]
      refine iteF ?_
      have D7 := D5.mono (s6.trans s7)
      revert D7
      generalize upd H6 p7 _ = H7
      intro D7
      clear s7 np7 hp6 pr6 s6 np6 D5 pr5 hp5
      -- the numbers
      refine ⟨_, rfl, _, rfl, l, t, 11, H, rfl, D7, by decide, by decide, fun x3 H8 a3 a4 b8 D8 => ?_⟩
      refine ⟨x3, rfl, by omega, by omega, fun D nD => lc_draws (n : Int) x3.toNat D8 nD (by omega) (fun i H9 k hi D9 e9 k1 => ?_) fun H9 cs e9 D9 hD hcl hcs => ?_⟩
      · exact ⟨rfl, _, rfl, _, rfl, _, rfl, l, t, n, H, rfl, D9, by omega, by omega, k1⟩
      have nDt := D8.ne nD
      have cs0 : ∀ c ∈ cs, 0 ≤ c := fun c hc => (hcs c hc).1
      obtain ⟨xs, hxs⟩ : ∃ xs, xs = cs.map V.int := ⟨_, rfl⟩
      have xsc : ∀ x ∈ xs, scalV x = true := fun x hx => scal_int (by rw [← hxs]; exact hx)
      have xok : ∀ x ∈ xs, copyOk n x = true := fun x hx => by
        rw [hxs] at hx
        obtain ⟨c, hc, rfl⟩ := List.mem_map.mp hx
        obtain ⟨h1, h2⟩ := hcs c hc
        obtain ⟨c', rfl⟩ := Int.eq_ofNat_of_zero_le h1
        exact copyOk_nat (by omega)
      have hmlt : maskV xs < 2 ^ n := mask_lt xok
      have xfl : xs.all flatV = true := List.all_eq_true.mpr fun x hx => flat_scal (xsc x hx)
      rw [← hxs] at hD
      have hin : ∀ i : Nat, inV (.int i) xs = (maskV xs).testBit i := fun i => by rw [hxs]; exact inV_mask cs0 i
      have dpx : ∀ {H : Hp} {p : Addr}, H p = some (.lst xs) → Dp K H (.ref p) (.list (cs.map PyData.int)) := fun h => by
        rw [hxs] at h
        exact .lst (SqL.of h) (dps_ints _)
      have fitx : Fit 2 (.list (cs.map PyData.int)) := fit_lst fun d hd => by
        obtain ⟨i, _, rfl⟩ := List.mem_map.mp hd
        exact fit_int i
      have xl : xs.length ≤ 10 := by rw [hxs, List.length_map]; omega
      refine ⟨_, rfl, D, _, rfl, .inl (SqL.of hD), fun pk nk => ?_⟩
      have s10 := same_upd (o := .lst xs) nk
      have hk : upd H9 pk (.lst xs) pk = some (.lst xs) := upd_same
      have hD := s10 _ _ hD
      have D10 := D9.mono s10
      revert hk hD D10
      clear s10
      generalize upd H9 pk _ = H10
      intro hk hD D10
      -- due
      refine ⟨_, rfl, n, rfl, by omega, by omega, fun E1 nE1 => ?_⟩
      rw [Int.toNat_natCast]
      refine lc_itM (walk_range (lo := 0) (n := n)) (fun i => if (maskV xs).testBit i = true then some (V.int i) else none) (fun a y _ => y = a) (fun _ _ _ _ _ h => h) nE1 (fun _ _ => trivial) (by omega) ?_ ?_
      · rintro i x H11 H' k N hi sm ⟨rfl, rfl⟩ h1 h2
        refine ⟨rfl, _, rfl, _, rfl, D, xs, rfl, .inl (SqL.of (sm _ _ hD)), rfl, xfl, _, rfl, ?_⟩
        show if inV (.int (0 + (i : Int))) xs = true then _ else _
        rw [Int.zero_add, hin i]
        cases e : (maskV xs).testBit i with
        | true => exact iteT ⟨_, rfl, h1 _ _ _ (Same.refl _) (by rw [e] <;> rfl) (by show V.int (0 + (i : Int)) = V.int i; rw [Int.zero_add])⟩
        | false => exact iteF (h2 _ (Same.refl _) (by rw [e] <;> rfl))
      intro H11 ys s11 hE1 pE
      have eE := paired_eq pE
      rw [← lotV_filter n8 hmlt] at eE
      subst eE
      refine ⟨E1, _, rfl, .inl ⟨SqL.of hE1, fun pd nd => ?_⟩⟩
      have s12 := s11.trans (same_upd (o := .tup (lotV (maskV xs))) nd)
      have hd : upd H11 pd (.tup (lotV (maskV xs))) pd = some (.tup (lotV (maskV xs))) := upd_same
      have hD := s12 _ _ hD
      have hk := s12 _ _ hk
      have D12 := D10.mono s12
      revert hd hD hk D12
      clear s12 nd hE1 pE s11 D10 nE1
      generalize upd H11 pd _ = H12
      intro hd hD hk D12
      -- rest
      refine ⟨_, rfl, n, rfl, by omega, by omega, fun E1 nE1 => ?_⟩
      rw [Int.toNat_natCast]
      refine lc_itM (walk_range (lo := 0) (n := n)) (fun i => if (maskV xs).testBit i = true then none else some (V.int i)) (fun a y _ => y = a) (fun _ _ _ _ _ h => h) nE1 (fun _ _ => trivial) (by omega) ?_ ?_
      · rintro i x H11 H' k N hi sm ⟨rfl, rfl⟩ h1 h2
        refine ⟨rfl, _, rfl, _, rfl, D, xs, rfl, .inl (SqL.of (sm _ _ hD)), rfl, xfl, _, rfl, ?_⟩
        show if (!inV (.int (0 + (i : Int))) xs) = true then _ else _
        rw [Int.zero_add, hin i]
        cases e : (maskV xs).testBit i with
        | true => exact iteF (h2 _ (Same.refl _) (by rw [e] <;> rfl))
        | false => exact iteT ⟨_, rfl, h1 _ _ _ (Same.refl _) (by rw [e] <;> rfl) (by show V.int (0 + (i : Int)) = V.int i; rw [Int.zero_add])⟩
      intro H13 ys s13 hE1 pE
      have eE := paired_eq pE
      rw [← lotV_others n8 hmlt] at eE
      subst eE
      refine ⟨E1, _, rfl, .inl ⟨SqL.of hE1, fun pr nr => ?_⟩⟩
      have s14 := s13.trans (same_upd (o := .tup (lotV (2 ^ n - 1 - maskV xs))) nr)
      have hr : upd H13 pr (.tup (lotV (2 ^ n - 1 - maskV xs))) pr = some (.tup (lotV (2 ^ n - 1 - maskV xs))) := upd_same
      have hD := s14 _ _ hD
      have hk := s14 _ _ hk
      have hd := s14 _ _ hd
      have D14 := D12.mono s14
      revert hr hD hk hd D14
      clear s14 nr hE1 pE s13 D12 nE1
      generalize upd H13 pr _ = H14
      intro hr hD hk hd D14
      have t0 : toldD 0 (.int n) xs = lotD (maskV xs) := by
        obtain ⟨m, e, _, _, h⟩ := copiesOf_some (copies_good n1 n8)
        have e : n = m := by injection e with e; omega
        unfold toldD
        rw [h]
        simp only
        rw [if_neg (by decide), badOf_ok (fun x hx => by rw [← e]; exact xok x hx)]
        exact congrArg lotD (if_pos trivial)
      have t1 : ∀ zs, (∀ x ∈ zs, copyOk n x = true) → toldD 1 (.int n) zs = lotD (2 ^ n - 1 - maskV zs) := fun zs hz => by
        obtain ⟨m, e, _, _, h⟩ := copiesOf_some (copies_good n1 n8)
        have e : n = m := by injection e with e; omega
        unfold toldD
        rw [h, ← e]
        simp only
        rw [if_neg (by decide), badOf_ok hz]
        simp only
        rw [if_neg (by decide)]
      have dlot : ∀ {H : Hp} {p : Addr} {m : Nat}, H p = some (.tup (lotV m)) → Dp K H (.ref p) (lotD m) := fun h => .tup (.inl (.inl h)) (dps_ints _)
      refine ⟨fun σ' H' => (∃ v4 v6 v9, σ' = [some (.ref l), some (.ref t), some (.int n), some (.ref p1), v4, some (.ref D), v6, some (.ref pk), some (.ref pd), v9, some (.ref pr), none, none, none, none, none]) ∧ Same H14 H', ?_, ?_⟩
      · refine ⟨_, rfl, _, rfl, 0, .int n, D, xs, rfl, .inl rfl, rfl, .inl (SqL.of hD), xsc, fun r H15 s15 dr => ?_⟩
        rw [t0] at dr
        refine ⟨_, rfl, _, _, dr, dlot (s15 _ _ hd), (fit_lot _).shaped (by decide), (fit_lot _).shaped (by decide), _, rfl, ?_⟩
        rw [ne_self ((fit_lot _).shaped (by decide))]
        refine iteF ⟨_, rfl, _, rfl, 1, .int n, D, xs, rfl, .inr (.inl rfl), rfl, .inl (SqL.of (s15 _ _ hD)), xsc, fun r H16 s16 dr => ?_⟩
        rw [t1 xs xok] at dr
        refine ⟨_, rfl, _, _, dr, dlot (s16 _ _ (s15 _ _ hr)), (fit_lot _).shaped (by decide), (fit_lot _).shaped (by decide), _, rfl, ?_⟩
        rw [ne_self ((fit_lot _).shaped (by decide))]
        refine iteF ⟨_, rfl, _, rfl, _, _, dpx (s16 _ _ (s15 _ _ hD)), dpx (s16 _ _ (s15 _ _ hk)), fitx.shaped (by decide), fitx.shaped (by decide), _, rfl, ?_⟩
        rw [ne_self (fitx.shaped (by decide))]
        exact iteF ⟨⟨_, _, _, rfl⟩, s15.trans s16⟩
      · rintro σ' H15 ⟨⟨v4, v6, v9, rfl⟩, s15⟩
        have hD := s15 _ _ hD
        have hd := s15 _ _ hd
        have hr := s15 _ _ hr
        have D15 := D14.mono s15
        clear D14 hk
        refine ⟨fun σ' H' => (∃ v4 v6 v9, σ' = [some (.ref l), some (.ref t), some (.int n), some (.ref p1), v4, some (.ref D), v6, some (.ref pk), some (.ref pd), v9, some (.ref pr), none, none, none, none, none]) ∧ Same H15 H', ?_, ?_⟩
        · refine ⟨_, rfl, _, rfl, D, _, rfl, .inl ⟨SqL.of hD, fun u nu => ?_⟩⟩
          have su := same_upd (o := .tup xs) nu
          refine ⟨0, .int n, u, xs, rfl, .inl rfl, rfl, .inr (.inl (.inl upd_same)), xsc, fun r H16 s16 dr => ?_⟩
          rw [t0] at dr
          refine ⟨_, rfl, _, _, dr, dlot (s16 _ _ (su _ _ hd)), (fit_lot _).shaped (by decide), (fit_lot _).shaped (by decide), _, rfl, ?_⟩
          rw [ne_self ((fit_lot _).shaped (by decide))]
          have hlt2 : 2 ^ n - 1 - maskV xs < 2 ^ n := by omega
          refine iteF ⟨_, rfl, _, rfl, 1, .int n, pr, lotV (2 ^ n - 1 - maskV xs), rfl, .inr (.inl rfl), rfl, .inr (.inl (.inl (s16 _ _ (su _ _ hr)))), fun x hx => scal_lotV hx, fun r H17 s17 dr => ?_⟩
          rw [t1 _ fun x hx => lotV_ok hlt2 hx, mask_lotV (by omega), show 2 ^ n - 1 - (2 ^ n - 1 - maskV xs) = maskV xs by omega] at dr
          refine ⟨_, rfl, _, _, dr, dlot (s17 _ _ (s16 _ _ (su _ _ hd))), (fit_lot _).shaped (by decide), (fit_lot _).shaped (by decide), _, rfl, ?_⟩
          rw [ne_self ((fit_lot _).shaped (by decide))]
          exact iteF ⟨⟨_, _, _, rfl⟩, su.trans (s16.trans s17)⟩
        · rintro σ' H16 ⟨⟨v4, v6, v9, rfl⟩, s16⟩
          have hD := s16 _ _ hD
          have D16 := D15.mono s16
          -- odd
          refine ⟨_, rfl, _, rfl, _, _, rfl, rfl, ⟨by decide, by decide, by decide⟩, (by show 6 ≤ sizeLine; decide), fun po npo => ?_⟩
          have nDo : D ≠ po := ne_of_none hD npo
          have npt := D16.ne npo
          have D17 := D16.mono (same_upd (o := .lst [.int n, .int (-1), .bl true, .non, .str "0", .int (10 ^ (20 : Int).toNat)]) npo)
          have hD := (same_upd (o := .lst [.int n, .int (-1), .bl true, .non, .str "0", .int (10 ^ (20 : Int).toNat)]) npo) _ _ hD
          have hpo : (upd H16 po (.lst [.int n, .int (-1), .bl true, .non, .str "0", .int (10 ^ (20 : Int).toNat)])) po = some (.lst [.int n, .int (-1), .bl true, .non, .str "0", .int (10 ^ (20 : Int).toNat)]) := upd_same
          refine ⟨_, rfl, _, rfl, l, t, 6, H, rfl, D17, by decide, by decide, fun x4 H18 a4 a5 b18 D18 => ?_⟩
          have hD := (b18 D nDt).trans hD
          have hpo := (b18 po npt).trans hpo
          obtain ⟨odd, hodd, osc, obad⟩ : ∃ odd, atI [V.int n, .int (-1), .bl true, .non, .str "0", .int (10 ^ (20 : Int).toNat)] x4 = some odd ∧ scalV odd = true ∧ copyOk n odd = false := by
            have h6 : x4 = 0 ∨ x4 = 1 ∨ x4 = 2 ∨ x4 = 3 ∨ x4 = 4 ∨ x4 = 5 := by omega
            have g1 : ∀ i : Int, (i < 0 ∨ 8 ≤ i ∨ i = n) → copyOk n (.int i) = false := fun i h => by
              unfold copyOk good
              simp
              omega
            rcases h6 with rfl | rfl | rfl | rfl | rfl | rfl
            · exact ⟨_, rfl, rfl, g1 _ (by omega)⟩
            · exact ⟨_, rfl, rfl, g1 _ (by omega)⟩
            · exact ⟨_, rfl, rfl, rfl⟩
            · exact ⟨_, rfl, rfl, rfl⟩
            · exact ⟨_, rfl, by decide +kernel, rfl⟩
            · exact ⟨_, rfl, rfl, g1 _ (.inr (.inl (by decide)))⟩
          refine ⟨po, _, _, odd, rfl, rfl, SqL.of hpo, hodd, ?_⟩
          -- at
          refine ⟨_, rfl, _, rfl, _, rfl, D, _, rfl, .inl (SqL.of hD), _, _, rfl, rfl, l, t, _, H, rfl, D18, by omega, by omega, fun x5 H19 a6 a7 b19 D19 => ?_⟩
          have hD := (b19 D nDt).trans hD
          -- wrong
          have e100 : (100 : Nat) ≤ sizeLine := by decide
          have c1 := cutV_length xs none (some x5)
          have c2 := cutV_length xs (some x5) none
          refine ⟨_, rfl, _, rfl, _, rfl, D, _, rfl, SqL.of hD, fun q1 nq1 => ?_⟩
          have hq1 : upd H19 q1 (.lst (cutV xs none (some x5))) q1 = some (.lst (cutV xs none (some x5))) := upd_same
          have hD := (same_upd (o := .lst (cutV xs none (some x5))) nq1) _ _ hD
          have D20 := D19.mono (same_upd (o := .lst (cutV xs none (some x5))) nq1)
          revert hq1 hD D20
          clear nq1
          generalize upd H19 q1 _ = H20
          intro hq1 hD D20
          refine ⟨_, rfl, (by show 1 ≤ sizeLine; decide), fun q2 nq2 => ?_⟩
          have sq2 := same_upd (o := .lst [odd]) nq2
          refine ⟨q1, q2, _, _, rfl, rfl, sq2 _ _ hq1, upd_same, by simp only [List.length_singleton]; omega, fun q3 nq3 => ?_⟩
          have sq3 := sq2.trans (same_upd (o := .lst (cutV xs none (some x5) ++ [odd])) nq3)
          have hq3 : upd (upd H20 q2 (.lst [odd])) q3 (.lst (cutV xs none (some x5) ++ [odd])) q3 = some (.lst (cutV xs none (some x5) ++ [odd])) := upd_same
          have hD := sq3 _ _ hD
          have D21 := D20.mono sq3
          revert hq3 hD D21
          clear nq3 sq3 sq2 nq2
          generalize upd (upd H20 q2 _) q3 _ = H21
          intro hq3 hD D21
          refine ⟨_, rfl, _, rfl, _, rfl, D, _, rfl, SqL.of hD, fun q4 nq4 => ?_⟩
          have sq4 := same_upd (o := .lst (cutV xs (some x5) none)) nq4
          refine ⟨q3, q4, _, _, rfl, rfl, sq4 _ _ hq3, upd_same, by simp only [List.length_append, List.length_singleton]; omega, fun q5 nq5 => ?_⟩
          have hq5 : upd (upd H21 q4 (.lst (cutV xs (some x5) none))) q5 (.lst (cutV xs none (some x5) ++ [odd] ++ cutV xs (some x5) none)) q5 = some (.lst (cutV xs none (some x5) ++ [odd] ++ cutV xs (some x5) none)) := upd_same
          have D22 := (D21.mono sq4).mono (same_upd (o := .lst (cutV xs none (some x5) ++ [odd] ++ cutV xs (some x5) none)) nq5)
          revert hq5 D22
          clear nq5 sq4 nq4
          generalize upd (upd H21 q4 _) q5 _ = H22
          intro hq5 D22
          refine ⟨_, rfl, (by show 1 ≤ sizeLine; decide), fun q6 nq6 => ?_⟩
          have sq6 := same_upd (o := .lst [V.int (-7)]) nq6
          refine ⟨q5, q6, _, _, rfl, rfl, sq6 _ _ hq5, upd_same, by simp only [List.length_append, List.length_singleton]; omega, fun q7 nq7 => ?_⟩
          obtain ⟨zs, hzs⟩ : ∃ zs, zs = cutV xs none (some x5) ++ [odd] ++ cutV xs (some x5) none ++ [V.int (-7)] := ⟨_, rfl⟩
          have mcut : ∀ {lo hi x}, x ∈ cutV xs lo hi → x ∈ xs := fun h => List.mem_of_mem_drop (List.mem_of_mem_take h)
          have zsc : ∀ z ∈ zs, scalV z = true := fun z hz => by
            rw [hzs] at hz
            simp only [List.mem_append, List.mem_singleton] at hz
            rcases hz with ((h | rfl) | h) | rfl
            · exact xsc z (mcut h)
            · exact osc
            · exact xsc z (mcut h)
            · rfl
          have zbad : badOf n zs = some odd := by
            have e : badOf n (cutV xs none (some x5) ++ odd :: (cutV xs (some x5) none ++ [V.int (-7)])) = some odd := by
              unfold badOf
              rw [List.find?_append, List.find?_eq_none.mpr (fun y hy => by rw [xok y (mcut hy)]; simp), Option.none_or, List.find?_cons, obad] <;> rfl
            rw [hzs, List.append_assoc, List.append_assoc]
            exact e
          rw [← hzs]
          have hq7 : upd (upd H22 q6 (.lst [V.int (-7)])) q7 (.lst zs) q7 = some (.lst zs) := upd_same
          revert hq7
          generalize upd (upd H22 q6 _) q7 _ = H23
          intro hq7
          have tc : ∀ kind : Int, kind ≠ 2 → toldD kind (.int n) zs = badD "copy" odd := fun kind hk => by
            obtain ⟨m, e, _, _, h⟩ := copiesOf_some (copies_good n1 n8)
            have e : n = m := by injection e with e; omega
            unfold toldD
            rw [h, ← e]
            simp only
            rw [if_neg hk, zbad]
          have tm : ∀ (kind : Int) (c : V), good c (some 1) (some 8) = false → toldD kind c zs = badD "copies" c := fun kind c hc => by
            unfold toldD
            rw [copiesOf_none hc]
          have dbad : ∀ {H : Hp} {p : Addr} {w : Str} {x : V}, scalV x = true → H p = some (.tup [.str "bad", .str w, x]) → Dp K H (.ref p) (badD w x) := fun hx h => .tup (.inl (.inl h)) (.cons (.str _) (.cons (.str _) (.cons (dp_scal hx) .nil)))
          have f1 : ∀ {x : V}, scalV x = true → SeqAt.shaped (badD "copy" x) = true := fun hx => (fit_bad (by decide +kernel) hx).shaped (by decide)
          have f2 : ∀ {x : V}, scalV x = true → SeqAt.shaped (badD "copies" x) = true := fun hx => (fit_bad (by decide +kernel) hx).shaped (by decide)
          refine ⟨2, rfl, by decide, by decide, for_range (n := 2) (fun i σ' H' => (∃ v14, σ' = [some (.ref l), some (.ref t), some (.int n), some (.ref p1), v4, some (.ref D), v6, some (.ref pk), some (.ref pd), v9, some (.ref pr), some odd, some (.int x5), some (.ref q7), v14, none]) ∧ H' q7 = some (.lst zs)) ⟨⟨_, rfl⟩, hq7⟩ ?_ ?_⟩
          · rintro i σ' H24 hi ⟨⟨v14, rfl⟩, hz⟩
            refine ⟨_, rfl, _, rfl, _, rfl, _, .int n, q7, zs, rfl, by omega, rfl, .inl (SqL.of hz), zsc, fun r H25 s25 dr => ?_⟩
            rw [tc _ (by omega)] at dr
            refine ⟨_, rfl, (by show 3 ≤ sizeLine; decide), fun tt ntt => ?_⟩
            refine ⟨_, _, dp_same (same_upd ntt) dr, dbad osc upd_same, f1 osc, f1 osc, _, rfl, ?_⟩
            rw [ne_self (f1 osc)]
            exact iteF ⟨⟨_, rfl⟩, same_upd ntt _ _ (s25 _ _ hz)⟩
          · rintro σ' H24 ⟨⟨v14, rfl⟩, hz⟩
            refine ⟨_, _, rfl, rfl, ⟨by decide, by decide, by decide⟩, _, rfl, (by show 5 ≤ sizeLine; decide), fun pm npm => ?_⟩
            have hz := (same_upd (o := .lst [.int 0, .int 9, .bl true, .non, .int (-(10 ^ (20 : Int).toNat))]) npm) _ _ hz
            have hm : upd H24 pm (.lst [.int 0, .int 9, .bl true, .non, .int (-(10 ^ (20 : Int).toNat))]) pm = some (.lst [.int 0, .int 9, .bl true, .non, .int (-(10 ^ (20 : Int).toNat))]) := upd_same
            refine ⟨pm, rfl, ⟨_, SqL.of hm⟩, for_list (K := K) (a := pm) (xs := [.int 0, .int 9, .bl true, .non, .int (-(10 ^ (20 : Int).toNat))]) (fun j σ' H' => (∃ v14 v15, σ' = [some (.ref l), some (.ref t), some (.int n), some (.ref p1), v4, some (.ref D), v6, some (.ref pk), some (.ref pd), v9, some (.ref pr), some odd, some (.int x5), some (.ref q7), v14, v15]) ∧ H' q7 = some (.lst zs) ∧ H' pm = some (.lst [.int 0, .int 9, .bl true, .non, .int (-(10 ^ (20 : Int).toNat))]))
              ⟨⟨_, _, rfl⟩, hz, hm⟩ (fun i σ' H' _ h => SqL.of h.2.2) ?_ ?_⟩
            · rintro j c σ' H25 hj ⟨⟨v14, v15, rfl⟩, hz, hm⟩
              obtain ⟨csc, cbad⟩ : scalV c = true ∧ good c (some 1) (some 8) = false := by
                have := List.mem_of_getElem? hj
                simp only [List.mem_cons, List.not_mem_nil, or_false] at this
                rcases this with rfl | rfl | rfl | rfl | rfl
                · exact ⟨rfl, rfl⟩
                · exact ⟨rfl, rfl⟩
                · exact ⟨rfl, rfl⟩
                · exact ⟨rfl, rfl⟩
                · exact ⟨rfl, by decide⟩
              refine ⟨3, rfl, by decide, by decide, for_range (n := 3) (fun i σ' H' => (∃ v14, σ' = [some (.ref l), some (.ref t), some (.int n), some (.ref p1), v4, some (.ref D), v6, some (.ref pk), some (.ref pd), v9, some (.ref pr), some odd, some (.int x5), some (.ref q7), v14, some c]) ∧ H' q7 = some (.lst zs) ∧ H' pm = some (.lst [.int 0, .int 9, .bl true, .non, .int (-(10 ^ (20 : Int).toNat))])) ⟨⟨_, rfl⟩, hz, hm⟩ ?_ ?_⟩
              · rintro i σ' H26 hi ⟨⟨v14, rfl⟩, hz, hm⟩
                refine ⟨_, rfl, _, rfl, _, rfl, _, c, q7, zs, rfl, by omega, csc, .inl (SqL.of hz), zsc, fun r H25 s25 dr => ?_⟩
                rw [tm _ c cbad] at dr
                refine ⟨_, rfl, (by show 3 ≤ sizeLine; decide), fun tt ntt => ?_⟩
                refine ⟨_, _, dp_same (same_upd ntt) dr, dbad csc upd_same, f2 csc, f2 csc, _, rfl, ?_⟩
                rw [ne_self (f2 csc)]
                exact iteF ⟨⟨_, rfl⟩, same_upd ntt _ _ (s25 _ _ hz), same_upd ntt _ _ (s25 _ _ hm)⟩
              · rintro σ' H26 ⟨⟨v14, rfl⟩, hz, hm⟩
                exact ⟨⟨_, _, rfl⟩, hz, hm⟩
            · rintro σ' H25 ⟨⟨v14, v15, rfl⟩, hz, hm⟩
              refine ⟨.int 8, rfl, kn_int _, fun z => absurd z (by decide), fun n' e _ _ pa ya H26 sa npa hpa pra => ?_⟩
              cases (show 8 = n' from by injection e with e; omega)
              refine ⟨pa, _, rfl, .inl (SqL.of hpa), rfl, _, rfl, ?_⟩
              have hla := prLen pra
              rw [List.length_range] at hla
              have e256 : decide (V.int (ya.length : Nat) = V.int 256) = true := by rw [hla] <;> rfl
              rw [e256]
              refine iteT ⟨.int 1, rfl, kn_int _, fun z => absurd z (by decide), fun n' e _ _ pb yb H27 sb npb hpb prb => ?_⟩
              cases (show 1 = n' from by injection e with e; omega)
              refine ⟨(by show 0 ≤ sizeLine; decide), fun u1 nu1 => ⟨(by show 1 ≤ sizeLine; decide), fun u2 nu2 => ⟨(by show 2 ≤ sizeLine; decide), fun u3 nu3 => ?_⟩⟩⟩
              have g1 := same_upd (o := .tup []) nu1
              have g2 := same_upd (o := .tup [V.int 0]) nu2
              have g3 := same_upd (o := .lst [V.ref u1, .ref u2]) nu3
              have d1 : Dp K (upd (upd (upd H27 u1 (.tup [])) u2 (.tup [V.int 0])) u3 (.lst [V.ref u1, .ref u2])) (.ref pb) (.list ((List.range (2 ^ 1)).map lotD)) := dp_same (g1.trans (g2.trans g3)) (lots_dp hpb prb)
              have d2 : Dp K (upd (upd (upd H27 u1 (.tup [])) u2 (.tup [V.int 0])) u3 (.lst [V.ref u1, .ref u2])) (.ref u3) (.list ((List.range (2 ^ 1)).map lotD)) :=
                .lst (SqL.of upd_same) (.cons (.tup (.inl (.inl (g3 _ _ (g2 _ _ upd_same)))) .nil) (.cons (.tup (.inl (.inl (g3 _ _ upd_same))) (.cons (.int 0) .nil)) .nil))
              refine ⟨_, _, d1, d2, (fit_lots _).shaped (by decide), (fit_lots _).shaped (by decide), ?_⟩
              rw [eq_self ((fit_lots _).shaped (by decide))]
              exact q _
end
theorem all_mk {l : PySem.W.OpenLaw} {w : World} {K : PySem.W.Frag} {h : Heap} {mg : Str → Option Value} {fa ca_VoteError ca_BadNumber fa_BadNumber_init fa_is_integer fa_check_number fa_check_copies fa_check_copy fa_mask_of fa_lot_at fa_lot_of fa_others fa_all_lots fa_l_start fa_l_draw fa_l_code fa_l_lots fa_l_told fa_law : Addr} (X : K.In h) (G : h.Ns mainGlobals mg) (hfa : mg "law" = some (.ref fa))
    {od_BadNumber_init an_BadNumber_init : Option Addr} {sl_BadNumber_init : Array (Option Value)} {oc_BadNumber_init kV_BadNumber_init dc_BadNumber_init pm_BadNumber_init cd_BadNumber_init ct_BadNumber_init : Value}
    {od_is_integer an_is_integer : Option Addr} {sl_is_integer : Array (Option Value)} {oc_is_integer kV_is_integer dc_is_integer pm_is_integer cd_is_integer ct_is_integer : Value}
    {od_check_number an_check_number : Option Addr} {sl_check_number : Array (Option Value)} {oc_check_number kV_check_number dc_check_number pm_check_number cd_check_number ct_check_number : Value}
    {od_check_copies an_check_copies : Option Addr} {sl_check_copies : Array (Option Value)} {oc_check_copies kV_check_copies dc_check_copies pm_check_copies cd_check_copies ct_check_copies : Value}
    {od_check_copy an_check_copy : Option Addr} {sl_check_copy : Array (Option Value)} {oc_check_copy kV_check_copy dc_check_copy pm_check_copy cd_check_copy ct_check_copy : Value}
    {od_mask_of an_mask_of : Option Addr} {sl_mask_of : Array (Option Value)} {oc_mask_of kV_mask_of dc_mask_of pm_mask_of cd_mask_of ct_mask_of : Value}
    {od_lot_at an_lot_at : Option Addr} {sl_lot_at : Array (Option Value)} {oc_lot_at kV_lot_at dc_lot_at pm_lot_at cd_lot_at ct_lot_at : Value}
    {od_lot_of an_lot_of : Option Addr} {sl_lot_of : Array (Option Value)} {oc_lot_of kV_lot_of dc_lot_of pm_lot_of cd_lot_of ct_lot_of : Value}
    {od_others an_others : Option Addr} {sl_others : Array (Option Value)} {oc_others kV_others dc_others pm_others cd_others ct_others : Value}
    {od_all_lots an_all_lots : Option Addr} {sl_all_lots : Array (Option Value)} {oc_all_lots kV_all_lots dc_all_lots pm_all_lots cd_all_lots ct_all_lots : Value}
    {od_l_start an_l_start : Option Addr} {sl_l_start : Array (Option Value)} {oc_l_start kV_l_start dc_l_start pm_l_start cd_l_start ct_l_start : Value}
    {od_l_draw an_l_draw : Option Addr} {sl_l_draw : Array (Option Value)} {oc_l_draw kV_l_draw dc_l_draw pm_l_draw cd_l_draw ct_l_draw : Value}
    {od_l_code an_l_code : Option Addr} {sl_l_code : Array (Option Value)} {oc_l_code kV_l_code dc_l_code pm_l_code cd_l_code ct_l_code : Value}
    {od_l_lots an_l_lots : Option Addr} {sl_l_lots : Array (Option Value)} {oc_l_lots kV_l_lots dc_l_lots pm_l_lots cd_l_lots ct_l_lots : Value}
    {od_l_told an_l_told : Option Addr} {sl_l_told : Array (Option Value)} {oc_l_told kV_l_told dc_l_told pm_l_told cd_l_told ct_l_told : Value}
    {od_law an_law : Option Addr} {sl_law : Array (Option Value)} {oc_law kV_law dc_law pm_law cd_law ct_law : Value}
    {nm_BadNumber q_BadNumber : Str} {N_BadNumber : Addr} {bs_BadNumber bm_BadNumber : List Value} {sn_BadNumber : List Str} {sub_BadNumber : List Value} {ab_BadNumber : Bool} {col_BadNumber : Option Bool} {dd_BadNumber : Option Addr} {m0_BadNumber m1_BadNumber m2_BadNumber m3_BadNumber m5_BadNumber : Option Value}
    {gt_MOST_COPIES : Tok}
    (aC_VoteError : PySem.W.nsIn K mainGlobals "VoteError" = some (some (.ref ca_VoteError)))
    (aC_BadNumber : PySem.W.nsIn K mainGlobals "BadNumber" = some (some (.ref ca_BadNumber)))
    (a_BadNumber_init : PySem.W.findIn K (.ref ca_BadNumber) "__init__" = some (some (.ref fa_BadNumber_init)))
    (l_BadNumber_init : K.lookup fa_BadNumber_init = some ⟨oc_BadNumber_init, od_BadNumber_init, .func (PySem.W.fnOf "__init__" "BadNumber.__init__" (defArgs s_BadNumber_init) (defBody s_BadNumber_init) (defScope s_BadNumber_init) .none kV_BadNumber_init dc_BadNumber_init pm_BadNumber_init an_BadNumber_init cd_BadNumber_init ct_BadNumber_init), sl_BadNumber_init⟩)
    (cc_BadNumber_init : PySem.W.codeIn K cd_BadNumber_init "BadNumber.__init__" = true)
    (kk_BadNumber_init : PySem.W.keepIn K (.ref fa_BadNumber_init) = true)
    (a_is_integer : PySem.W.nsIn K mainGlobals "is_integer" = some (some (.ref fa_is_integer)))
    (l_is_integer : K.lookup fa_is_integer = some ⟨oc_is_integer, od_is_integer, .func (PySem.W.fnOf "is_integer" "is_integer" (defArgs s_is_integer) (defBody s_is_integer) (defScope s_is_integer) .none kV_is_integer dc_is_integer pm_is_integer an_is_integer cd_is_integer ct_is_integer), sl_is_integer⟩)
    (cc_is_integer : PySem.W.codeIn K cd_is_integer "is_integer" = true)
    (kk_is_integer : PySem.W.keepIn K (.ref fa_is_integer) = true)
    (a_check_number : PySem.W.nsIn K mainGlobals "check_number" = some (some (.ref fa_check_number)))
    (l_check_number : K.lookup fa_check_number = some ⟨oc_check_number, od_check_number, .func (PySem.W.fnOf "check_number" "check_number" (defArgs s_check_number) (defBody s_check_number) (defScope s_check_number) .none kV_check_number dc_check_number pm_check_number an_check_number cd_check_number ct_check_number), sl_check_number⟩)
    (cc_check_number : PySem.W.codeIn K cd_check_number "check_number" = true)
    (kk_check_number : PySem.W.keepIn K (.ref fa_check_number) = true)
    (a_check_copies : PySem.W.nsIn K mainGlobals "check_copies" = some (some (.ref fa_check_copies)))
    (l_check_copies : K.lookup fa_check_copies = some ⟨oc_check_copies, od_check_copies, .func (PySem.W.fnOf "check_copies" "check_copies" (defArgs s_check_copies) (defBody s_check_copies) (defScope s_check_copies) .none kV_check_copies dc_check_copies pm_check_copies an_check_copies cd_check_copies ct_check_copies), sl_check_copies⟩)
    (cc_check_copies : PySem.W.codeIn K cd_check_copies "check_copies" = true)
    (kk_check_copies : PySem.W.keepIn K (.ref fa_check_copies) = true)
    (a_check_copy : PySem.W.nsIn K mainGlobals "check_copy" = some (some (.ref fa_check_copy)))
    (l_check_copy : K.lookup fa_check_copy = some ⟨oc_check_copy, od_check_copy, .func (PySem.W.fnOf "check_copy" "check_copy" (defArgs s_check_copy) (defBody s_check_copy) (defScope s_check_copy) .none kV_check_copy dc_check_copy pm_check_copy an_check_copy cd_check_copy ct_check_copy), sl_check_copy⟩)
    (cc_check_copy : PySem.W.codeIn K cd_check_copy "check_copy" = true)
    (kk_check_copy : PySem.W.keepIn K (.ref fa_check_copy) = true)
    (a_mask_of : PySem.W.nsIn K mainGlobals "mask_of" = some (some (.ref fa_mask_of)))
    (l_mask_of : K.lookup fa_mask_of = some ⟨oc_mask_of, od_mask_of, .func (PySem.W.fnOf "mask_of" "mask_of" (defArgs s_mask_of) (defBody s_mask_of) (defScope s_mask_of) .none kV_mask_of dc_mask_of pm_mask_of an_mask_of cd_mask_of ct_mask_of), sl_mask_of⟩)
    (cc_mask_of : PySem.W.codeIn K cd_mask_of "mask_of" = true)
    (kk_mask_of : PySem.W.keepIn K (.ref fa_mask_of) = true)
    (a_lot_at : PySem.W.nsIn K mainGlobals "lot_at" = some (some (.ref fa_lot_at)))
    (l_lot_at : K.lookup fa_lot_at = some ⟨oc_lot_at, od_lot_at, .func (PySem.W.fnOf "lot_at" "lot_at" (defArgs s_lot_at) (defBody s_lot_at) (defScope s_lot_at) .none kV_lot_at dc_lot_at pm_lot_at an_lot_at cd_lot_at ct_lot_at), sl_lot_at⟩)
    (cc_lot_at : PySem.W.codeIn K cd_lot_at "lot_at" = true)
    (kk_lot_at : PySem.W.keepIn K (.ref fa_lot_at) = true)
    (a_lot_of : PySem.W.nsIn K mainGlobals "lot_of" = some (some (.ref fa_lot_of)))
    (l_lot_of : K.lookup fa_lot_of = some ⟨oc_lot_of, od_lot_of, .func (PySem.W.fnOf "lot_of" "lot_of" (defArgs s_lot_of) (defBody s_lot_of) (defScope s_lot_of) .none kV_lot_of dc_lot_of pm_lot_of an_lot_of cd_lot_of ct_lot_of), sl_lot_of⟩)
    (cc_lot_of : PySem.W.codeIn K cd_lot_of "lot_of" = true)
    (kk_lot_of : PySem.W.keepIn K (.ref fa_lot_of) = true)
    (a_others : PySem.W.nsIn K mainGlobals "others" = some (some (.ref fa_others)))
    (l_others : K.lookup fa_others = some ⟨oc_others, od_others, .func (PySem.W.fnOf "others" "others" (defArgs s_others) (defBody s_others) (defScope s_others) .none kV_others dc_others pm_others an_others cd_others ct_others), sl_others⟩)
    (cc_others : PySem.W.codeIn K cd_others "others" = true)
    (kk_others : PySem.W.keepIn K (.ref fa_others) = true)
    (a_all_lots : PySem.W.nsIn K mainGlobals "all_lots" = some (some (.ref fa_all_lots)))
    (l_all_lots : K.lookup fa_all_lots = some ⟨oc_all_lots, od_all_lots, .func (PySem.W.fnOf "all_lots" "all_lots" (defArgs s_all_lots) (defBody s_all_lots) (defScope s_all_lots) .none kV_all_lots dc_all_lots pm_all_lots an_all_lots cd_all_lots ct_all_lots), sl_all_lots⟩)
    (cc_all_lots : PySem.W.codeIn K cd_all_lots "all_lots" = true)
    (kk_all_lots : PySem.W.keepIn K (.ref fa_all_lots) = true)
    (a_l_start : PySem.W.nsIn K mainGlobals "_law_start" = some (some (.ref fa_l_start)))
    (l_l_start : K.lookup fa_l_start = some ⟨oc_l_start, od_l_start, .func (PySem.W.fnOf "_law_start" "_law_start" (defArgs s_l_start) (defBody s_l_start) (defScope s_l_start) .none kV_l_start dc_l_start pm_l_start an_l_start cd_l_start ct_l_start), sl_l_start⟩)
    (cc_l_start : PySem.W.codeIn K cd_l_start "_law_start" = true)
    (kk_l_start : PySem.W.keepIn K (.ref fa_l_start) = true)
    (a_l_draw : PySem.W.nsIn K mainGlobals "_law_draw" = some (some (.ref fa_l_draw)))
    (l_l_draw : K.lookup fa_l_draw = some ⟨oc_l_draw, od_l_draw, .func (PySem.W.fnOf "_law_draw" "_law_draw" (defArgs s_l_draw) (defBody s_l_draw) (defScope s_l_draw) .none kV_l_draw dc_l_draw pm_l_draw an_l_draw cd_l_draw ct_l_draw), sl_l_draw⟩)
    (cc_l_draw : PySem.W.codeIn K cd_l_draw "_law_draw" = true)
    (kk_l_draw : PySem.W.keepIn K (.ref fa_l_draw) = true)
    (a_l_code : PySem.W.nsIn K mainGlobals "_law_code" = some (some (.ref fa_l_code)))
    (l_l_code : K.lookup fa_l_code = some ⟨oc_l_code, od_l_code, .func (PySem.W.fnOf "_law_code" "_law_code" (defArgs s_l_code) (defBody s_l_code) (defScope s_l_code) .none kV_l_code dc_l_code pm_l_code an_l_code cd_l_code ct_l_code), sl_l_code⟩)
    (cc_l_code : PySem.W.codeIn K cd_l_code "_law_code" = true)
    (kk_l_code : PySem.W.keepIn K (.ref fa_l_code) = true)
    (a_l_lots : PySem.W.nsIn K mainGlobals "_law_lots" = some (some (.ref fa_l_lots)))
    (l_l_lots : K.lookup fa_l_lots = some ⟨oc_l_lots, od_l_lots, .func (PySem.W.fnOf "_law_lots" "_law_lots" (defArgs s_l_lots) (defBody s_l_lots) (defScope s_l_lots) .none kV_l_lots dc_l_lots pm_l_lots an_l_lots cd_l_lots ct_l_lots), sl_l_lots⟩)
    (cc_l_lots : PySem.W.codeIn K cd_l_lots "_law_lots" = true)
    (kk_l_lots : PySem.W.keepIn K (.ref fa_l_lots) = true)
    (a_l_told : PySem.W.nsIn K mainGlobals "_law_told" = some (some (.ref fa_l_told)))
    (l_l_told : K.lookup fa_l_told = some ⟨oc_l_told, od_l_told, .func (PySem.W.fnOf "_law_told" "_law_told" (defArgs s_l_told) (defBody s_l_told) (defScope s_l_told) .none kV_l_told dc_l_told pm_l_told an_l_told cd_l_told ct_l_told), sl_l_told⟩)
    (cc_l_told : PySem.W.codeIn K cd_l_told "_law_told" = true)
    (kk_l_told : PySem.W.keepIn K (.ref fa_l_told) = true)
    (a_law : PySem.W.nsIn K mainGlobals "law" = some (some (.ref fa_law)))
    (l_law : K.lookup fa_law = some ⟨oc_law, od_law, .func (PySem.W.fnOf "law" "law" (defArgs s_law) (defBody s_law) (defScope s_law) .none kV_law dc_law pm_law an_law cd_law ct_law), sl_law⟩)
    (cc_law : PySem.W.codeIn K cd_law "law" = true)
    (kk_law : PySem.W.keepIn K (.ref fa_law) = true)
    (xL_BadNumber : K.lookup ca_BadNumber = some (excClassObj nm_BadNumber q_BadNumber ca_BadNumber N_BadNumber bs_BadNumber bm_BadNumber true sn_BadNumber sub_BadNumber ab_BadNumber col_BadNumber dd_BadNumber m0_BadNumber m1_BadNumber m2_BadNumber m3_BadNumber m5_BadNumber "ValueError.__new__"))
    (bm_ok_BadNumber : PySem.HandSPX.refsVE bm_BadNumber = true)
    (sa_BadNumber : PySem.W.findIn K (.ref ca_BadNumber) "__setattr__" = some (some (.builtin "object.__setattr__")))
    (eC_BadNumber : PySem.W.subIn K (.ref ca_BadNumber) (.type "BaseException") = some true)
    (tC_BadNumber : PySem.W.typeIn K (.ref ca_BadNumber) = some (.type "type"))
    (kC_BadNumber : PySem.W.keepIn K (.ref ca_BadNumber) = true)
    (tI_BadNumber : PySem.W.typeIn K (.ref fa_BadNumber_init) = some (.type "function"))
    (ga_BadNumber : PySem.W.findIn K (.ref ca_BadNumber) "__getattribute__" = some (some (.builtin "BaseException.__getattribute__")))
    (gg_BadNumber : PySem.W.findIn K (.ref ca_BadNumber) "__getattr__" = some none)
    (hd_BadNumber : PySem.W.hasDictIn K ca_BadNumber = true)
    (ic_BadNumber : PySem.W.isClsIn K ca_BadNumber = true)
    (cc_BadNumber : PySem.W.findIn K (.ref ca_BadNumber) "__class__" = some (some (.builtin "object.__class__")))
    (cm_BadNumber : PySem.W.mroIn K ca_BadNumber (.type "object") = some true)
    (n_BadNumber_what : PySem.W.findIn K (.ref ca_BadNumber) "what" = some none)
    (n_BadNumber_value : PySem.W.findIn K (.ref ca_BadNumber) "value" = some none)
    (cn_ : PySem.W.specialIn K (.builtin "object.__class__") "__get__" = some (some (.builtin "getset_descriptor.__get__")))
    (ct_ : PySem.W.takesIn K (.builtin "object.__class__") = some true)
    (sb_BadNumber_BadNumber : PySem.W.subIn K (.ref ca_BadNumber) (.ref ca_BadNumber) = some true)
    (gk_MOST_COPIES : PySem.W.nsIn K mainGlobals "MOST_COPIES" = some (some (.int 8 gt_MOST_COPIES)))
    (mb_abs : PySem.W.nsIn K mainGlobals "abs" = some none)
    (mb_bool : PySem.W.nsIn K mainGlobals "bool" = some none)
    (mb_int : PySem.W.nsIn K mainGlobals "int" = some none)
    (mb_isinstance : PySem.W.nsIn K mainGlobals "isinstance" = some none)
    (mb_len : PySem.W.nsIn K mainGlobals "len" = some none)
    (mb_list : PySem.W.nsIn K mainGlobals "list" = some none)
    (mb_range : PySem.W.nsIn K mainGlobals "range" = some none)
    (mb_sum : PySem.W.nsIn K mainGlobals "sum" = some none)
    (mb_tuple : PySem.W.nsIn K mainGlobals "tuple" = some none) :
    ∃ fd : FuncData, (∀ (s : Shared) (v : Value), BindsTo s fd ⟨[v], []⟩ [("_law_script", v)]) ∧ ∀ base : Heap, K.In base → base.Ns mainGlobals mg → FnOk l.prog w K mg base CX0 9 fa fd ["_law_script"] (spLaw K) := by
  have e := hfa.symm.trans (PySem.W.mg_of X G a_law)
  cases e
  have FF_BadNumber_init := fun_mk (st := s_BadNumber_init) l_BadNumber_init cc_BadNumber_init kk_BadNumber_init
  have bb_BadNumber_init := FF_BadNumber_init.binds (ps := ["self", "what", "value"]) fun _ _ _ _ _ _ us hl => match us, hl with | [_, _, _], _ => rfl
  have FF_is_integer := fun_mk (st := s_is_integer) l_is_integer cc_is_integer kk_is_integer
  have bb_is_integer := FF_is_integer.binds (ps := ["value"]) fun _ _ _ _ _ _ us hl => match us, hl with | [_], _ => rfl
  have FF_check_number := fun_mk (st := s_check_number) l_check_number cc_check_number kk_check_number
  have bb_check_number := FF_check_number.binds (ps := ["what", "value", "low", "high"]) fun _ _ _ _ _ _ us hl => match us, hl with | [_, _, _, _], _ => rfl
  have FF_check_copies := fun_mk (st := s_check_copies) l_check_copies cc_check_copies kk_check_copies
  have bb_check_copies := FF_check_copies.binds (ps := ["copies"]) fun _ _ _ _ _ _ us hl => match us, hl with | [_], _ => rfl
  have FF_check_copy := fun_mk (st := s_check_copy) l_check_copy cc_check_copy kk_check_copy
  have bb_check_copy := FF_check_copy.binds (ps := ["copies", "copy"]) fun _ _ _ _ _ _ us hl => match us, hl with | [_, _], _ => rfl
  have FF_mask_of := fun_mk (st := s_mask_of) l_mask_of cc_mask_of kk_mask_of
  have bb_mask_of := FF_mask_of.binds (ps := ["copies", "numbers"]) fun _ _ _ _ _ _ us hl => match us, hl with | [_, _], _ => rfl
  have FF_lot_at := fun_mk (st := s_lot_at) l_lot_at cc_lot_at kk_lot_at
  have bb_lot_at := FF_lot_at.binds (ps := ["mask"]) fun _ _ _ _ _ _ us hl => match us, hl with | [_], _ => rfl
  have FF_lot_of := fun_mk (st := s_lot_of) l_lot_of cc_lot_of kk_lot_of
  have bb_lot_of := FF_lot_of.binds (ps := ["copies", "numbers"]) fun _ _ _ _ _ _ us hl => match us, hl with | [_, _], _ => rfl
  have FF_others := fun_mk (st := s_others) l_others cc_others kk_others
  have bb_others := FF_others.binds (ps := ["copies", "lot"]) fun _ _ _ _ _ _ us hl => match us, hl with | [_, _], _ => rfl
  have FF_all_lots := fun_mk (st := s_all_lots) l_all_lots cc_all_lots kk_all_lots
  have bb_all_lots := FF_all_lots.binds (ps := ["copies"]) fun _ _ _ _ _ _ us hl => match us, hl with | [_], _ => rfl
  have FF_l_start := fun_mk (st := s_l_start) l_l_start cc_l_start kk_l_start
  have bb_l_start := FF_l_start.binds (ps := ["_law_script"]) fun _ _ _ _ _ _ us hl => match us, hl with | [_], _ => rfl
  have FF_l_draw := fun_mk (st := s_l_draw) l_l_draw cc_l_draw kk_l_draw
  have bb_l_draw := FF_l_draw.binds (ps := ["_law_script", "_law_state", "_law_limit"]) fun _ _ _ _ _ _ us hl => match us, hl with | [_, _, _], _ => rfl
  have FF_l_code := fun_mk (st := s_l_code) l_l_code cc_l_code kk_l_code
  have bb_l_code := FF_l_code.binds (ps := ["_law_lot"]) fun _ _ _ _ _ _ us hl => match us, hl with | [_], _ => rfl
  have FF_l_lots := fun_mk (st := s_l_lots) l_l_lots cc_l_lots kk_l_lots
  have bb_l_lots := FF_l_lots.binds (ps := ["_law_copies"]) fun _ _ _ _ _ _ us hl => match us, hl with | [_], _ => rfl
  have FF_l_told := fun_mk (st := s_l_told) l_l_told cc_l_told kk_l_told
  have bb_l_told := FF_l_told.binds (ps := ["_law_kind", "_law_copies", "_law_numbers"]) fun _ _ _ _ _ _ us hl => match us, hl with | [_, _, _], _ => rfl
  have FF_law := fun_mk (st := s_law) l_law cc_law kk_law
  have bb_law := FF_law.binds (ps := ["_law_script"]) fun _ _ _ _ _ _ us hl => match us, hl with | [_], _ => rfl
  exact ⟨PySem.W.fnOf "law" "law" (defArgs s_law) (defBody s_law) (defScope s_law) .none kV_law dc_law pm_law an_law cd_law ct_law, fun s v => .of_eq rfl, fun base _ _ => ok_law (T := {
    c_VoteError := ca_VoteError,
    gc_VoteError := PySem.W.mg_of X G aC_VoteError,
    c_BadNumber := ca_BadNumber,
    gc_BadNumber := PySem.W.mg_of X G aC_BadNumber,
    f_BadNumber_init := fa_BadNumber_init,
    fd_BadNumber_init := _,
    F_BadNumber_init := FF_BadNumber_init,
    b_BadNumber_init := bb_BadNumber_init,
    f_is_integer := fa_is_integer,
    fd_is_integer := _,
    F_is_integer := FF_is_integer,
    b_is_integer := bb_is_integer,
    g_is_integer := PySem.W.mg_of X G a_is_integer,
    f_check_number := fa_check_number,
    fd_check_number := _,
    F_check_number := FF_check_number,
    b_check_number := bb_check_number,
    g_check_number := PySem.W.mg_of X G a_check_number,
    f_check_copies := fa_check_copies,
    fd_check_copies := _,
    F_check_copies := FF_check_copies,
    b_check_copies := bb_check_copies,
    g_check_copies := PySem.W.mg_of X G a_check_copies,
    f_check_copy := fa_check_copy,
    fd_check_copy := _,
    F_check_copy := FF_check_copy,
    b_check_copy := bb_check_copy,
    g_check_copy := PySem.W.mg_of X G a_check_copy,
    f_mask_of := fa_mask_of,
    fd_mask_of := _,
    F_mask_of := FF_mask_of,
    b_mask_of := bb_mask_of,
    g_mask_of := PySem.W.mg_of X G a_mask_of,
    f_lot_at := fa_lot_at,
    fd_lot_at := _,
    F_lot_at := FF_lot_at,
    b_lot_at := bb_lot_at,
    g_lot_at := PySem.W.mg_of X G a_lot_at,
    f_lot_of := fa_lot_of,
    fd_lot_of := _,
    F_lot_of := FF_lot_of,
    b_lot_of := bb_lot_of,
    g_lot_of := PySem.W.mg_of X G a_lot_of,
    f_others := fa_others,
    fd_others := _,
    F_others := FF_others,
    b_others := bb_others,
    g_others := PySem.W.mg_of X G a_others,
    f_all_lots := fa_all_lots,
    fd_all_lots := _,
    F_all_lots := FF_all_lots,
    b_all_lots := bb_all_lots,
    g_all_lots := PySem.W.mg_of X G a_all_lots,
    f_l_start := fa_l_start,
    fd_l_start := _,
    F_l_start := FF_l_start,
    b_l_start := bb_l_start,
    g_l_start := PySem.W.mg_of X G a_l_start,
    f_l_draw := fa_l_draw,
    fd_l_draw := _,
    F_l_draw := FF_l_draw,
    b_l_draw := bb_l_draw,
    g_l_draw := PySem.W.mg_of X G a_l_draw,
    f_l_code := fa_l_code,
    fd_l_code := _,
    F_l_code := FF_l_code,
    b_l_code := bb_l_code,
    g_l_code := PySem.W.mg_of X G a_l_code,
    f_l_lots := fa_l_lots,
    fd_l_lots := _,
    F_l_lots := FF_l_lots,
    b_l_lots := bb_l_lots,
    g_l_lots := PySem.W.mg_of X G a_l_lots,
    f_l_told := fa_l_told,
    fd_l_told := _,
    F_l_told := FF_l_told,
    b_l_told := bb_l_told,
    g_l_told := PySem.W.mg_of X G a_l_told,
    f_law := fa,
    fd_law := _,
    F_law := FF_law,
    b_law := bb_law,
    g_law := PySem.W.mg_of X G a_law,
    ox_BadNumber := ⟨⟨_, _, _, _, _, _, _, _, _, _, _, _, _, _, _, xL_BadNumber, bm_ok_BadNumber⟩, sa_BadNumber, eC_BadNumber, tC_BadNumber, kC_BadNumber⟩,
    xn_BadNumber := a_BadNumber_init,
    xt_BadNumber := tI_BadNumber,
    xf_BadNumber := ⟨ga_BadNumber, gg_BadNumber, eC_BadNumber, hd_BadNumber⟩,
    xi_BadNumber := ⟨ic_BadNumber, ga_BadNumber, gg_BadNumber, eC_BadNumber, cc_BadNumber, cn_, ct_, cm_BadNumber⟩,
    n_BadNumber_what := n_BadNumber_what,
    n_BadNumber_value := n_BadNumber_value,
    ex_BadNumber_BadNumber := exm_own eC_BadNumber ic_BadNumber tC_BadNumber sb_BadNumber_BadNumber,
    gt_MOST_COPIES := gt_MOST_COPIES,
    gk_MOST_COPIES := PySem.W.mg_of X G gk_MOST_COPIES,
    m_abs := PySem.W.mg_none_of X G mb_abs,
    m_bool := PySem.W.mg_none_of X G mb_bool,
    m_int := PySem.W.mg_none_of X G mb_int,
    m_isinstance := PySem.W.mg_none_of X G mb_isinstance,
    m_len := PySem.W.mg_none_of X G mb_len,
    m_list := PySem.W.mg_none_of X G mb_list,
    m_range := PySem.W.mg_none_of X G mb_range,
    m_sum := PySem.W.mg_none_of X G mb_sum,
    m_tuple := PySem.W.mg_none_of X G mb_tuple })⟩
theorem walk {l : PySem.W.OpenLaw} {q : Program} {loose : List Str} {XP : (Str → Option Value) → Heap → Prop} {YP : World → Heap → Prop} {d : DefRec} {K : Params → PySem.W.Frag} (hn : l.most = some 63) (hdf : d.params.defaults = [])
    (hY : ∀ (w : World) (h : Heap), YP w h → (K w.params).In h)
    (F : ∀ (w : World) (mg : Str → Option Value) (fa : Addr) (h : Heap), (K w.params).In h → h.Ns mainGlobals mg → mg d.name = some (.ref fa) →
      ∃ fd : FuncData, (∀ (s : Shared) (u : Value), BindsTo s fd ⟨[u], []⟩ [("_law_script", u)]) ∧ ∀ base : Heap, (K w.params).In base → base.Ns mainGlobals mg → FnOk l.prog w (K w.params) mg base CX0 9 fa fd ["_law_script"] (spLaw (K w.params))) :
    PySem.W.WalkO q loose XP YP l.row.toRowW d [] (fun f vs => PySem.call f vs) :=
  L2.walk_of (n := 63) (k := 9) (x := "_law_script") (CX := fun _ => CX0) (sp := fun w => spLaw (K w.params)) hn (by decide) hdf ⟨rfl, by decide, by decide⟩ hY F (fun _ _ a ns hl _ hS => ⟨a, ns, rfl, hS, hl, fun _ => rfl⟩) fun _ _ _ _ _ z => z
end Cv
open PySem PySem.W PyProof.Rows
set_option maxRecDepth 100000 in
set_option maxHeartbeats 0 in
theorem PySem.Challenge.cw_copyvotes_k07_lots_holds : PySem.Challenge.rw_copyvotes_k07_lots.Holds := by
  w_on; o_law; k_head; (case hw => w_witness2)
  k_fill
  refine Cv.walk (l := PySem.Challenge.rw_copyvotes_k07_lots) rfl rfl (fun w h Y => PySem.W.kIn_of Y) ?F
  case F =>
    intro w mg fa h KX G hmg
    refine' Cv.all_mk KX G hmg ?aC_VoteError ?aC_BadNumber ?a_BadNumber_init ?l_BadNumber_init ?cc_BadNumber_init ?kk_BadNumber_init ?a_is_integer ?l_is_integer ?cc_is_integer ?kk_is_integer ?a_check_number ?l_check_number ?cc_check_number ?kk_check_number ?a_check_copies ?l_check_copies ?cc_check_copies ?kk_check_copies ?a_check_copy ?l_check_copy ?cc_check_copy ?kk_check_copy ?a_mask_of ?l_mask_of ?cc_mask_of ?kk_mask_of ?a_lot_at ?l_lot_at ?cc_lot_at ?kk_lot_at ?a_lot_of ?l_lot_of ?cc_lot_of ?kk_lot_of ?a_others ?l_others ?cc_others ?kk_others ?a_all_lots ?l_all_lots ?cc_all_lots ?kk_all_lots ?a_l_start ?l_l_start ?cc_l_start ?kk_l_start ?a_l_draw ?l_l_draw ?cc_l_draw ?kk_l_draw ?a_l_code ?l_l_code ?cc_l_code ?kk_l_code ?a_l_lots ?l_l_lots ?cc_l_lots ?kk_l_lots ?a_l_told ?l_l_told ?cc_l_told ?kk_l_told ?a_law ?l_law ?cc_law ?kk_law ?xL_BadNumber ?bm_ok_BadNumber ?sa_BadNumber ?eC_BadNumber ?tC_BadNumber ?kC_BadNumber ?tI_BadNumber ?ga_BadNumber ?gg_BadNumber ?hd_BadNumber ?ic_BadNumber ?cc_BadNumber ?cm_BadNumber ?n_BadNumber_what ?n_BadNumber_value ?cn_ ?ct_ ?sb_BadNumber_BadNumber ?gk_MOST_COPIES ?mb_abs ?mb_bool ?mb_int ?mb_isinstance ?mb_len ?mb_list ?mb_range ?mb_sum ?mb_tuple
    (case aC_VoteError => k_is)
    (case aC_BadNumber => k_is)
    (case a_BadNumber_init => k_is)
    (case l_BadNumber_init => k_is)
    (case cc_BadNumber_init => k_is)
    (case kk_BadNumber_init => k_is)
    (case a_is_integer => k_is)
    (case l_is_integer => k_is)
    (case cc_is_integer => k_is)
    (case kk_is_integer => k_is)
    (case a_check_number => k_is)
    (case l_check_number => k_is)
    (case cc_check_number => k_is)
    (case kk_check_number => k_is)
    (case a_check_copies => k_is)
    (case l_check_copies => k_is)
    (case cc_check_copies => k_is)
    (case kk_check_copies => k_is)
    (case a_check_copy => k_is)
    (case l_check_copy => k_is)
    (case cc_check_copy => k_is)
    (case kk_check_copy => k_is)
    (case a_mask_of => k_is)
    (case l_mask_of => k_is)
    (case cc_mask_of => k_is)
    (case kk_mask_of => k_is)
    (case a_lot_at => k_is)
    (case l_lot_at => k_is)
    (case cc_lot_at => k_is)
    (case kk_lot_at => k_is)
    (case a_lot_of => k_is)
    (case l_lot_of => k_is)
    (case cc_lot_of => k_is)
    (case kk_lot_of => k_is)
    (case a_others => k_is)
    (case l_others => k_is)
    (case cc_others => k_is)
    (case kk_others => k_is)
    (case a_all_lots => k_is)
    (case l_all_lots => k_is)
    (case cc_all_lots => k_is)
    (case kk_all_lots => k_is)
    (case a_l_start => k_is)
    (case l_l_start => k_is)
    (case cc_l_start => k_is)
    (case kk_l_start => k_is)
    (case a_l_draw => k_is)
    (case l_l_draw => k_is)
    (case cc_l_draw => k_is)
    (case kk_l_draw => k_is)
    (case a_l_code => k_is)
    (case l_l_code => k_is)
    (case cc_l_code => k_is)
    (case kk_l_code => k_is)
    (case a_l_lots => k_is)
    (case l_l_lots => k_is)
    (case cc_l_lots => k_is)
    (case kk_l_lots => k_is)
    (case a_l_told => k_is)
    (case l_l_told => k_is)
    (case cc_l_told => k_is)
    (case kk_l_told => k_is)
    (case a_law => k_is)
    (case l_law => k_is)
    (case cc_law => k_is)
    (case kk_law => k_is)
    (case xL_BadNumber => k_is)
    (case bm_ok_BadNumber => decide +kernel)
    (case sa_BadNumber => k_is)
    (case eC_BadNumber => k_is)
    (case tC_BadNumber => k_is)
    (case kC_BadNumber => k_is)
    (case tI_BadNumber => k_is)
    (case ga_BadNumber => k_is)
    (case gg_BadNumber => k_is)
    (case hd_BadNumber => k_is)
    (case ic_BadNumber => k_is)
    (case cc_BadNumber => k_is)
    (case cm_BadNumber => k_is)
    (case n_BadNumber_what => k_is)
    (case n_BadNumber_value => k_is)
    (case cn_ => k_is)
    (case ct_ => k_is)
    (case sb_BadNumber_BadNumber => k_is)
    (case gk_MOST_COPIES => k_is)
    (case mb_abs => k_is)
    (case mb_bool => k_is)
    (case mb_int => k_is)
    (case mb_isinstance => k_is)
    (case mb_len => k_is)
    (case mb_list => k_is)
    (case mb_range => k_is)
    (case mb_sum => k_is)
    (case mb_tuple => k_is)

import PyProof.Rows.All
import Wide.All
import OpenK.AllK
import Wide.FinOn
import KE.RegKIsAll
import KE.KExcIs
import KE.KOpsOwn
import KE.KCallOwn
import KE.GoesEnum
import KE.GoesMore
import HandS.ForSpec
import HandS.ExcInit
import HandS.ExcField
import HandS.IsInst
import HandS.Style
import HandS.Evl
import HandS.OwnEq
import HandS.Wide
import HandS.Defaults
import HandS.Comp
import HandS.Conv
import HandS.Walk
import HandS.WideBits
import HandS.TupAny
import HandS.Zip
import HandS.Star
import HandS.SetFor
import HandS.ClsMeth
import HandS.TryOnly
import HandS.TryMany
import PySem.Challenge.RW_copyvotes_k31_votes_made
set_option Elab.async false
set_option linter.all false
set_option maxRecDepth 100000
set_option maxHeartbeats 4000000

namespace Cv
open PySem PySem.Spec PyProof.Rows L2
def topS (i : Nat) : Stmt := PySem.Challenge.pw_copyvotes_k31_votes_made.main.body.getD i (.Pass ⟨0, 0, 0, 0⟩)
abbrev s_BadNumber_init : Stmt := inClass (topS 3) 0
theorem sc_BadNumber_init : FnScope ["self", "what", "value"] ["self", "what", "value"] (defScope s_BadNumber_init) := ⟨rfl, rfl, rfl, by decide +kernel, rfl, by decide +kernel, by decide +kernel⟩
abbrev s_is_integer : Stmt := topS 5
theorem sc_is_integer : FnScope ["value"] ["value"] (defScope s_is_integer) := ⟨rfl, rfl, rfl, by decide +kernel, rfl, by decide +kernel, by decide +kernel⟩
abbrev s_check_number : Stmt := topS 6
theorem sc_check_number : FnScope ["what", "value", "low", "high"] ["what", "value", "low", "high"] (defScope s_check_number) := ⟨rfl, rfl, rfl, by decide +kernel, rfl, by decide +kernel, by decide +kernel⟩
abbrev s_check_copies : Stmt := topS 9
theorem sc_check_copies : FnScope ["copies"] ["copies"] (defScope s_check_copies) := ⟨rfl, rfl, rfl, by decide +kernel, rfl, by decide +kernel, by decide +kernel⟩
abbrev s_Votes_init : Stmt := inClass (topS 12) 0
theorem bs_Votes_init (kV doc pm : Value) (an : Option Addr) (cdv ct : Value) : ∀ us rest : List Value, us.length = (["self", "quota"] : List Str).length → bindArgs (PySem.W.fnOf "__init__" "Votes.__init__" (defArgs s_Votes_init) (defBody s_Votes_init) (defScope s_Votes_init) .none kV doc pm an cdv ct) ⟨us ++ rest, []⟩ = (newTuple rest >>= fun t => pure ((["self", "quota"] : List Str).zip us ++ [(("votes" : Str), t)])) := StX.bind_star2 (B := fun z => bindArgs (PySem.W.fnOf "__init__" "Votes.__init__" (defArgs s_Votes_init) (defBody s_Votes_init) (defScope s_Votes_init) .none kV doc pm an cdv ct) ⟨z, []⟩) (fun a b => rfl) (fun a b r rs => rfl)
theorem sc_Votes_init : FnScope ["self", "quota", "votes", "vote"] ["self", "quota", "votes"] (defScope s_Votes_init) := ⟨rfl, rfl, rfl, by decide +kernel, rfl, by decide +kernel, by decide +kernel⟩
abbrev s_Votes_eq : Stmt := inClass (topS 12) 1
theorem sc_Votes_eq : FnScope ["self", "other"] ["self", "other"] (defScope s_Votes_eq) := ⟨rfl, rfl, rfl, by decide +kernel, rfl, by decide +kernel, by decide +kernel⟩
abbrev s_l_start : Stmt := topS 14
theorem sc_l_start : FnScope ["_law_script", "_law_first"] ["_law_script"] (defScope s_l_start) := ⟨rfl, rfl, rfl, by decide +kernel, rfl, by decide +kernel, by decide +kernel⟩
abbrev s_l_draw : Stmt := topS 15
theorem sc_l_draw : FnScope ["_law_script", "_law_state", "_law_limit", "_law_number", "_law_cell", "_law_mixed"] ["_law_script", "_law_state", "_law_limit"] (defScope s_l_draw) := ⟨rfl, rfl, rfl, by decide +kernel, rfl, by decide +kernel, by decide +kernel⟩
abbrev s_l_made : Stmt := topS 16
theorem sc_l_made : FnScope ["_law_quota", "_law_row_here"] ["_law_quota", "_law_row_here"] (defScope s_l_made) := ⟨rfl, rfl, rfl, by decide +kernel, rfl, by decide +kernel, by decide +kernel⟩
abbrev s_l_told : Stmt := topS 17
theorem sc_l_told : FnScope ["_law_quota", "_law_row_here", "_law_made_here", "e"] ["_law_quota", "_law_row_here"] (defScope s_l_told) := ⟨rfl, rfl, rfl, by decide +kernel, rfl, by decide +kernel, by decide +kernel⟩
abbrev s_l_due : Stmt := topS 18
theorem sc_l_due : FnScope ["_law_quota", "_law_row_here", "_law_vote"] ["_law_quota", "_law_row_here"] (defScope s_l_due) := ⟨rfl, rfl, rfl, by decide +kernel, rfl, by decide +kernel, by decide +kernel⟩
abbrev s_l_nine_refused : Stmt := topS 19
theorem sc_l_nine_refused : FnScope ["e"] [] (defScope s_l_nine_refused) := ⟨rfl, rfl, rfl, by decide +kernel, rfl, by decide +kernel, by decide +kernel⟩
abbrev s_l_row : Stmt := topS 20
theorem sc_l_row : FnScope ["_law_script", "_law_state", "_law_row_here", "_law_k", "_law_odd"] ["_law_script", "_law_state"] (defScope s_l_row) := ⟨rfl, rfl, rfl, by decide +kernel, rfl, by decide +kernel, by decide +kernel⟩
abbrev s_law : Stmt := topS 21
theorem sc_law : FnScope ["_law_script", "_law_state", "_law_k", "_law_row_here", "_law_high", "_law_vote", "_law_quota", "_law_due_here", "_law_made_here"] ["_law_script"] (defScope s_law) := ⟨rfl, rfl, rfl, by decide +kernel, rfl, by decide +kernel, by decide +kernel⟩
/-! ## What every law's text wants: heaps, exceptions, the draws -/
theorem same_upd {H : Hp} {p : Addr} {o : HO} (h : H p = none) : Same H (upd H p o) := fun b x e => by
  rw [upd_ne (ne_of_none e h)]
  exact e
theorem same_upd2 {H H' : Hp} {p : Addr} {o : HO} (e : Same H H') (h : H p = none) : Same H (upd H' p o) := fun b x k => by
  rw [upd_ne (ne_of_none k h)]
  exact e b x k
/-- an except clause that names an own class -/
theorem exm_own {K : PySem.W.Frag} {cls : Value} {S : Addr} {b : Bool} (h1 : PySem.W.subIn K (.ref S) (.type "BaseException") = some true) (h2 : PySem.W.isClsIn K S = true) (h3 : PySem.W.typeIn K (.ref S) = some (.type "type")) (h4 : PySem.W.subIn K cls (.ref S) = some b) :
    PySem.W.exmOne K cls (.ref S) = some b := by
  have e1 : (PySem.W.subIn K (.ref S) (.type "BaseException") == some true) = true := by rw [h1] <;> rfl
  have e2 : ((PySem.W.clsIn K S).isSome && PySem.W.typeIn K (.ref S) == some (.type "type")) = true := by
    have h2' : (PySem.W.clsIn K S).isSome = true := h2
    rw [h2', h3] <;> rfl
  show (if (PySem.W.subIn K (.ref S) (.type "BaseException") == some true) = true then (if ((PySem.W.clsIn K S).isSome && PySem.W.typeIn K (.ref S) == some (.type "type")) = true then PySem.W.subIn K cls (.ref S) else none) else none) = some b
  rw [if_pos e1, if_pos e2]
  exact h4
/-- what isinstance asks of an own exception class -/
structure XiC (K : PySem.W.Frag) (C : Addr) : Prop where
  cl : PySem.W.isClsIn K C = true
  ga : PySem.W.findIn K (.ref C) "__getattribute__" = some (some (.builtin "BaseException.__getattribute__"))
  gg : PySem.W.findIn K (.ref C) "__getattr__" = some none
  sb : PySem.W.subIn K (.ref C) (.type "BaseException") = some true
  ha : PySem.W.findIn K (.ref C) "__class__" = some (some (.builtin "object.__class__"))
  hn : PySem.W.specialIn K (.builtin "object.__class__") "__get__" = some (some (.builtin "getset_descriptor.__get__"))
  ht : PySem.W.takesIn K (.builtin "object.__class__") = some true
  hm : PySem.W.mroIn K C (.type "object") = some true
/-- isinstance(e, c) within the suite that holds e, an error with its own dict -/
def rIsX (K : PySem.W.Frag) (a C : Addr) (cls : Value) (d : Option Addr) : List V → Hp → VK → Prop := fun xs H Q => ∃ (c : V) (cv : Value) (b : Bool) (dd : Addr) (fs : List (Str × V)), xs = [.ref a, c] ∧ cls = .ref C ∧ d = some dd ∧ H dd = some (.xd fs) ∧ ClsV c cv ∧ PySem.W.kitOne K (.ref C) cv = some b ∧ Q (.bl b) H
theorem call_isX {X : Cx} {a C : Addr} {oe : Obj} {cls : Value} {d : Option Addr} {pn : List (Addr × Obj)} (T : XiC X.K C) (hz : Zc cls d oe) (hf : ∃ vs, oe.data = .fields vs) : CallR (X.suite a ((a, oe) :: pn)) (.builtin "isinstance") (rIsX X.K a C cls d) := by
  intro pins s σ H xs us Q I r h
  obtain ⟨c, cv, b, dd, fs, rfl, rfl, rfl, ea, hcv, e, q⟩ := h
  obtain ⟨u1, u2, rfl, r1, r2⟩ := vals2 r
  cases (show u1 = Value.ref a from r1)
  have ec := hcv.eq r2
  subst ec
  obtain ⟨ha, _⟩ := I.pin (a, oe) (List.mem_append_left _ List.mem_cons_self)
  obtain ⟨vs, hd⟩ := hf
  have hx : ObjOk X.prog X.w H s.heap dd (.xd fs) := I.hok dd _ ea
  obtain ⟨mA, hns, hr⟩ := hx
  obtain ⟨od, ho, hl⟩ := lookIn_ns hns
  have J : PySem.W.InstAt s.heap a oe C (some od) := ⟨ha, hz.1, by unfold PySem.W.notCls; rw [hd] <;> rfl, by rw [hz.2]; exact ho⟩
  exact PySem.W.kia_one (PySem.W.kitx_exc T.cl T.ga T.gg T.sb T.ha T.hn T.ht T.hm) I.kIn J e (fun z => nomatch z) fun tk => ⟨.bl b, H, I.kept (t' := tk) fun _ _ z => z, rfl, q⟩
/-! ### the state of the draws -/
def St4 (H : Hp) (t : Addr) : Prop := ∃ a b c d : Int, H t = some (.lst [.int a, .int b, .int c, .int d])
/-- H0: the heap of old, t: the state's list, l: the script -/
structure Drw (K : PySem.W.Frag) (H0 : Hp) (l t : Addr) (H : Hp) : Prop where
  scr : ∃ ns : List Int, SqL K H0 l (ns.map V.int)
  new : H0 t = none
  same : Same H0 H
  st : St4 H t
theorem Drw.sc {K : PySem.W.Frag} {H0 H : Hp} {l t : Addr} (D : Drw K H0 l t H) : ∃ ns : List Int, SqL K H l (ns.map V.int) := by
  obtain ⟨ns, h⟩ := D.scr
  exact ⟨ns, D.same.seq h⟩
theorem Drw.upd {K : PySem.W.Frag} {H0 H : Hp} {l t : Addr} {a b c d : Int} (D : Drw K H0 l t H) : Drw K H0 l t (upd H t (.lst [.int a, .int b, .int c, .int d])) :=
  ⟨D.scr, D.new, same_upd2 D.same D.new, ⟨a, b, c, d, upd_same⟩⟩
theorem Drw.mono {K : PySem.W.Frag} {H0 H H' : Hp} {l t : Addr} (D : Drw K H0 l t H) (e : Same H H') : Drw K H0 l t H' := by
  obtain ⟨a, b, c, d, h⟩ := D.st
  exact ⟨D.scr, D.new, D.same.trans e, ⟨a, b, c, d, e _ _ h⟩⟩
/-- all but what stands at t -/
def But (t : Addr) (H H' : Hp) : Prop := ∀ b, b ≠ t → H' b = H b
theorem But.refl {t : Addr} {H : Hp} : But t H H := fun _ _ => rfl
theorem But.trans {t : Addr} {H H1 H2 : Hp} (a : But t H H1) (b : But t H1 H2) : But t H H2 := fun c h => (b c h).trans (a c h)
theorem But.upd {t : Addr} {H H1 : Hp} {o : HO} (a : But t H H1) : But t H (upd H1 t o) := fun c h => (upd_ne h).trans (a c h)
def spStart (K : PySem.W.Frag) : Sp := fun vs H Q _ => ∃ (l : Addr) (ns : List Int), vs = [.ref l] ∧ SqL K H l (ns.map V.int) ∧ ∀ t H', H t = none → Drw K H l t H' → But t H H' → Q (.ref t) H'
def spDraw (K : PySem.W.Frag) : Sp := fun vs H Q _ => ∃ (l t : Addr) (m : Int) (H0 : Hp), vs = [.ref l, .ref t, .int m] ∧ Drw K H0 l t H ∧ 0 < m ∧ m < 1073741824 ∧ ∀ (v : Int) H', 0 ≤ v → v < m → But t H H' → Drw K H0 l t H' → Q (.int v) H'
theorem at0 {a b c d : V} : atI [a, b, c, d] 0 = some a := rfl
theorem at1 {a b c d : V} : atI [a, b, c, d] 1 = some b := rfl
theorem at2 {a b c d : V} : atI [a, b, c, d] 2 = some c := rfl
theorem at3 {a b c d : V} : atI [a, b, c, d] 3 = some d := rfl
/-- the plain steps of a reading -/
local macro_rules | `(tactic| walk_at "rd") => `(tactic| repeat (first | refine ⟨_, rfl, ?_⟩ | refine ⟨_, _, rfl, rfl, ?_⟩ | refine ⟨⟨by decide, by decide⟩, ?_⟩ | refine ⟨⟨by decide, by decide, by decide⟩, ?_⟩ | refine ⟨show (0 : Int) < _ by decide, ?_⟩))
/-! ### data, errors, numbers -/
theorem Same.seqT {K : PySem.W.Frag} {H H' : Hp} {a : Addr} {xs : List V} (e : Same H H') (h : SqT K H a xs) : SqT K H' a xs := by
  rcases h with (h | ⟨o, h⟩) | h
  · exact .inl (.inl (e _ _ h))
  · exact .inl (.inr ⟨o, e _ _ h⟩)
  · exact .inr h
mutual
theorem dp_same {K : PySem.W.Frag} {H H' : Hp} (e : Same H H') : ∀ {v : V} {d : PyData}, Dp K H v d → Dp K H' v d
  | _, _, .non => .non
  | _, _, .bl b => .bl b
  | _, _, .int i => .int i
  | _, _, .str x => .str x
  | _, _, .lst h a => .lst (e.seq h) (dps_same e a)
  | _, _, .tup h a => .tup (Same.seqT e h) (dps_same e a)
theorem dps_same {K : PySem.W.Frag} {H H' : Hp} (e : Same H H') : ∀ {vs : List V} {ds : List PyData}, DpAll K H vs ds → DpAll K H' vs ds
  | _, _, .nil => .nil
  | _, _, .cons h a => .cons (dp_same e h) (dps_same e a)
end
theorem ne_self {d : PyData} (h : SeqAt.shaped d = true) : (!PyData.eqv d d) = false := by
  rw [SeqAt.eqv_refl d (SeqAt.canLay_of_shaped h)] <;> rfl
theorem eq_self {d : PyData} (h : SeqAt.shaped d = true) : PyData.eqv d d = true := SeqAt.eqv_refl d (SeqAt.canLay_of_shaped h)
/-- an error of two fields, being made -/
def spX2 (C : Addr) (f1 f2 : Str) : Sp := fun vs H Q _ => ∃ (a : Addr) (x y : V), vs = [.ref a, x, y] ∧ H a = some (exo a C none) ∧
  ∀ d, H d = none → d ≠ a → Q .non (upd (upd (upd H d (exd d [(f1, x)])) a (exo a C (some d))) d (exd d [(f2, y), (f1, x)]))
theorem mk2 {C : Addr} {f1 f2 : Str} {H1 : Hp} {x y : V} {Q : XK} (h : ∀ d H', H1 d = none → Same H1 H' → H' d = some (.xd [(f2, y), (f1, x)]) → Q (.ref C) (some d) H') :
    ([x, y] : List V).length ≤ 1000 ∧ ∀ a, H1 a = none → spX2 C f1 f2 (.ref a :: ([x, y] ++ [])) (upd H1 a (exo a C none)) (fun v H2 => v = .non ∧ ∃ (d : Addr) (fs : List (Str × V)), H2 a = some (exo a C (some d)) ∧ H2 d = some (exd d fs) ∧ H1 d = none ∧ Q (.ref C) (some d) (upd (del H2 a) d (.xd fs))) (fun _ _ _ => False) := by
  refine ⟨by show 2 ≤ 1000; decide, fun a ha => ⟨a, x, y, rfl, upd_same, fun d hd hda => ⟨rfl, d, _, ?_, upd_same, ?_, ?_⟩⟩⟩
  · rw [upd_ne (Ne.symm hda), upd_same]
  · rw [upd_ne hda] at hd
    exact hd
  · have hd1 : H1 d = none := by
      rw [upd_ne hda] at hd
      exact hd
    refine h d _ hd1 (fun b o e => ?_) upd_same
    have hba : b ≠ a := ne_of_none e ha
    have hbd : b ≠ d := ne_of_none e hd1
    rw [upd_ne hbd, del_ne hba, upd_ne hbd, upd_ne hba, upd_ne hbd, upd_ne hba]
    exact e
/-- what is an integer -/
def isInt : V → Bool
  | .int _ => true
  | _ => false
/-- a value that isinstance can ask -/
def Kn (K : PySem.W.Frag) (H : Hp) (x : V) : Prop := ∃ t b1 b2, TyX K H x t ∧ PySem.W.kitOne K t (.type "int") = some b1 ∧ (b1 = true → PySem.W.kitOne K t (.type "bool") = some b2) ∧ (b1 && !b2) = isInt x
theorem kn_int {K : PySem.W.Frag} {H : Hp} (i : Int) : Kn K H (.int i) := ⟨_, true, false, .base (.int i), kit_ty (by decide +kernel), fun _ => kit_ty (by decide +kernel), rfl⟩
theorem kn_bl {K : PySem.W.Frag} {H : Hp} (b : Bool) : Kn K H (.bl b) := ⟨_, true, true, .base (.bl b), kit_ty (by decide +kernel), fun _ => kit_ty (by decide +kernel), rfl⟩
theorem kn_non {K : PySem.W.Frag} {H : Hp} : Kn K H .non := ⟨_, false, false, .base .non, kit_ty (by decide +kernel), fun z => (nomatch z), rfl⟩
theorem kn_str {K : PySem.W.Frag} {H : Hp} (x : Str) : Kn K H (.str x) := ⟨_, false, false, .base (.str x), kit_ty (by decide +kernel), fun z => (nomatch z), rfl⟩
theorem kn_tup {K : PySem.W.Frag} {H : Hp} {a : Addr} {xs : List V} (e : H a = some (.tup xs)) : Kn K H (.ref a) := ⟨_, false, false, .base (.tup e), kit_ty (by decide +kernel), fun z => (nomatch z), rfl⟩
def spIsInt (K : PySem.W.Frag) : Sp := fun vs H Q _ => ∃ x, vs = [x] ∧ Kn K H x ∧ Q (.bl (isInt x)) H
def oV : Option Int → V
  | none => .non
  | some i => .int i
/-- within the bounds -/
def good (x : V) (lo hi : Option Int) : Bool := match x with
  | .int i => lo.all (fun l => decide (l ≤ i)) && hi.all (fun h => decide (i ≤ h))
  | _ => false
def spCheck (K : PySem.W.Frag) (C : Addr) : Sp := fun vs H Q E => ∃ (w : Str) (x : V) (lo hi : Option Int), vs = [.str w, x, oV lo, oV hi] ∧ Kn K H x ∧ (good x lo hi = true → Q x H) ∧
  (good x lo hi = false → ∀ d H', H d = none → Same H H' → H' d = some (.xd [("value", x), ("what", .str w)]) → E (.ref C) (some d) H')
/-- subscripts whose written part is named (within a comprehension) -/
theorem ixK_list {X : Cx} {K : PySem.W.Frag} (h : X.K = K) : IxR X (rIxL K) := h ▸ ix_list
theorem ixK_tup {X : Cx} {K : PySem.W.Frag} (h : X.K = K) : IxR X (rIxT K) := h ▸ ix_tup
/-- a field, the written part named (within a try) -/
theorem pe_fldK {X : Cx} {K : PySem.W.Frag} {e : Expr} {f : Str} {pos : Pos} {ta : TE} (h : X.K = K) (he : PE X e ta) (hb : attributeBase e f X.env (eval e X.env) = eval e X.env) : PE X (.Attribute e f pos) (tFld K ta f) := h ▸ pe_fld he hb
/-! ### own exceptions of one field, and of none -/
def spX1 (C : Addr) (f1 : Str) : Sp := fun vs H Q _ => ∃ (a : Addr) (x : V), vs = [.ref a, x] ∧ H a = some (exo a C none) ∧ ∀ d, H d = none → d ≠ a → Q .non (upd (upd H d (exd d [(f1, x)])) a (exo a C (some d)))
theorem mk1 {C : Addr} {f1 : Str} {H1 : Hp} {x : V} {Q : XK} (h : ∀ d H', H1 d = none → Same H1 H' → H' d = some (.xd [(f1, x)]) → Q (.ref C) (some d) H') :
    ([x] : List V).length ≤ 1000 ∧ ∀ a, H1 a = none → spX1 C f1 (.ref a :: ([x] ++ [])) (upd H1 a (exo a C none)) (fun v H2 => v = .non ∧ ∃ (d : Addr) (fs : List (Str × V)), H2 a = some (exo a C (some d)) ∧ H2 d = some (exd d fs) ∧ H1 d = none ∧ Q (.ref C) (some d) (upd (del H2 a) d (.xd fs))) (fun _ _ _ => False) := by
  refine ⟨by show 1 ≤ 1000; decide, fun a ha => ⟨a, x, rfl, upd_same, fun d hd hda => ⟨rfl, d, _, upd_same, (upd_ne hda).trans upd_same, ?_, ?_⟩⟩⟩
  · rw [upd_ne hda] at hd
    exact hd
  · have hd1 : H1 d = none := by
      rw [upd_ne hda] at hd
      exact hd
    refine h d _ hd1 (fun b o e => ?_) upd_same
    have hba : b ≠ a := ne_of_none e ha
    have hbd : b ≠ d := ne_of_none e hd1
    rw [upd_ne hbd, del_ne hba, upd_ne hba, upd_ne hbd, upd_ne hba]
    exact e
abbrev VEb : List Value := [.type "ValueError", .type "Exception", .type "BaseException", .type "object"]
/-- what the written part says of a class without an own __init__ -/
structure Ex0C (K : PySem.W.Frag) (C : Addr) : Prop where
  q : PySem.W.excIn K C VEb "ValueError.__new__" = true
  kC : PySem.W.keepIn K (.ref C) = true
  exC : PySem.W.subIn K (.ref C) (.type "BaseException") = some true
  tyC : PySem.W.typeIn K (.ref C) = some (.type "type")
/-- C() -/
theorem pmk_own0 {X : Cx} {C : Addr} {x : Str} {p pos : Pos} (T : Ex0C X.K C) (gC : X.mg x = some (.ref C)) (hg : Gl X x) (hdb : (x == ("__debug__" : Str)) = false := by decide) : PMk X (.Call (.Name x p) [] [] pos) (fun _ H Q => Q (.ref C) none H) := by
  intro pins s σ H Q I h
  refine wpAny_Call_Name_kw (ld_glob I hg gC ?_ hdb)
  refine PySem.W.callWith_K0 I.kIn T.kC ?_
  show wpAny _ _ (call (.ref C) []) _ _ _
  obtain ⟨bm, N, nm, qn, bs, hdct, sn, sub, ab, col, dd, k0, k1, k2, k3, k5, mN, hC, hN, hni, tail⟩ := exc_obj I.kIn T.q
  refine wpAny_call_exc_subT PySem.F.excBase_ValueError tail hC hN hni ?_ (Nat.zero_le _)
  intro h' e made
  exact mk_of I made (raises_own T.exC T.tyC) h (I.hok.gone made.new)
/-! ### operators of an own class: x op y, x op int, int op x, !=, str -/
section
variable {prog : Program} {w : World} {A : Around} {E : Value → Shared → Prop} {s : Shared} {K : PySem.W.Frag} {x C f : Addr} {ox : Obj} {od : Option Obj}
theorem bin_declines {nm : String} {g : Int → Int → Sem Fin} {n : Int} {t : Tok} {Q : Fin → Shared → Prop} {R : Value → Shared → Prop} (hs : slotArgs nm 1 ⟨[.int n t, .ref x], []⟩ = pure (.int n t, [.ref x]))
    (hx : s.heap.get? x = some ox) (hp : ∀ v, ox.data ≠ .prim v) (h : Q (.done (.ret .notImplemented)) s) :
    wpAny (model prog w) A (Builtin.Int.intBinary nm g false ⟨[.int n t, .ref x], []⟩) Q R s := by
  unfold Builtin.Int.intBinary
  refine wpAny_bind (wpAny_of_eq (a := ((Value.int n t, [Value.ref x]) : Value × List Value)) hs ?_)
  dsimp only
  unfold Builtin.Int.intOfSelf asInt?
  refine wpAny_bind (wpAny_bind (wpAny_pure ?_))
  dsimp only
  refine wpAny_pure (wpAny_bind ?_)
  show wpAny _ _ (load x >>= _) _ _ _
  refine wpAny_bind (wpAny_load hx ?_)
  have fin : wpAny (model prog w) A (do rule "int.binary.not-an-int"; ret Value.notImplemented) Q R s := wpAny_bind (wpAny_rule (wpAny_pure h))
  cases e : ox.data with
  | prim v => exact absurd e (hp v)
  | _ => exact wpAny_pure fin
/-- int's slot with an instance on the right declines -/
theorem int_try {name : Str} {id nm : String} {g : Int → Int → Sem Fin} {n : Int} {t : Tok} {Q : Value → Shared → Prop} (slot : Slot "int" name id) (entry : entryFor table id = some (Builtin.Int.intBinary nm g false)) (args : argsOk id ⟨[.int n t, .ref x], []⟩)
    (hs : slotArgs nm 1 ⟨[.int n t, .ref x], []⟩ = pure (.int n t, [.ref x])) (hx : s.heap.get? x = some ox) (hp : ∀ v, ox.data ≠ .prim v) (h : Q .notImplemented s) : wpAny (model prog w) A (call (.builtin id) [.int n t, .ref x]) Q E s :=
  GQ.call_here slot (typeIs_int s n t) entry args (bin_declines hs hx hp h)
theorem refl_bin {op : Operator} {id nm : String} {g : Int → Int → Sem Fin} {n : Int} {t : Tok} {fr : Addr} {cd : ClassData} {rest : List Value} {Q : Value → Shared → Prop} (X : K.In s.heap) (I : PySem.W.InstAt s.heap x ox C od)
    (slot : Slot "int" (PySem.dunder op.info.2) id) (entry : entryFor table id = some (Builtin.Int.intBinary nm g false)) (args : argsOk id ⟨[.int n t, .ref x], []⟩) (hs : slotArgs nm 1 ⟨[.int n t, .ref x], []⟩ = pure (.int n t, [.ref x])) (hp : ∀ v, ox.data ≠ .prim v)
    (hfI : fillsNumberSlot (.type "int") op.info.2 = pure true) (hcd : PySem.W.clsIn K C = some cd) (hm : cd.mro = .ref C :: rest) (hf : PySem.W.findIn K (.ref C) (PySem.dunder op.info.2) = some (some (.ref f))) (hsub : PySem.W.subIn K (.ref C) (.type "int") = some false)
    (hr : PySem.W.findIn K (.ref C) (dunderR op.info.2) = some (some (.ref fr))) (hfn : PySem.W.isFn K (.ref fr) = true) (h : wpAny (model prog w) A (call (.ref fr) [.ref x, .int n t]) (PySem.W.CmpBack Q) E s) :
    wpAny (model prog w) A (binaryOp op (.int n t) (.ref x)) Q E s := by
  rcases hi : op.info with ⟨sym, nm'⟩
  rw [hi] at slot hfI hf hr
  dsimp only at slot hfI hf hr
  simp only [binaryOp, hi]
  refine wpAny_holding (wpAny_bind ?_)
  unfold binaryOp1
  have hne : (Value.type "int" == Value.ref C) = false := Bool.eq_false_iff.mpr fun q => by cases beq_iff_eq.mp q
  refine wpAny_bind (wpAny_typeOf (typeIs_int s n t) (wpAny_bind (I.type.here (wpAny_bind (wpAny_of_eq hfI ?_)))))
  simp only [hne, Bool.false_eq_true, if_false]
  refine wpAny_bind ((PySem.W.fills_K X hcd hm hf).here ?_)
  simp only [Bool.and_self, if_true]
  refine wpAny_bind ((PySem.W.looks_subIn X hsub).here ?_)
  have hpy : numberSlotInPython (.type "int") nm' = pure false := rfl
  simp only [Bool.false_eq_true, if_false, pure_bind, Bool.not_false, Bool.and_self, if_true, hpy]
  refine wpAny_bind (wpAny_tryMethod_declines (typeIs_int s n t) slot (int_try slot entry args hs I.1 hp ⟨rfl, ?_⟩))
  refine wpAny_bind (wpAny_mono (PySem.W.ksp_try X I hr hfn h) (fun r s' z => ?_) fun _ _ e => e)
  obtain ⟨v, rfl, hq⟩ := z
  exact wpAny_bind (wpAny_rule (wpAny_pure (wpAny_pure hq)))
theorem cmp_try {name : Str} {b : Value} {Q : Value → Shared → Prop} (X : K.In s.heap) (I : PySem.W.InstAt s.heap x ox C od) (hs : PySem.W.findIn K (.ref C) name = some (some (.ref f))) (hf : PySem.W.isFn K (.ref f) = true)
    (h : wpAny (model prog w) A (call (.ref f) [.ref x, b]) (PySem.W.CmpBack Q) E s) : wpAny (model prog w) A (tryCompare (.ref x) name b) (fun r s' => ∃ v, r = some v ∧ Q v s') E s := by
  unfold tryCompare
  refine wpAny_bind (PySem.W.ifBound_K X I hs hf (wpAny_mono h (fun v s' hv => ?_) fun _ _ e => e))
  cases v <;> first | exact hv.elim | exact wpAny_pure ⟨_, rfl, hv⟩
theorem refl_cmp {op : CmpOp} {id nm : String} {g : Int → Int → Sem Fin} {n : Int} {t : Tok} {fr : Addr} {Q : Value → Shared → Prop} (hu : A.units < cLine) (X : K.In s.heap) (I : PySem.W.InstAt s.heap x ox C od)
    (slot : Slot "int" (cmpInfo op).2.1 id) (entry : entryFor table id = some (Builtin.Int.intBinary nm g false)) (args : argsOk id ⟨[.int n t, .ref x], []⟩) (hs : slotArgs nm 1 ⟨[.int n t, .ref x], []⟩ = pure (.int n t, [.ref x])) (hp : ∀ v, ox.data ≠ .prim v)
    (hot : oneThing? op (.int n t) (.ref x) = none) (hsub : PySem.W.subIn K (.ref C) (.type "int") = some false)
    (hr : PySem.W.findIn K (.ref C) (cmpInfo op).2.2 = some (some (.ref fr))) (hfn : PySem.W.isFn K (.ref fr) = true) (h : wpAny (model prog w) A (call (.ref fr) [.ref x, .int n t]) (PySem.W.CmpBack Q) E s) :
    wpAny (model prog w) A (richCompare op (.int n t) (.ref x)) Q E s := by
  unfold richCompare
  rw [hot]
  have hne : (Value.type "int" != Value.ref C) = true := by
    have q : (Value.type "int" == Value.ref C) = false := Bool.eq_false_iff.mpr fun q => by cases beq_iff_eq.mp q
    rw [bne, q] <;> rfl
  refine wpAny_holding (wpAny_bind (wpAny_cRoomFor hu ?_))
  dsimp only
  refine wpAny_bind (wpAny_typeOf (typeIs_int s n t) (wpAny_bind (I.type.here ?_)))
  rw [hne]
  simp only [if_true]
  refine wpAny_bind ((PySem.W.looks_subIn X hsub).here ?_)
  simp only [Bool.false_eq_true, if_false, Bool.not_false, if_true]
  have one : ∀ {Q' : Option Value → Shared → Prop}, Q' none s → wpAny (model prog w) A (tryCompare (.int n t) (cmpInfo op).2.1 (.ref x)) Q' E s := fun {Q'} q => by
    unfold tryCompare
    exact wpAny_bind (wpAny_callSpecialIfBound?_slot (typeIs_int s n t) slot (int_try slot entry args hs I.1 hp (wpAny_pure q)))
  refine wpAny_bind (one ?_)
  dsimp only
  refine wpAny_bind (wpAny_mono (cmp_try X I hr hfn h) (fun r s' z => ?_) fun _ _ e => e)
  obtain ⟨v, rfl, hq⟩ := z
  exact wpAny_pure hq
end
section
variable {prog : Program} {w : World} {A : Around} {E : Value → Shared → Prop} {s : Shared} {K : PySem.W.Frag} {x C f : Addr} {ox : Obj} {od : Option Obj}
/-- a special method that the class has from object -/
theorem ifBound_slot {M : Model} {name : Str} {id : String} {args : List Value} {Q : Option Value → Shared → Prop} (X : K.In s.heap) (I : PySem.W.InstAt s.heap x ox C od) (S : Slot "object" name id) (hs : PySem.W.findIn K (.ref C) name = some (some (.builtin id)))
    (h : wpAny M A (call (.builtin id) (.ref x :: args)) (fun v => Q (some v)) E s) : wpAny M A (callSpecialIfBound? (.ref x) name args) Q E s := by
  simp only [callSpecialIfBound?, bindSpecialIfBound?]
  refine wpAny_holding (wpAny_bind (wpAny_bind (wpAny_bind (I.type.here ((PySem.W.looks_findIn X hs).here ?_)))))
  simp only [S.bind]
  refine wpAny_bind (wpAny_askSetting (wpAny_ite ?_))
  have fin : wpAny M A (call (.builtin id) ([.ref x] ++ args) >>= fun v => pure (some v)) Q E s := wpAny_bind (wpAny_mono h (fun v s' z => wpAny_pure z) fun _ _ z => z)
  split
  · exact wpAny_bind (wpAny_pure (wpAny_pure fin))
  · exact wpAny_tryCatch (wpAny_bind (wpAny_pure (wpAny_pure fin)))
/-- x != b by the own == -/
theorem own_ne {b tb : Value} {Q : Value → Shared → Prop} (hu : A.units + 1 < cLine) (X : K.In s.heap) (I : PySem.W.InstAt s.heap x ox C od) (hb : PySem.W.Looks (model prog w) s.heap (typeOf b) tb) (hn : PySem.W.notFirst K C tb = true)
    (hne : PySem.W.findIn K (.ref C) "__ne__" = some (some (.builtin "object.__ne__"))) (hm : PySem.W.mroIn K C (.type "object") = some true) (heq : PySem.W.findIn K (.ref C) "__eq__" = some (some (.ref f))) (hf : PySem.W.isFn K (.ref f) = true)
    (h : wpAny (model prog w) A.in1 (call (.ref f) [.ref x, b]) (fun v s' => ∃ r, v = .bool r ∧ Q (.bool (!r)) s') E s) : wpAny (model prog w) A (richCompare .NotEq (.ref x) b) Q E s := by
  have S := PySem.F.cmp_object.ne
  have sub : PySem.W.Looks (model prog w) s.heap (isInstance (.ref x) (.type "object")) true := I.type.andThen (PySem.W.looks_mroIn X hm)
  have inner : wpAny (model prog w) A.in1 (Builtin.«object.__ne__» ⟨[.ref x, b], []⟩) (GQ.FinOf prog w A (wants (fun v s' => ∃ r, v = .bool r ∧ Q (.bool r) s') E)) (fun e s' => wants (fun v s' => ∃ r, v = .bool r ∧ Q (.bool r) s') E (.error e) s') s := by
    unfold Builtin.«object.__ne__»
    refine wpAny_bind (wpAny_of_eq (a := ((Value.ref x, [b]) : Value × List Value)) (by first | rfl | (simp only [slotArgs]; rfl)) ?_)
    dsimp only
    refine wpAny_bind (wpAny_cRoomFor (by show A.units + 1 < cLine; exact hu) ?_)
    refine wpAny_bind (PySem.W.ifBound_K X I heq hf (wpAny_mono h (fun v s' z => ?_) fun _ _ e => e))
    obtain ⟨r, rfl, q⟩ := z
    refine wpAny_bind (wpAny_truthy_bool ?_)
    exact wpAny_pure ⟨!r, rfl, q⟩
  have one : wpAny (model prog w) A (tryCompare (.ref x) "__ne__" b) (fun r s' => ∃ v, r = some (.bool v) ∧ Q (.bool v) s') E s := by
    unfold tryCompare
    have callne : wpAny (model prog w) A (call (.builtin "object.__ne__") [.ref x, b]) (fun v s' => ∃ r, v = .bool r ∧ Q (.bool r) s') E s :=
      wpAny_call (codeAny_call_builtin S.plain PySem.F.cmpEntry_ne (@PySem.W.check_slot (model prog w) _ _ s "object.__ne__" "object" "__ne__" (.ref x) [b] [] _ PySem.F.cmpKind_ne PySem.F.cmpSplit_ne sub (PySem.F.cmpArgs_ne _ _) inner))
    refine wpAny_bind (ifBound_slot X I S hne (wpAny_mono callne (fun v s' z => ?_) fun _ _ e => e))
    obtain ⟨r, rfl, q⟩ := z
    exact wpAny_pure ⟨r, rfl, q⟩
  unfold richCompare
  simp only [oneThing_ref]
  refine wpAny_holding (wpAny_bind (wpAny_cRoomFor (Nat.lt_of_succ_lt hu) ?_))
  refine wpAny_bind (I.type.here (wpAny_bind (hb.here ?_)))
  split
  · rename_i q
    have e : PySem.W.subIn K tb (.ref C) = some false := by
      rcases Bool.or_eq_true_iff.mp hn with e | e
      · rw [beq_iff_eq.mp e] at q; simp at q
      · exact beq_iff_eq.mp e
    refine wpAny_bind ((PySem.W.looks_subIn X e).here ?_)
    simp only [Bool.false_eq_true, if_false]
    refine wpAny_bind (wpAny_mono one (fun r s' z => ?_) fun _ _ e => e)
    obtain ⟨v, rfl, hq⟩ := z
    exact wpAny_pure hq
  · refine wpAny_bind (wpAny_pure ?_)
    simp only [Bool.false_eq_true, if_false]
    refine wpAny_bind (wpAny_mono one (fun r s' z => ?_) fun _ _ e => e)
    obtain ⟨v, rfl, hq⟩ := z
    exact wpAny_pure hq
end
/-! ### the same over the layer -/
section
variable {X : Cx} {CX : CXT} {k : Nat} {f C : Addr} {fd : FuncData} {ps : List Str} {sp : Sp} {E : XK} {pins : List (Addr × Obj)} {σ : L2.St} {H : Hp} {s : Shared}
/-- a def runs, at whatever depth -/
theorem run_deep {A : Around} {Q : VK} {us : List Value} {vs : List V} (F : FnOk X.prog X.w X.K X.mg X.base CX k f fd ps sp) (hr : Room k A) (e0 : Env0 X.prog X.w X.K X.mg X.base A X.stack s H) (hb : Binds X.K fd ps []) (hx : Passes CX X E)
    (I : Inv X pins σ H s) (r : Vals vs us) (h : sp vs H Q E) : wpAny (model X.prog X.w) A (call (.ref f) us) (EP X pins σ Q) X.xe s := by
  have hl : (us ++ []).length = ps.length := by rw [List.append_nil, ← r.length]; exact F.len _ _ _ _ h
  have hbind := hb s us I.kIn hl
  rw [List.append_nil] at hbind
  refine wpAny_call (codeAny_mono (F.run A X.stack s H ⟨us, []⟩ us vs Q E hr e0 hbind r h) fun r s' hq => ?_)
  cases r with
  | error e => exact hx pins σ H s e s' I hq
  | ok fl =>
    cases fl with
    | ret u => exact I.after hq
    | next => exact False.elim hq
    | brk => exact False.elim hq
    | cont => exact False.elim hq
theorem back_of {P : Value → Shared → Prop} {z : V} {v : Value} {s' : Shared} (r : RelV z v) (h : P v s') : PySem.W.CmpBack P v s' := by
  cases z with
  | non => cases (show v = Value.none from r); exact h
  | bl b => cases (show v = Value.bool b from r); exact h
  | ref a => cases (show v = Value.ref a from r); exact h
  | ty n => cases (show v = Value.type n from r); exact h
  | int i => obtain ⟨t, e⟩ := (show ∃ t, v = Value.int i t from r); cases e; exact h
  | str x => obtain ⟨t, e⟩ := (show ∃ t, v = Value.str x t from r); cases e; exact h
  | byt b => obtain ⟨t, e⟩ := (show ∃ t, v = Value.bytes b t from r); cases e; exact h
  | flt b => obtain ⟨t, e⟩ := (show ∃ t, v = Value.float b t from r); cases e; exact h
theorem inst_of (I : Inv X pins σ H s) {a dx : Addr} {fs : List (Str × V)} (h : H a = some (.ins C dx fs)) : ∃ od, PySem.W.InstAt s.heap a (PySem.W.instObj C dx) C (some od) := by
  obtain ⟨mA, J, _⟩ := ins_get I.hok h
  obtain ⟨od, J, _⟩ := J.look
  exact ⟨od, J⟩
/-- an instance of the class at C -/
def IsC (C : Addr) (H : Hp) (y : V) : Prop := ∃ a dx fs, y = .ref a ∧ H a = some (.ins C dx fs)
/-- what the operators ask of the class -/
structure OpC (K : PySem.W.Frag) (C : Addr) : Prop where
  first : PySem.W.selfFirst K C = true
  cls : ∃ cd rest, PySem.W.clsIn K C = some cd ∧ cd.mro = .ref C :: rest
  noInt : PySem.W.subIn K (.ref C) (.type "int") = some false
  intNo : PySem.W.subIn K (.type "int") (.ref C) = some false
  ne : PySem.W.findIn K (.ref C) "__ne__" = some (some (.builtin "object.__ne__"))
  ob : PySem.W.mroIn K C (.type "object") = some true
/-- x op y, both of C -/
def rOwnB (C : Addr) (sp : Sp) (E : XK) : R2 := fun x y H Q => IsC C H x ∧ IsC C H y ∧ sp [x, y] H Q E
theorem op_ownB {op : Operator} (T : OpC X.K C) (hs : PySem.W.findIn X.K (.ref C) (PySem.dunder op.info.2) = some (some (.ref f))) (hf : PySem.W.isFn X.K (.ref f) = true) (F : FnOk X.prog X.w X.K X.mg X.base CX k f fd ps sp) (hr : Room k X.A) (hb : Binds X.K fd ps []) (hx : Passes CX X E) :
    OpR X (binaryOp op) (rOwnB C sp E) := by
  intro pins s σ H x y v u Q I rx ry h
  obtain ⟨⟨a, dx, fs, rfl, ha⟩, ⟨b, dy, gs, rfl, hb'⟩, q⟩ := h
  cases (show v = Value.ref a from rx)
  cases (show u = Value.ref b from ry)
  obtain ⟨oa, J⟩ := inst_of I ha
  obtain ⟨ob, J'⟩ := inst_of I hb'
  obtain ⟨m, hF⟩ := I.fr
  refine PySem.W.binop_K hF I.ok.mod.kin J J'.type T.first hs hf (wpAny_mono (run_deep (vs := [.ref a, .ref b]) F hr I.env0 hb hx I (.cons rfl (.cons rfl .nil)) q) (fun w s' z => ?_) fun _ _ x => x)
  obtain ⟨z', H', I', rz, qz⟩ := z
  exact back_of rz ⟨z', H', I', rz, qz⟩
/-- x op n, n an int -/
def rOwnI (C : Addr) (sp : Sp) (E : XK) : R2 := fun x y H Q => IsC C H x ∧ (∃ n, y = .int n) ∧ sp [x, y] H Q E
theorem op_ownI {op : Operator} {fo ro rc : Option Value} (T : OpC X.K C) (hs : PySem.W.findIn X.K (.ref C) (PySem.dunder op.info.2) = some (some (.ref f))) (hf : PySem.W.isFn X.K (.ref f) = true) (hr' : PySem.W.findIn X.K (.ref C) (dunderR op.info.2) = some rc) (hp : rc = none ∨ ∃ g : Addr, rc = some (.ref g))
    (h1 : PySem.W.findIn X.K (.type "int") (PySem.dunder op.info.2) = some fo) (h2 : PySem.W.findIn X.K (.type "int") (dunderR op.info.2) = some ro)
    (F : FnOk X.prog X.w X.K X.mg X.base CX k f fd ps sp) (hr : Room k X.A) (hb : Binds X.K fd ps []) (hx : Passes CX X E) : OpR X (binaryOp op) (rOwnI C sp E) := by
  intro pins s σ H x y v u Q I rx ry h
  obtain ⟨⟨a, dx, fs, rfl, ha⟩, ⟨n, rfl⟩, q⟩ := h
  cases (show v = Value.ref a from rx)
  obtain ⟨t, rfl⟩ := (show ∃ t, u = Value.int n t from ry)
  obtain ⟨oa, J⟩ := inst_of I ha
  obtain ⟨m, hF⟩ := I.fr
  refine PySem.W.ksp_binT (T := "int") hF I.ok.mod.kin J rfl T.first hs hf hr' hp h1 h2 T.intNo (wpAny_mono (run_deep (vs := [.ref a, .int n]) F hr I.env0 hb hx I (.cons rfl (.cons ⟨t, rfl⟩ .nil)) q) (fun w s' z => ?_) fun _ _ x => x)
  obtain ⟨z', H', I', rz, qz⟩ := z
  exact back_of rz ⟨z', H', I', rz, qz⟩
/-- n op x, n an int: the reflected method -/
def rOwnR (C : Addr) (sp : Sp) (E : XK) : R2 := fun x y H Q => (∃ n, x = .int n) ∧ IsC C H y ∧ sp [y, x] H Q E
theorem op_ownR {op : Operator} {id nm : String} {g : Int → Int → Sem Fin} {fl : Addr} (T : OpC X.K C) (slot : Slot "int" (PySem.dunder op.info.2) id) (entry : entryFor table id = some (Builtin.Int.intBinary nm g false)) (args : ∀ a b : Value, argsOk id ⟨[a, b], []⟩)
    (hsl : ∀ (n : Int) (t : Tok) (x : Addr), slotArgs nm 1 ⟨[.int n t, .ref x], []⟩ = pure (.int n t, [.ref x])) (hfI : fillsNumberSlot (.type "int") op.info.2 = pure true) (hl : PySem.W.findIn X.K (.ref C) (PySem.dunder op.info.2) = some (some (.ref fl)))
    (hs : PySem.W.findIn X.K (.ref C) (dunderR op.info.2) = some (some (.ref f))) (hf : PySem.W.isFn X.K (.ref f) = true)
    (F : FnOk X.prog X.w X.K X.mg X.base CX k f fd ps sp) (hr : Room k X.A) (hb : Binds X.K fd ps []) (hx : Passes CX X E) : OpR X (binaryOp op) (rOwnR C sp E) := by
  intro pins s σ H x y v u Q I rx ry h
  obtain ⟨⟨n, rfl⟩, ⟨a, dx, fs, rfl, ha⟩, q⟩ := h
  cases (show u = Value.ref a from ry)
  obtain ⟨t, rfl⟩ := (show ∃ t, v = Value.int n t from rx)
  obtain ⟨oa, J⟩ := inst_of I ha
  obtain ⟨cd, rest, hcd, hm⟩ := T.cls
  refine refl_bin I.kIn J slot entry (args _ _) (hsl n t a) (fun v z => nomatch z) hfI hcd hm hl T.noInt hs hf (wpAny_mono (run_deep (vs := [.ref a, .int n]) F hr I.env0 hb hx I (.cons rfl (.cons ⟨t, rfl⟩ .nil)) q) (fun w s' z => ?_) fun _ _ x => x)
  obtain ⟨z', H', I', rz, qz⟩ := z
  exact back_of rz ⟨z', H', I', rz, qz⟩
/-- x op y by the own comparison, y of a known type -/
def rOwnC (K : PySem.W.Frag) (C : Addr) (sp : Sp) (E : XK) : R2 := fun x y H Q => IsC C H x ∧ (∃ t, TyX K H y t ∧ PySem.W.notFirst K C t = true) ∧ sp [x, y] H Q E
theorem op_ownC {op : CmpOp} (hop : ∀ a b, compareOp op a b = richCompare op a b) (hs : PySem.W.findIn X.K (.ref C) (cmpInfo op).2.1 = some (some (.ref f))) (hf : PySem.W.isFn X.K (.ref f) = true)
    (F : FnOk X.prog X.w X.K X.mg X.base CX k f fd ps sp) (hr : Room k X.A) (hb : Binds X.K fd ps []) (hx : Passes CX X E) : OpR X (compareOp op) (rOwnC X.K C sp E) := by
  intro pins s σ H x y v u Q I rx ry h
  obtain ⟨⟨a, dx, fs, rfl, ha⟩, ⟨ty, hty, hn⟩, q⟩ := h
  cases (show v = Value.ref a from rx)
  obtain ⟨oa, J⟩ := inst_of I ha
  obtain ⟨m, hF⟩ := I.fr
  obtain ⟨Pk, Z, p, _⟩ := kit_of I ry hty
  rw [hop]
  refine PySem.W.cmp_K (op := op) hr.units0 hF I.ok.mod.kin J (Z.ty _ _ I.kIn p) hn hs hf (wpAny_mono (run_deep (vs := [.ref a, y]) F hr I.env0 hb hx I (.cons rfl (.cons ry .nil)) q) (fun w s' z => ?_) fun _ _ x => x)
  obtain ⟨z', H', I', rz, qz⟩ := z
  exact back_of rz ⟨z', H', I', rz, qz⟩
/-- n op x, n an int: the mirrored comparison -/
theorem op_ownM {op : CmpOp} {id nm : String} {g : Int → Int → Sem Fin} (hop : ∀ a b, compareOp op a b = richCompare op a b) (T : OpC X.K C) (slot : Slot "int" (cmpInfo op).2.1 id) (entry : entryFor table id = some (Builtin.Int.intBinary nm g false)) (args : ∀ a b : Value, argsOk id ⟨[a, b], []⟩)
    (hsl : ∀ (n : Int) (t : Tok) (x : Addr), slotArgs nm 1 ⟨[.int n t, .ref x], []⟩ = pure (.int n t, [.ref x])) (hot : ∀ (n : Int) (t : Tok) (x : Addr), oneThing? op (.int n t) (.ref x) = none)
    (hs : PySem.W.findIn X.K (.ref C) (cmpInfo op).2.2 = some (some (.ref f))) (hf : PySem.W.isFn X.K (.ref f) = true)
    (F : FnOk X.prog X.w X.K X.mg X.base CX k f fd ps sp) (hr : Room k X.A) (hb : Binds X.K fd ps []) (hx : Passes CX X E) : OpR X (compareOp op) (rOwnR C sp E) := by
  intro pins s σ H x y v u Q I rx ry h
  obtain ⟨⟨n, rfl⟩, ⟨a, dx, fs, rfl, ha⟩, q⟩ := h
  cases (show u = Value.ref a from ry)
  obtain ⟨t, rfl⟩ := (show ∃ t, v = Value.int n t from rx)
  obtain ⟨oa, J⟩ := inst_of I ha
  rw [hop]
  refine refl_cmp hr.units0 I.kIn J slot entry (args _ _) (hsl n t a) (fun v z => nomatch z) (hot n t a) T.noInt hs hf (wpAny_mono (run_deep (vs := [.ref a, .int n]) F hr I.env0 hb hx I (.cons rfl (.cons ⟨t, rfl⟩ .nil)) q) (fun w s' z => ?_) fun _ _ x => x)
  obtain ⟨z', H', I', rz, qz⟩ := z
  exact back_of rz ⟨z', H', I', rz, qz⟩
/-- x != y by the own == -/
def rOwnNe (K : PySem.W.Frag) (C : Addr) (sp : Sp) (E : XK) : R2 := fun x y H Q => IsC C H x ∧ (∃ t, TyX K H y t ∧ PySem.W.notFirst K C t = true) ∧ sp [x, y] H (fun z H' => ∃ r, z = .bl r ∧ Q (.bl (!r)) H') E
theorem op_ownNe (T : OpC X.K C) (hs : PySem.W.findIn X.K (.ref C) "__eq__" = some (some (.ref f))) (hf : PySem.W.isFn X.K (.ref f) = true)
    (F : FnOk X.prog X.w X.K X.mg X.base CX k f fd ps sp) (hr : Room (k + 1) X.A) (hb : Binds X.K fd ps []) (hx : Passes CX X E) : OpR X (compareOp .NotEq) (rOwnNe X.K C sp E) := by
  intro pins s σ H x y v u Q I rx ry h
  obtain ⟨⟨a, dx, fs, rfl, ha⟩, ⟨ty, hty, hn⟩, q⟩ := h
  cases (show v = Value.ref a from rx)
  obtain ⟨oa, J⟩ := inst_of I ha
  obtain ⟨Pk, Z, p, _⟩ := kit_of I ry hty
  show wpAny _ _ (richCompare .NotEq (.ref a) u) _ _ _
  refine own_ne (by have := hr.units; omega) I.kIn J (Z.ty _ _ I.kIn p) hn T.ne T.ob hs hf (wpAny_mono (run_deep (vs := [.ref a, y]) F (Room.in1 hr) I.env0.in1 hb hx I (.cons rfl (.cons ry .nil)) q) (fun w s' z => ?_) fun _ _ x => x)
  obtain ⟨z', H', I', rz, r, rfl, qz⟩ := z
  cases (show w = Value.bool r from rz)
  exact ⟨r, rfl, .bl (!r), H', I', rfl, qz⟩
end
theorem notFirst_of {K : PySem.W.Frag} {C : Addr} {t : Value} (h : PySem.W.subIn K t (.ref C) = some false) : PySem.W.notFirst K C t = true := by simp [PySem.W.notFirst, h]
/-! ### instances of an own class; exceptions that pass -/
structure InsC (K : PySem.W.Frag) (C : Addr) : Prop where
  cl : Cls K C
  ha : PySem.W.findIn K (.ref C) "__class__" = some (some (.builtin "object.__class__"))
  hn : PySem.W.specialIn K (.builtin "object.__class__") "__get__" = some (some (.builtin "getset_descriptor.__get__"))
  ht : PySem.W.takesIn K (.builtin "object.__class__") = some true
  hm : PySem.W.mroIn K C (.type "object") = some true
theorem InsC.ty {K : PySem.W.Frag} {C : Addr} (T : InsC K C) {H : Hp} {a dx : Addr} {fs : List (Str × V)} (e : H a = some (.ins C dx fs)) : TyX K H (.ref a) (.ref C) := .base (.ins e T.cl T.ha T.hn T.ht T.hm)
theorem passLen {X : Cx} {W : WX} (tk : Takes X W) : Passes (L2.CX X.prog X.w) X (fun cls d H => ∀ σ : L2.St, σ.length = X.N.length → W cls d σ H) := fun _ σ _ _ e s' I c => tk e s' (XE.of_call I (fun _ _ _ h => h σ I.len) c)
theorem passLenN {X : Cx} {W : WX} {n : Nat} (tk : Takes X W) (hn : X.N.length = n) : Passes (L2.CX X.prog X.w) X (fun cls d H => ∀ σ : L2.St, σ.length = n → W cls d σ H) := fun _ σ _ _ e s' I c => tk e s' (XE.of_call I (fun _ _ _ h => h σ (I.len.trans hn)) c)
/-! ### lists and tuples: walks, comprehensions -/
/-- a list or a tuple -/
def iSeq (K : PySem.W.Frag) (tl : TE) : TI := fun σ H R => tl σ H fun x H1 => ∃ a, x = .ref a ∧ (((∃ xs, SqL K H1 a xs) ∧ R (Itl K a) H1) ∨ ((∃ xs, SqT K H1 a xs) ∧ R (Itt K a) H1))
theorem pi_seq {X : Cx} {tg l : Expr} {tl : TE} (hl : PE X l tl) : PI X tg l (iSeq X.K tl) := by
  constructor
  intro pins s σ H R I h
  refine thn (hl.run pins s σ H _ I h) fun v t ⟨x, Hb, J, rx, a, ex, k⟩ => ?_
  subst ex
  cases rx
  rcases k with ⟨⟨xs, hq⟩, k⟩ | ⟨⟨xs, hq⟩, k⟩
  · obtain ⟨its, -, plc, -⟩ := J.list hq
    refine wpAny_pyIter_list plc.isList ⟨t.heap.objs.size, [t.heap.objs.size], _, _, Hb, rfl, J.kept (t' := t.toks) (fun _ _ e => Heap.get?_push_of_some _ e), turn_list a _, ⟨_, Heap.get?_push_size _ rfl, rfl, rfl⟩, ?_, k⟩
    intro b hb
    obtain rfl : b = t.heap.objs.size := by simpa using hb
    exact J.fpOk (Nat.le_refl _) (J.hok.fresh (Nat.le_refl _))
  · obtain ⟨its, -, plc, -⟩ := J.tuple hq
    refine wpAny_pyIter_tuple (show t.heap.IsTuple a its.toArray from plc) ⟨t.heap.objs.size, [t.heap.objs.size], _, _, Hb, rfl, J.kept (t' := t.toks) (fun _ _ e => Heap.get?_push_of_some _ e), turn_tuple a _, ⟨_, Heap.get?_push_size _ rfl, rfl, rfl⟩, ?_, k⟩
    intro b hb
    obtain rfl : b = t.heap.objs.size := by simpa using hb
    exact J.fpOk (Nat.le_refl _) (J.hok.fresh (Nat.le_refl _))
def rListOf (K : PySem.W.Frag) : List V → Hp → VK → Prop := fun xs H Q => ∃ p ys, xs = [.ref p] ∧ (SqL K H p ys ∨ SqT K H p ys) ∧ ∀ l, H l = none → Q (.ref l) (upd H l (.lst ys))
def rTupOf (K : PySem.W.Frag) : List V → Hp → VK → Prop := fun xs H Q => ∃ p ys, xs = [.ref p] ∧ ((SqL K H p ys ∧ ∀ l, H l = none → Q (.ref l) (upd H l (.tup ys))) ∨ (SqT K H p ys ∧ Q (.ref p) H))
/-! rules whose written part is named (within a comprehension) -/
theorem opK {X : Cx} {K : PySem.W.Frag} {f : Value → Value → Sem Value} (h : X.K = K) (r : PySem.W.Frag → R2) (o : OpR X f (r X.K)) : OpR X f (r K) := h ▸ o
theorem crK {X : Cx} {K : PySem.W.Frag} {f : Value} (h : X.K = K) (r : PySem.W.Frag → List V → Hp → VK → Prop) (o : CallR X f (r X.K)) : CallR X f (r K) := h ▸ o
theorem slK {X : Cx} {K : PySem.W.Frag} (h : X.K = K) (r : PySem.W.Frag → V → Option Int → Option Int → Hp → VK → Prop) (o : SlR X (r X.K)) : SlR X (r K) := h ▸ o
/-- a number as a test -/
def tInt (ta : TE) : TT := fun σ H Q => ta σ H fun x H' => ∃ i, x = .int i ∧ Q (i != 0) H'
theorem pt_int {X : Cx} {a : Expr} {ta : TE} (ha : PE X a ta) (he : ∀ whole, isTrue a X.env whole = (do let v ← whole; standAt a.pos; holding [v] (truthy v)) := by intro _; rfl) : PT X a (tInt ta) := by
  constructor
  intro pins s σ H Q I h
  refine isTrue_plain (thn (ha.run pins s σ H _ I h) fun v t ⟨x, Hb, J, rx, i, ex, k⟩ => ?_) (he _)
  subst ex
  exact tru_ok pins t σ Hb (.int i) v Q J rx ⟨_, rfl, k⟩
/-- the answer of a sign, by another name -/
theorem opN {g : Int → Int → V} {i j : Int} {z : V} {H : Hp} {Q : VK} (e : g i j = z) (k : Q z H) : rI0 g (.int i) (.int j) H Q := ⟨i, j, rfl, rfl, by show Q (g i j) H; rw [e]; exact k⟩
/-- all but lists stand -/
def SameT (H H' : Hp) : Prop := ∀ b o, H b = some o → (∀ xs, o ≠ .lst xs) → H' b = some o
theorem SameT.refl {H : Hp} : SameT H H := fun _ _ h _ => h
theorem SameT.trans {H H1 H2 : Hp} (a : SameT H H1) (b : SameT H1 H2) : SameT H H2 := fun c o h n => b c o (a c o h n) n
theorem Same.toT {H H' : Hp} (e : Same H H') : SameT H H' := fun b o h _ => e b o h
theorem sameT_upd {H : Hp} {p : Addr} {xs ys : List V} (h : H p = some (.lst xs)) : SameT H (upd H p (.lst ys)) := fun b o e n => by
  rw [upd_ne (ne_of e h (n xs))]
  exact e
theorem SameT.tup {H H' : Hp} {a : Addr} {xs : List V} (e : SameT H H') (h : H a = some (.tup xs)) : H' a = some (.tup xs) := e _ _ h (fun _ z => nomatch z)
theorem SameT.ins {H H' : Hp} {a C dx : Addr} {fs : List (Str × V)} (e : SameT H H') (h : H a = some (.ins C dx fs)) : H' a = some (.ins C dx fs) := e _ _ h (fun _ z => nomatch z)
theorem SameT.seqT {K : PySem.W.Frag} {H H' : Hp} {a : Addr} {xs : List V} (e : SameT H H') (h : SqT K H a xs) : SqT K H' a xs := by
  rcases h with (h | ⟨o, h⟩) | h
  · exact .inl (.inl (e.tup h))
  · exact .inl (.inr ⟨o, e _ _ h (fun _ z => nomatch z)⟩)
  · exact .inr h
theorem prImp {α β : Type} {F G : α → β → Prop} (h : ∀ a b, F a b → G a b) : ∀ {xs : List α} {ys : List β}, Paired F xs ys → Paired G xs ys
  | _, _, .nil => .nil
  | _, _, .cons a t => .cons (h _ _ a) (prImp h t)
theorem paired_eq {xs ys : List V} (h : Paired (fun a y => y = a) xs ys) : ys = xs := by
  induction h with
  | nil => rfl
  | cons a _ ih => rw [a, ih]
theorem paired_fn {α : Type} {f : α → V} {xs : List α} {ys : List V} (h : Paired (fun a y => y = f a) xs ys) : ys = xs.map f := by
  induction h with
  | nil => rfl
  | cons a _ ih => rw [a, ih, List.map_cons]
theorem prLen {α β : Type} {F : α → β → Prop} {xs : List α} {ys : List β} (h : Paired F xs ys) : ys.length = xs.length := by
  induction h with
  | nil => rfl
  | cons _ _ ih => rw [List.length_cons, List.length_cons, ih]
theorem prAt {α β : Type} {F : α → β → Prop} {xs : List α} {ys : List β} (h : Paired F xs ys) : ∀ {i : Nat} {y : β}, ys[i]? = some y → ∃ x, xs[i]? = some x ∧ F x y := by
  induction h with
  | nil => intro i y e; simp at e
  | cons a _ ih =>
    intro i y e
    cases i with
    | zero =>
      cases e
      exact ⟨_, rfl, a⟩
    | succ i => exact ih (i := i) (by simpa using e)
theorem prAt2 {α β : Type} {F : α → β → Prop} {xs : List α} {ys : List β} (h : Paired F xs ys) : ∀ {i : Nat} {x : α}, xs[i]? = some x → ∃ y, ys[i]? = some y ∧ F x y := by
  induction h with
  | nil => intro i y e; simp at e
  | cons a _ ih =>
    intro i y e
    cases i with
    | zero =>
      cases e
      exact ⟨_, rfl, a⟩
    | succ i => exact ih (i := i) (by simpa using e)
theorem prApp {α β : Type} {F : α → β → Prop} : ∀ {xs : List α} {ys : List β} {xs' : List α} {ys' : List β}, Paired F xs ys → Paired F xs' ys' → Paired F (xs ++ xs') (ys ++ ys')
  | _, _, _, _, .nil, h => h
  | _, _, _, _, .cons a t, h => .cons a (prApp t h)
theorem prMapL {α β γ : Type} {F : α → β → Prop} {f : γ → α} : ∀ {xs : List γ} {ys : List β}, Paired (fun c b => F (f c) b) xs ys → Paired F (xs.map f) ys
  | _, _, .nil => .nil
  | _, _, .cons a t => .cons a (prMapL t)
theorem prUnmapL {α β γ : Type} {F : α → β → Prop} {f : γ → α} : ∀ {xs : List γ} {ys : List β}, Paired F (xs.map f) ys → Paired (fun c b => F (f c) b) xs ys
  | [], _, .nil => .nil
  | _ :: _, _, .cons a t => .cons a (prUnmapL t)
theorem paired_dp {K : PySem.W.Frag} {H : Hp} {α : Type} {f : α → PyData} : ∀ {xs : List α} {ys : List V}, Paired (fun a y => Dp K H y (f a)) xs ys → DpAll K H ys (xs.map f)
  | _, _, .nil => .nil
  | _, _, .cons a t => .cons a (paired_dp t)
theorem dps_paired {K : PySem.W.Frag} {H : Hp} {α : Type} {f : α → PyData} : ∀ {xs : List α} {ys : List V}, DpAll K H ys (xs.map f) → Paired (fun a y => Dp K H y (f a)) xs ys
  | [], _, .nil => .nil
  | _ :: _, _, .cons a t => .cons a (dps_paired t)
/-- a comprehension: f tells what each turn gives (none: nothing), R how it is told by a value -/
theorem lc_itM {J : It} {n : Nat} {G : Hp → Prop} {Y : Nat → Hp → V → Hp → Prop} (w : Walk J n G Y) {α : Type} (f : Nat → Option α) (R : α → V → Hp → Prop) (st : ∀ a y H H', SameT H H' → R a y H → R a y H')
    {g : TG} {tt : TT} {te : TE} {vs : List Nat} {σ : L2.St} {H1 : Hp} {D : Addr} {Qd : Hp → Prop} (nD : H1 D = none) (hG : ∀ H, Same H1 H → G H) (hn : n ≤ 100000)
    (hs : ∀ i x H H' (k : V → Hp → Prop) (N : Hp → Prop), i < n → Same H1 H → Y i H x H' → (∀ y H4 a, Same H H4 → f i = some a → R a y H4 → k y H4) → (∀ H3, Same H H3 → f i = none → N H3) →
      g x (wipe σ vs) H' fun σ2 H2 => wipe σ2 vs = wipe σ vs ∧ tt σ2 H2 fun b H3 => if b = true then te σ2 H3 k else N H3)
    (hd : ∀ H' ys, Same H1 H' → H' D = some (.lst ys) → Paired (fun a y => R a y H') ((List.range n).filterMap f) ys → Qd H') :
    ∃ W : Nat → Nat → Hp → Prop, (∃ m, W 0 m (upd H1 D (.lst []))) ∧ ∀ i m H, W i m H →
      (J.stop i H ∧ Qd H) ∨ (J.go i H ∧ ∃ Nx : Hp → Prop, (∀ H', Nx H' → ∃ m', m' < m ∧ W (i + 1) m' H') ∧ ∀ x H', J.yld i H x H' → g x (wipe σ vs) H' fun σ2 H2 => wipe σ2 vs = wipe σ vs ∧ tt σ2 H2 fun b H3 =>
        if b = true then te σ2 H3 fun y H4 => ∃ acc, H4 D = some (.lst acc) ∧ acc.length < sizeLine ∧ Nx (upd H4 D (.lst (acc ++ [y]))) else Nx H3) := by
  have e100 : (100000 : Nat) < sizeLine := by decide
  refine lc_it w (fun i H => i ≤ n ∧ Same H1 H ∧ ∃ ys, H D = some (.lst ys) ∧ ys.length ≤ i ∧ Paired (fun a y => R a y H) ((List.range i).filterMap f) ys)
    ⟨Nat.zero_le _, same_upd nD, [], upd_same, Nat.le_refl _, .nil⟩ (fun i H _ h => hG H h.2.1) ?_ fun H h => by
      obtain ⟨_, sm, ys, hD, _, p⟩ := h
      exact hd H ys sm hD p
  rintro i x H H' hi ⟨_, sm, ys, hD, hl, p⟩ y
  refine hs i x H H' _ _ hi sm y (fun z H4 a s4 hf hr => ?_) fun H3 s3 hf => ?_
  · have h4 := s4 _ _ hD
    refine ⟨ys, h4, by omega, hi, same_upd2 (sm.trans s4) nD, _, upd_same, by rw [List.length_append, List.length_singleton]; omega, ?_⟩
    rw [List.range_succ, List.filterMap_append]
    have t4 : SameT H4 (upd H4 D (.lst (ys ++ [z]))) := sameT_upd h4
    refine prApp (prImp (fun a y' h => st a y' _ _ ((Same.toT s4).trans t4) h) p) ?_
    rw [List.filterMap_cons, hf]
    exact .cons (st a z _ _ t4 hr) .nil
  · refine ⟨hi, sm.trans s3, ys, s3 _ _ hD, by omega, ?_⟩
    rw [List.range_succ, List.filterMap_append, List.filterMap_cons, hf]
    rw [← List.append_nil ys]
    exact prApp (prImp (fun a y' h => st a y' _ _ (Same.toT s3) h) p) .nil
/-- .. where each turn gives something -/
theorem lc_itA {J : It} {n : Nat} {G : Hp → Prop} {Y : Nat → Hp → V → Hp → Prop} (w : Walk J n G Y) {α : Type} (f : Nat → α) (R : α → V → Hp → Prop) (st : ∀ a y H H', SameT H H' → R a y H → R a y H')
    {g : TG} {te : TE} {vs : List Nat} {σ : L2.St} {H1 : Hp} {D : Addr} {Qd : Hp → Prop} (nD : H1 D = none) (hG : ∀ H, Same H1 H → G H) (hn : n ≤ 100000)
    (hs : ∀ i x H H' (k : V → Hp → Prop), i < n → Same H1 H → Y i H x H' → (∀ y H4, Same H H4 → R (f i) y H4 → k y H4) → g x (wipe σ vs) H' fun σ2 H2 => wipe σ2 vs = wipe σ vs ∧ te σ2 H2 k)
    (hd : ∀ H' ys, Same H1 H' → H' D = some (.lst ys) → Paired (fun a y => R a y H') ((List.range n).map f) ys → Qd H') :
    ∃ W : Nat → Nat → Hp → Prop, (∃ m, W 0 m (upd H1 D (.lst []))) ∧ ∀ i m H, W i m H →
      (J.stop i H ∧ Qd H) ∨ (J.go i H ∧ ∃ Nx : Hp → Prop, (∀ H', Nx H' → ∃ m', m' < m ∧ W (i + 1) m' H') ∧ ∀ x H', J.yld i H x H' → g x (wipe σ vs) H' fun σ2 H2 => wipe σ2 vs = wipe σ vs ∧ tYes σ2 H2 fun b H3 =>
        if b = true then te σ2 H3 fun y H4 => ∃ acc, H4 D = some (.lst acc) ∧ acc.length < sizeLine ∧ Nx (upd H4 D (.lst (acc ++ [y]))) else Nx H3) := by
  refine lc_itM w (fun i => some (f i)) R st nD hG hn (fun i x H H' k N hi sm y hk _ => ?_) fun H' ys sm hD p => hd H' ys sm hD ?_
  · have := hs i x H H' k hi sm y fun y H4 s4 hr => hk y H4 _ s4 rfl hr
    exact this
  · rw [← List.filterMap_eq_map]
    exact p
theorem range_get {α β : Type} (g : α → β) (d : α) (xs : List α) : (List.range xs.length).map (fun i => g (xs.getD i d)) = xs.map g := by
  refine List.ext_getElem (by simp) fun i h1 h2 => ?_
  simp at h1
  simp [h1]
theorem range_getM {α β : Type} (g : α → Option β) (d : α) : ∀ (xs : List α), (List.range xs.length).filterMap (fun i => g (xs.getD i d)) = xs.filterMap g := fun xs => by
  have := congrArg (List.filterMap id) (range_get g d xs)
  rw [List.filterMap_map, List.filterMap_map] at this
  exact this
/-- a comprehension over what a list, a tuple holds -/
theorem lc_xsM {J : It} {xs : List V} {G : Hp → Prop} (w : Walk J xs.length G (YAt xs)) {α : Type} (f : V → Option α) (R : α → V → Hp → Prop) (st : ∀ a y H H', SameT H H' → R a y H → R a y H')
    {g : TG} {tt : TT} {te : TE} {vs : List Nat} {σ : L2.St} {H1 : Hp} {D : Addr} {Qd : Hp → Prop} (nD : H1 D = none) (hG : ∀ H, Same H1 H → G H) (hn : xs.length ≤ 100000)
    (hs : ∀ (i : Nat) (x : V) (H : Hp) (k : V → Hp → Prop) (N : Hp → Prop), xs[i]? = some x → Same H1 H → (∀ y H4 a, Same H H4 → f x = some a → R a y H4 → k y H4) → (∀ H3, Same H H3 → f x = none → N H3) →
      g x (wipe σ vs) H fun σ2 H2 => wipe σ2 vs = wipe σ vs ∧ tt σ2 H2 fun b H3 => if b = true then te σ2 H3 k else N H3)
    (hd : ∀ H' ys, Same H1 H' → H' D = some (.lst ys) → Paired (fun a y => R a y H') (xs.filterMap f) ys → Qd H') :
    ∃ W : Nat → Nat → Hp → Prop, (∃ m, W 0 m (upd H1 D (.lst []))) ∧ ∀ i m H, W i m H →
      (J.stop i H ∧ Qd H) ∨ (J.go i H ∧ ∃ Nx : Hp → Prop, (∀ H', Nx H' → ∃ m', m' < m ∧ W (i + 1) m' H') ∧ ∀ x H', J.yld i H x H' → g x (wipe σ vs) H' fun σ2 H2 => wipe σ2 vs = wipe σ vs ∧ tt σ2 H2 fun b H3 =>
        if b = true then te σ2 H3 fun y H4 => ∃ acc, H4 D = some (.lst acc) ∧ acc.length < sizeLine ∧ Nx (upd H4 D (.lst (acc ++ [y]))) else Nx H3) := by
  refine lc_itM w (fun i => f (xs.getD i .non)) R st nD hG hn (fun i x H H' k N hi sm y h1 h2 => ?_) fun H' ys sm hD p => hd H' ys sm hD ?_
  · obtain ⟨rfl, hx⟩ := y
    have e : xs.getD i .non = x := by rw [List.getD_eq_getElem?_getD, hx] <;> rfl
    rw [e] at h1 h2
    exact hs i x _ k N hx sm h1 h2
  · rw [← range_getM f .non xs]
    exact p
theorem lc_xsA {J : It} {xs : List V} {G : Hp → Prop} (w : Walk J xs.length G (YAt xs)) {α : Type} (f : V → α) (R : α → V → Hp → Prop) (st : ∀ a y H H', SameT H H' → R a y H → R a y H')
    {g : TG} {te : TE} {vs : List Nat} {σ : L2.St} {H1 : Hp} {D : Addr} {Qd : Hp → Prop} (nD : H1 D = none) (hG : ∀ H, Same H1 H → G H) (hn : xs.length ≤ 100000)
    (hs : ∀ (i : Nat) (x : V) (H : Hp) (k : V → Hp → Prop), xs[i]? = some x → Same H1 H → (∀ y H4, Same H H4 → R (f x) y H4 → k y H4) → g x (wipe σ vs) H fun σ2 H2 => wipe σ2 vs = wipe σ vs ∧ te σ2 H2 k)
    (hd : ∀ H' ys, Same H1 H' → H' D = some (.lst ys) → Paired (fun a y => R a y H') (xs.map f) ys → Qd H') :
    ∃ W : Nat → Nat → Hp → Prop, (∃ m, W 0 m (upd H1 D (.lst []))) ∧ ∀ i m H, W i m H →
      (J.stop i H ∧ Qd H) ∨ (J.go i H ∧ ∃ Nx : Hp → Prop, (∀ H', Nx H' → ∃ m', m' < m ∧ W (i + 1) m' H') ∧ ∀ x H', J.yld i H x H' → g x (wipe σ vs) H' fun σ2 H2 => wipe σ2 vs = wipe σ vs ∧ tYes σ2 H2 fun b H3 =>
        if b = true then te σ2 H3 fun y H4 => ∃ acc, H4 D = some (.lst acc) ∧ acc.length < sizeLine ∧ Nx (upd H4 D (.lst (acc ++ [y]))) else Nx H3) := by
  refine lc_itA w (fun i => f (xs.getD i .non)) R st nD hG hn (fun i x H H' k hi sm y h1 => ?_) fun H' ys sm hD p => hd H' ys sm hD ?_
  · obtain ⟨rfl, hx⟩ := y
    have e : xs.getD i .non = x := by rw [List.getD_eq_getElem?_getD, hx] <;> rfl
    rw [e] at h1
    exact hs i x _ k hx sm h1
  · rw [← range_get f .non xs]
    exact p
/-- all that stands but what is at t -/
def Exc (t : Addr) (H H' : Hp) : Prop := ∀ b o, b ≠ t → H b = some o → H' b = some o
theorem Exc.refl {t : Addr} {H : Hp} : Exc t H H := fun _ _ _ h => h
theorem Exc.trans {t : Addr} {H H1 H2 : Hp} (a : Exc t H H1) (b : Exc t H1 H2) : Exc t H H2 := fun c o n h => b c o n (a c o n h)
theorem But.exc {t : Addr} {H H' : Hp} (b : But t H H') : Exc t H H' := fun c o n h => (b c n).trans h
theorem exc_same {t : Addr} {H H' : Hp} (e : Same H H') : Exc t H H' := fun c o _ h => e c o h
theorem exc_upd {t p : Addr} {H : Hp} {o : HO} (h : H p = none) : Exc t H (upd H p o) := exc_same (same_upd h)
theorem Drw.exc {K : PySem.W.Frag} {H0 H H' : Hp} {l t : Addr} (D : Drw K H0 l t H) (e : Same H H') : Drw K H0 l t H' := D.mono e
theorem Drw.ne {K : PySem.W.Frag} {H0 H : Hp} {l t p : Addr} (D : Drw K H0 l t H) (h : H p = none) : p ≠ t := fun z => by
  obtain ⟨a, b, c, d, e⟩ := D.st
  rw [← z, h] at e
  cases e
theorem Drw.updN {K : PySem.W.Frag} {H0 H H' : Hp} {l t p : Addr} {o : HO} (D : Drw K H0 l t H') (h : H0 p = none) (n : p ≠ t) : Drw K H0 l t (L2.upd H' p o) := by
  obtain ⟨a, b, c, d, e⟩ := D.st
  exact ⟨D.scr, D.new, same_upd2 D.same h, ⟨a, b, c, d, by rw [upd_ne (Ne.symm n)]; exact e⟩⟩
/-- a list of draws -/
theorem lc_draws {K : PySem.W.Frag} {g : TG} {te : TE} {vs : List Nat} {σ : L2.St} {H H1 : Hp} {D l t : Addr} {Qd : Hp → Prop} {lo : Int} (m : Int) (n : Nat) (D1 : Drw K H l t H1) (nD : H1 D = none) (hn : n ≤ 100000)
    (hs : ∀ (i : Nat) (H2 : Hp) (k : V → Hp → Prop), i < n → Drw K H l t H2 → Exc t H1 H2 → (∀ (v : Int) H', 0 ≤ v → v < m → But t H2 H' → Drw K H l t H' → k (.int v) H') → g (.int (lo + i)) (wipe σ vs) H2 fun σ2 H3 => wipe σ2 vs = wipe σ vs ∧ te σ2 H3 k)
    (hd : ∀ H' (cs : List Int), Exc t H1 H' → Drw K H l t H' → H' D = some (.lst (cs.map V.int)) → cs.length = n → (∀ c ∈ cs, 0 ≤ c ∧ c < m) → Qd H') :
    ∃ W : Nat → Nat → Hp → Prop, (∃ m, W 0 m (upd H1 D (.lst []))) ∧ ∀ i m H, W i m H →
      ((Itr lo n).stop i H ∧ Qd H) ∨ ((Itr lo n).go i H ∧ ∃ Nx : Hp → Prop, (∀ H', Nx H' → ∃ m', m' < m ∧ W (i + 1) m' H') ∧ ∀ x H', (Itr lo n).yld i H x H' → g x (wipe σ vs) H' fun σ2 H2 => wipe σ2 vs = wipe σ vs ∧ tYes σ2 H2 fun b H3 =>
        if b = true then te σ2 H3 fun y H4 => ∃ acc, H4 D = some (.lst acc) ∧ acc.length < sizeLine ∧ Nx (upd H4 D (.lst (acc ++ [y]))) else Nx H3) := by
  have e100 : (100000 : Nat) < sizeLine := by decide
  have nt := D1.ne nD
  have n0 : H D = none := D1.same.free nD
  refine lc_range (lo := lo) (n := n) (fun i H' => Exc t H1 H' ∧ Drw K H l t H' ∧ ∃ cs : List Int, H' D = some (.lst (cs.map V.int)) ∧ cs.length = i ∧ ∀ c ∈ cs, 0 ≤ c ∧ c < m)
    ⟨exc_upd nD, D1.updN (H := H) n0 nt, [], upd_same, rfl, fun c hc => by cases hc⟩ ?_ fun H' ⟨e, D2, cs, hD, hl, hc⟩ => hd H' cs e D2 hD hl hc
  rintro i H2 hi ⟨e, D2, cs, hD, hl, hc⟩
  have z := hs i H2 (fun y H4 => ∃ acc, H4 D = some (.lst acc) ∧ acc.length < sizeLine ∧ (Exc t H1 (upd H4 D (.lst (acc ++ [y]))) ∧ Drw K H l t (upd H4 D (.lst (acc ++ [y]))) ∧ ∃ cs : List Int, upd H4 D (.lst (acc ++ [y])) D = some (.lst (cs.map V.int)) ∧ cs.length = i + 1 ∧ ∀ c ∈ cs, 0 ≤ c ∧ c < m)) hi D2 e fun v H' h0 h1 b D3 => by
    have hD' : H' D = some (.lst (cs.map V.int)) := by rw [b D nt]; exact hD
    refine ⟨_, hD', by rw [List.length_map, hl]; omega, fun c o nc hc => ?_, D3.updN (H := H) n0 nt, cs ++ [v], ?_, by rw [List.length_append, hl] <;> rfl, fun c hc' => ?_⟩
    · rw [upd_ne (ne_of_none hc nD)]
      exact (e.trans b.exc) c o nc hc
    · rw [upd_same, List.map_append] <;> rfl
    · rcases List.mem_append.mp hc' with h | h
      · exact hc c h
      · rw [List.mem_singleton.mp h]
        exact ⟨h0, h1⟩
  exact z
theorem But.t {K : PySem.W.Frag} {H0 H H' : Hp} {l t : Addr} (D : Drw K H0 l t H) (b : But t H H') : SameT H H' := fun c o h n => by
  obtain ⟨x, y, z, u, e⟩ := D.st
  rw [b c (fun q => by rw [q, e] at h; cases h; exact n _ rfl)]
  exact h
theorem excT {K : PySem.W.Frag} {H0 H H' : Hp} {l t : Addr} (D : Drw K H0 l t H) (b : Exc t H H') : SameT H H' := fun c o h n => by
  obtain ⟨x, y, z, u, e⟩ := D.st
  exact b c o (fun q => by rw [q, e] at h; cases h; exact n _ rfl) h
theorem bl_ne {a b : Bool} {H : Hp} {Q : VK} (c : Bool) (e : (a != b) = c) (k : Q (.bl c) H) : rNe (.bl a) (.bl b) H Q := by
  refine ⟨rfl, ?_⟩
  rw [← e] at k
  have : (!decide (V.bl a = V.bl b)) = (a != b) := by cases a <;> cases b <;> rfl
  rw [this]
  exact k
theorem bl_eq {a b : Bool} {H : Hp} {Q : VK} (c : Bool) (e : (a == b) = c) (k : Q (.bl c) H) : rEq (.bl a) (.bl b) H Q := by
  refine ⟨rfl, ?_⟩
  rw [← e] at k
  have : decide (V.bl a = V.bl b) = (a == b) := by cases a <;> cases b <;> rfl
  rw [this]
  exact k
theorem int_ne {a b : Int} {H : Hp} {Q : VK} (e : a = b) (k : Q (.bl false) H) : rNe (.int a) (.int b) H Q := by
  refine ⟨rfl, ?_⟩
  rw [decide_eq_true (by rw [e])]
  exact k
/-- a list of things made of draws -/
theorem lc_drawsR {K : PySem.W.Frag} {α : Type} (R : α → V → Hp → Prop) (st : ∀ a y H H', SameT H H' → R a y H → R a y H') (ok : α → Prop) {g : TG} {te : TE} {vs : List Nat} {σ : L2.St} {H H1 : Hp} {D l t : Addr} {Qd : Hp → Prop} {lo : Int} (n : Nat) (D1 : Drw K H l t H1) (nD : H1 D = none) (hn : n ≤ 100000)
    (hs : ∀ (i : Nat) (H2 : Hp) (k : V → Hp → Prop), i < n → Drw K H l t H2 → Exc t H1 H2 → SameT H1 H2 → (∀ (y : V) (a : α) H', Exc t H2 H' → SameT H2 H' → Drw K H l t H' → R a y H' → ok a → k y H') → g (.int (lo + i)) (wipe σ vs) H2 fun σ2 H3 => wipe σ2 vs = wipe σ vs ∧ te σ2 H3 k)
    (hd : ∀ H' (as : List α) (ys : List V), Exc t H1 H' → Drw K H l t H' → H' D = some (.lst ys) → Paired (fun a y => R a y H') as ys → as.length = n → (∀ a ∈ as, ok a) → Qd H') :
    ∃ W : Nat → Nat → Hp → Prop, (∃ m, W 0 m (upd H1 D (.lst []))) ∧ ∀ i m H, W i m H →
      ((Itr lo n).stop i H ∧ Qd H) ∨ ((Itr lo n).go i H ∧ ∃ Nx : Hp → Prop, (∀ H', Nx H' → ∃ m', m' < m ∧ W (i + 1) m' H') ∧ ∀ x H', (Itr lo n).yld i H x H' → g x (wipe σ vs) H' fun σ2 H2 => wipe σ2 vs = wipe σ vs ∧ tYes σ2 H2 fun b H3 =>
        if b = true then te σ2 H3 fun y H4 => ∃ acc, H4 D = some (.lst acc) ∧ acc.length < sizeLine ∧ Nx (upd H4 D (.lst (acc ++ [y]))) else Nx H3) := by
  have e100 : (100000 : Nat) < sizeLine := by decide
  have nt := D1.ne nD
  have n0 : H D = none := D1.same.free nD
  refine lc_range (lo := lo) (n := n) (fun i H' => Exc t H1 H' ∧ SameT H1 H' ∧ Drw K H l t H' ∧ ∃ (as : List α) (ys : List V), H' D = some (.lst ys) ∧ Paired (fun a y => R a y H') as ys ∧ as.length = i ∧ ∀ a ∈ as, ok a)
    ⟨exc_upd nD, Same.toT (same_upd nD), D1.updN (H := H) n0 nt, [], [], upd_same, .nil, rfl, fun c hc => by cases hc⟩ ?_ fun H' ⟨e, _, D2, as, ys, hD, p, hl, hc⟩ => hd H' as ys e D2 hD p hl hc
  rintro i H2 hi ⟨e, e5, D2, as, ys, hD, p, hl, hc⟩
  have z := hs i H2 (fun y H4 => ∃ acc, H4 D = some (.lst acc) ∧ acc.length < sizeLine ∧ (Exc t H1 (upd H4 D (.lst (acc ++ [y]))) ∧ SameT H1 (upd H4 D (.lst (acc ++ [y]))) ∧ Drw K H l t (upd H4 D (.lst (acc ++ [y]))) ∧ ∃ (as : List α) (ys : List V), upd H4 D (.lst (acc ++ [y])) D = some (.lst ys) ∧ Paired (fun a z => R a z (upd H4 D (.lst (acc ++ [y])))) as ys ∧ as.length = i + 1 ∧ ∀ a ∈ as, ok a)) hi D2 e e5 fun y a H' e2 t2 D3 hr ha => by
    have hD' : H' D = some (.lst ys) := e2 D _ nt hD
    have ly := prLen p
    have t4 : SameT H' (upd H' D (.lst (ys ++ [y]))) := sameT_upd hD'
    refine ⟨_, hD', by omega, fun c o nc hc => ?_, e5.trans (t2.trans t4), D3.updN (H := H) n0 nt, as ++ [a], ys ++ [y], upd_same, ?_, by rw [List.length_append, hl] <;> rfl, fun c hc' => ?_⟩
    · rw [upd_ne (ne_of_none hc nD)]
      exact (e.trans e2) c o nc hc
    · exact prApp (prImp (fun b u h => st b u _ _ (t2.trans t4) h) p) (.cons (st a y _ _ t4 hr) .nil)
    · rcases List.mem_append.mp hc' with h | h
      · exact hc c h
      · rw [List.mem_singleton.mp h]
        exact ha
  exact z
theorem rep_one {α : Type} (x : α) : ∀ n : Nat, (List.replicate n [x]).flatten = List.replicate n x
  | 0 => rfl
  | n + 1 => by rw [List.replicate_succ, List.flatten_cons, rep_one x n, List.replicate_succ] <;> rfl
theorem cut_at {α : Type} {xs : List α} {i : Nat} {x : α} (h : xs[i]? = some x) : xs.take i ++ x :: xs.drop (i + 1) = xs := by
  obtain ⟨hi, e⟩ := List.getElem?_eq_some_iff.mp h
  rw [← e, ← List.drop_eq_getElem_cons hi, List.take_append_drop]
/-! ### data: what is shaped -/
theorem canAll_iff : ∀ {ds : List PyData}, (∀ d ∈ ds, d.canLay0 = true) → PyData.canLayAll0 ds = true
  | [], _ => by simp only [PyData.canLayAll0]
  | d :: r, h => by
    simp only [PyData.canLayAll0]
    rw [h d List.mem_cons_self, canAll_iff fun x hx => h x (List.mem_cons_of_mem _ hx)] <;> rfl
theorem depAll_le {k : Nat} : ∀ {ds : List PyData}, (∀ d ∈ ds, d.depth ≤ k) → PyData.depthAll ds ≤ k
  | [], _ => by simp only [PyData.depthAll]; omega
  | d :: r, h => by
    simp only [PyData.depthAll]
    have h1 := h d List.mem_cons_self
    have h2 := depAll_le fun x hx => h x (List.mem_cons_of_mem d hx)
    omega
/-- data of at most k levels -/
def Fit (k : Nat) (d : PyData) : Prop := d.canLay0 = true ∧ d.depth ≤ k
theorem fit_int {k : Nat} (i : Int) : Fit k (.int i) := ⟨by simp only [PyData.canLay0], by simp only [PyData.depth]; omega⟩
theorem fit_bl {k : Nat} (i : Bool) : Fit k (.bool i) := ⟨by simp only [PyData.canLay0], by simp only [PyData.depth]; omega⟩
theorem fit_non {k : Nat} : Fit k .none := ⟨by simp only [PyData.canLay0], by simp only [PyData.depth]; omega⟩
theorem fit_str {k : Nat} {x : Str} (h : PyData.strOk x = true) : Fit k (.str x) := ⟨by simp only [PyData.canLay0]; exact h, by simp only [PyData.depth]; omega⟩
theorem fit_tup {k : Nat} {ds : List PyData} (h : ∀ d ∈ ds, Fit k d) : Fit (k + 1) (.tuple ds) :=
  ⟨by simp only [PyData.canLay0]; exact canAll_iff fun d hd => (h d hd).1, by simp only [PyData.depth]; have := depAll_le fun d hd => (h d hd).2; omega⟩
theorem fit_lst {k : Nat} {ds : List PyData} (h : ∀ d ∈ ds, Fit k d) : Fit (k + 1) (.list ds) :=
  ⟨by simp only [PyData.canLay0]; exact canAll_iff fun d hd => (h d hd).1, by simp only [PyData.depth]; have := depAll_le fun d hd => (h d hd).2; omega⟩
theorem Fit.shaped {k : Nat} {d : PyData} (h : Fit k d) (hk : k ≤ 64) : SeqAt.shaped d = true := by
  unfold SeqAt.shaped
  rw [h.1, decide_eq_true (Nat.le_trans h.2 hk)] <;> rfl
theorem Fit.mono {k m : Nat} {d : PyData} (h : Fit k d) (hk : k ≤ m) : Fit m d := ⟨h.1, Nat.le_trans h.2 hk⟩
/-! ### scalars -/
def scalV : V → Bool
  | .non => true
  | .bl _ => true
  | .int _ => true
  | .str x => PyData.strOk x
  | _ => false
def datV : V → PyData
  | .bl b => .bool b
  | .int i => .int i
  | .str x => .str x
  | _ => .none
theorem kn_scal {K : PySem.W.Frag} {H : Hp} {x : V} (h : scalV x = true) : Kn K H x := by
  cases x with
  | non => exact kn_non
  | bl b => exact kn_bl b
  | int i => exact kn_int i
  | str x => exact kn_str x
  | _ => cases h
theorem dp_scal {K : PySem.W.Frag} {H : Hp} {x : V} (h : scalV x = true) : Dp K H x (datV x) := by
  cases x with
  | non => exact .non
  | bl b => exact .bl b
  | int i => exact .int i
  | str x => exact .str x
  | _ => cases h
theorem fit_scal {k : Nat} {x : V} (h : scalV x = true) : Fit k (datV x) := by
  cases x with
  | non => exact fit_non
  | bl b => exact fit_bl b
  | int i => exact fit_int i
  | str x => exact fit_str h
  | _ => cases h
theorem flat_scal {x : V} (h : scalV x = true) : flatV x = true := by
  cases x with
  | non => rfl
  | bl b => rfl
  | int i => rfl
  | str x => rfl
  | _ => cases h
/-! ### lots: the mathematics -/
def oneL (m : Nat) : List Nat := (List.range 8).filter fun c => m.testBit c
/-- the lot of a mask -/
def lotL (m : Nat) : List Int := (oneL m).map fun (c : Nat) => (c : Int)
def lotV (m : Nat) : List V := (lotL m).map V.int
def lotD (m : Nat) : PyData := .tuple ((lotL m).map PyData.int)
/-- v is the lot of mask m -/
def Lot (K : PySem.W.Frag) (H : Hp) (m : Nat) (v : V) : Prop := ∃ a, v = .ref a ∧ SqT K H a (lotV m)
theorem Lot.sameT {K : PySem.W.Frag} {H H' : Hp} {m : Nat} {v : V} (h : Lot K H m v) (e : SameT H H') : Lot K H' m v := by
  obtain ⟨a, rfl, h⟩ := h
  exact ⟨a, rfl, e.seqT h⟩
theorem Lot.same {K : PySem.W.Frag} {H H' : Hp} {m : Nat} {v : V} (h : Lot K H m v) (e : Same H H') : Lot K H' m v := h.sameT (Same.toT e)
theorem dps_ints {K : PySem.W.Frag} {H : Hp} : ∀ (ns : List Int), DpAll K H (ns.map V.int) (ns.map PyData.int)
  | [] => .nil
  | n :: r => .cons (.int n) (dps_ints r)
theorem Lot.dp {K : PySem.W.Frag} {H : Hp} {m : Nat} {v : V} (h : Lot K H m v) : Dp K H v (lotD m) := by
  obtain ⟨a, rfl, h⟩ := h
  exact .tup h (dps_ints _)
theorem fit_lot (m : Nat) : Fit 1 (lotD m) := fit_tup fun d hd => by
  obtain ⟨i, _, rfl⟩ := List.mem_map.mp hd
  exact fit_int i
/-- the copy that a value names -/
def idx : V → Nat
  | .int i => i.toNat
  | _ => 0
def copyOk (n : Nat) (x : V) : Bool := good x (some 0) (some ((n : Int) - 1))
theorem copyOk_iff {n : Nat} {x : V} (h : copyOk n x = true) : ∃ c : Nat, x = .int c ∧ c < n := by
  unfold copyOk good at h
  cases x with
  | int i =>
    simp at h
    refine ⟨i.toNat, by congr 1; omega, by omega⟩
  | _ => cases h
theorem copyOk_nat {n c : Nat} (h : c < n) : copyOk n (.int c) = true := by
  unfold copyOk good
  simp
  omega
def maskV (xs : List V) : Nat := xs.foldl (fun m x => m ||| 1 <<< idx x) 0
theorem maskV_snoc (xs : List V) (x : V) : maskV (xs ++ [x]) = maskV xs ||| 1 <<< idx x := by
  unfold maskV
  rw [List.foldl_append] <;> rfl
theorem one_bit (i c : Nat) : (1 <<< i).testBit c = decide (i = c) := by
  rw [Nat.one_shiftLeft, Nat.testBit_two_pow]
theorem maskV_bit (c : Nat) : ∀ (xs : List V) (m : Nat), (xs.foldl (fun m x => m ||| 1 <<< idx x) m).testBit c = (m.testBit c || xs.any fun x => decide (idx x = c))
  | [], m => by simp
  | x :: r, m => by
    rw [List.foldl_cons, maskV_bit c r, Nat.testBit_or, one_bit, List.any_cons, Bool.or_assoc]
theorem mask_bit (c : Nat) (xs : List V) : (maskV xs).testBit c = xs.any fun x => decide (idx x = c) := by
  unfold maskV
  rw [maskV_bit]
  simp
theorem maskV_lt {n : Nat} : ∀ (xs : List V) (m : Nat), m < 2 ^ n → (∀ x ∈ xs, idx x < n) → xs.foldl (fun m x => m ||| 1 <<< idx x) m < 2 ^ n
  | [], m, h, _ => h
  | x :: r, m, h, k => by
    rw [List.foldl_cons]
    refine maskV_lt r _ (Nat.or_lt_two_pow h ?_) fun y hy => k y (List.mem_cons_of_mem _ hy)
    rw [Nat.one_shiftLeft]
    exact Nat.pow_lt_pow_right (by decide) (k x List.mem_cons_self)
theorem mask_lt {n : Nat} {xs : List V} (h : ∀ x ∈ xs, copyOk n x = true) : maskV xs < 2 ^ n := by
  refine maskV_lt xs 0 (Nat.two_pow_pos n) fun x hx => ?_
  obtain ⟨c, rfl, hc⟩ := copyOk_iff (h x hx)
  exact hc
theorem pow_le8 {n : Nat} (h : n ≤ 8) : 2 ^ n ≤ 256 := Nat.pow_le_pow_right (by decide) h
theorem range_cut {n m : Nat} {p : Nat → Bool} (h : n ≤ m) (k : ∀ c, n ≤ c → p c = false) : (List.range m).filter p = (List.range n).filter p := by
  obtain ⟨d, rfl⟩ := Nat.exists_eq_add_of_le h
  rw [List.range_add, List.filter_append]
  have : ((List.range d).map (n + ·)).filter p = [] := by
    rw [List.filter_eq_nil_iff]
    intro c hc
    obtain ⟨e, _, rfl⟩ := List.mem_map.mp hc
    rw [k _ (Nat.le_add_right _ _)]
    simp
  rw [this, List.append_nil]
/-- a lot of n copies, copy by copy -/
theorem oneL_n {n m : Nat} (hn : n ≤ 8) (h : m < 2 ^ n) : oneL m = (List.range n).filter fun c => m.testBit c := by
  refine range_cut hn fun c hc => ?_
  exact Nat.testBit_lt_two_pow (Nat.lt_of_lt_of_le h (Nat.pow_le_pow_right (by decide) hc))
theorem other_bit {n m : Nat} (h : m < 2 ^ n) (c : Nat) : (2 ^ n - 1 - m).testBit c = (decide (c < n) && !m.testBit c) := by
  rw [Nat.sub_sub, Nat.add_comm 1 m]
  exact Nat.testBit_two_pow_sub_succ h c
theorem lotV_at {m i : Nat} {x : V} (h : (lotV m)[i]? = some x) : ∃ c : Nat, x = .int c ∧ c < 8 ∧ m.testBit c = true := by
  have h := List.mem_of_getElem? h
  unfold lotV lotL oneL at h
  rw [List.map_map] at h
  obtain ⟨c, hc, rfl⟩ := List.mem_map.mp h
  obtain ⟨h1, h2⟩ := List.mem_filter.mp hc
  exact ⟨c, rfl, List.mem_range.mp h1, h2⟩
theorem lotV_mem {m : Nat} {x : V} (h : x ∈ lotV m) : ∃ c : Nat, x = .int c ∧ c < 8 ∧ m.testBit c = true := by
  obtain ⟨i, hi, e⟩ := List.mem_iff_getElem.mp h
  exact lotV_at (i := i) (by rw [List.getElem?_eq_getElem hi, e])
theorem lotV_ok {n m : Nat} (h : m < 2 ^ n) {x : V} (hx : x ∈ lotV m) : copyOk n x = true := by
  obtain ⟨c, rfl, _, hb⟩ := lotV_mem hx
  refine copyOk_nat ?_
  rcases Nat.lt_or_ge c n with k | k
  · exact k
  · rw [Nat.testBit_lt_two_pow (Nat.lt_of_lt_of_le h (Nat.pow_le_pow_right (by decide) k))] at hb
    cases hb
theorem mask_lotV {m : Nat} (h : m < 256) : maskV (lotV m) = m := by
  refine Nat.eq_of_testBit_eq fun c => ?_
  rw [mask_bit]
  cases e : m.testBit c with
  | true =>
    rw [List.any_eq_true]
    refine ⟨.int (c : Nat), ?_, by unfold idx; simp⟩
    unfold lotV lotL oneL
    rw [List.map_map]
    refine List.mem_map.mpr ⟨c, List.mem_filter.mpr ⟨List.mem_range.mpr ?_, e⟩, rfl⟩
    rcases Nat.lt_or_ge c 8 with k | k
    · exact k
    · rw [Nat.testBit_lt_two_pow (Nat.lt_of_lt_of_le h (Nat.pow_le_pow_right (by decide) k : 2 ^ 8 ≤ 2 ^ c))] at e
      cases e
  | false =>
    rw [List.any_eq_false]
    intro x hx
    obtain ⟨d, rfl, _, hd⟩ := lotV_mem hx
    unfold idx
    simp
    intro z
    subst z
    rw [hd] at e
    cases e
theorem lotV_filter {n m : Nat} (hn : n ≤ 8) (hm : m < 2 ^ n) : lotV m = (List.range n).filterMap (fun i => if m.testBit i = true then some (V.int i) else none) := by
  unfold lotV lotL
  rw [oneL_n hn hm, List.map_map, ← List.filterMap_eq_map, List.filterMap_filter]
  rfl
theorem fm_congr {α β : Type} {f g : α → Option β} : ∀ {l : List α}, (∀ x ∈ l, f x = g x) → l.filterMap f = l.filterMap g
  | [], _ => rfl
  | a :: r, h => by
    rw [List.filterMap_cons, List.filterMap_cons, h a List.mem_cons_self, fm_congr fun x hx => h x (List.mem_cons_of_mem _ hx)]
theorem lotV_others {n m : Nat} (hn : n ≤ 8) (hm : m < 2 ^ n) : lotV (2 ^ n - 1 - m) = (List.range n).filterMap (fun i => if m.testBit i = true then none else some (V.int i)) := by
  rw [lotV_filter hn (by omega)]
  refine fm_congr fun i hi => ?_
  rw [other_bit hm, decide_eq_true (List.mem_range.mp hi), Bool.true_and]
  cases m.testBit i <;> rfl
theorem inV_mask {cs : List Int} (h : ∀ c ∈ cs, 0 ≤ c) (i : Nat) : inV (.int i) (cs.map V.int) = (maskV (cs.map V.int)).testBit i := by
  rw [mask_bit]
  unfold inV
  rw [List.any_map, List.any_map]
  induction cs with
  | nil => rfl
  | cons c r ih =>
    rw [List.any_cons, List.any_cons, ih fun x hx => h x (List.mem_cons_of_mem _ hx)]
    congr 1
    have := h c List.mem_cons_self
    show (c == (i : Int)) = decide (c.toNat = i)
    by_cases e : c = i
    · subst e
      simp
    · rw [decide_eq_false (by omega)]
      simpa using e
theorem scal_lotV {m : Nat} {x : V} (hx : x ∈ lotV m) : scalV x = true := by
  obtain ⟨c, rfl, _⟩ := lotV_mem hx
  rfl
theorem scal_int {ns : List Int} {x : V} (hx : x ∈ ns.map V.int) : scalV x = true := by
  obtain ⟨i, _, rfl⟩ := List.mem_map.mp hx
  rfl
/-! ### lots: the promises -/
/-- the list or tuple at a -/
def SqA (K : PySem.W.Frag) (H : Hp) (a : Addr) (xs : List V) : Prop := SqL K H a xs ∨ SqT K H a xs
theorem SqA.same {K : PySem.W.Frag} {H H' : Hp} {a : Addr} {xs : List V} (h : SqA K H a xs) (e : Same H H') : SqA K H' a xs := by
  rcases h with h | h
  · exact .inl (e.seq h)
  · exact .inr (Same.seqT e h)
def Err (C : Addr) (H : Hp) (E : XK) (w : Str) (x : V) : Prop := ∀ d H', H d = none → Same H H' → H' d = some (.xd [("value", x), ("what", .str w)]) → E (.ref C) (some d) H'
theorem Err.of {C : Addr} {H H1 : Hp} {E : XK} {w : Str} {x : V} (h : Err C H E w x) (e : Same H H1) : Err C H1 E w x := fun d H' nd sm hx => h d H' (e.free nd) (e.trans sm) hx
def spCopies (K : PySem.W.Frag) (C : Addr) : Sp := fun vs H Q E => ∃ x, vs = [x] ∧ Kn K H x ∧ (good x (some 1) (some 8) = true → Q x H) ∧ (good x (some 1) (some 8) = false → Err C H E "copies" x)
def spCopy (K : PySem.W.Frag) (C : Addr) : Sp := fun vs H Q E => ∃ (n : Nat) (x : V), vs = [.int n, x] ∧ Kn K H x ∧ (copyOk n x = true → Q x H) ∧ (copyOk n x = false → Err C H E "copy" x)
/-- the first value that is no copy -/
def badOf (n : Nat) (xs : List V) : Option V := xs.find? fun x => !copyOk n x
theorem badOf_none {n : Nat} {xs : List V} (h : badOf n xs = none) {x : V} (hx : x ∈ xs) : copyOk n x = true := by
  have := List.find?_eq_none.mp h x hx
  simpa using this
theorem badOf_ok {n : Nat} {xs : List V} (h : ∀ x ∈ xs, copyOk n x = true) : badOf n xs = none := List.find?_eq_none.mpr fun x hx => by rw [h x hx]; simp
theorem badOf_at {n i : Nat} {xs : List V} {x : V} (hx : xs[i]? = some x) (hok : ∀ y ∈ xs.take i, copyOk n y = true) (h : copyOk n x = false) : badOf n xs = some x := by
  have e : badOf n (xs.take i ++ x :: xs.drop (i + 1)) = some x := by
    unfold badOf
    rw [List.find?_append, List.find?_eq_none.mpr (fun y hy => by rw [hok y hy]; simp), Option.none_or, List.find?_cons, h] <;> rfl
  rwa [cut_at hx] at e
def spMaskOf (K : PySem.W.Frag) (C : Addr) : Sp := fun vs H Q E => ∃ (n : Nat) (a : Addr) (xs : List V), vs = [.int n, .ref a] ∧ n ≤ 8 ∧ SqA K H a xs ∧ (∀ x ∈ xs, scalV x = true) ∧
  (badOf n xs = none → Q (.int (maskV xs)) H) ∧ (∀ x, badOf n xs = some x → Err C H E "copy" x)
def spLotAt (K : PySem.W.Frag) : Sp := fun vs H Q _ => ∃ m : Nat, vs = [.int m] ∧ ∀ p H', Same H H' → H p = none → H' p = some (.tup (lotV m)) → Q (.ref p) H'
/-- lot_of, others: f makes a mask of a mask -/
def spLotOf (K : PySem.W.Frag) (C : Addr) (f : Nat → Nat → Nat) : Sp := fun vs H Q E => ∃ (c : V) (a : Addr) (xs : List V), vs = [c, .ref a] ∧ Kn K H c ∧ SqA K H a xs ∧ (∀ x ∈ xs, scalV x = true) ∧
  (good c (some 1) (some 8) = false → Err C H E "copies" c) ∧
  (∀ n : Nat, c = .int n → 1 ≤ n → n ≤ 8 → (badOf n xs = none → ∀ p H', Same H H' → H p = none → H' p = some (.tup (lotV (f n (maskV xs)))) → Q (.ref p) H') ∧ (∀ x, badOf n xs = some x → Err C H E "copy" x))
def spAllLots (K : PySem.W.Frag) (C : Addr) : Sp := fun vs H Q E => ∃ c : V, vs = [c] ∧ Kn K H c ∧ (good c (some 1) (some 8) = false → Err C H E "copies" c) ∧
  (∀ n : Nat, c = .int n → 1 ≤ n → n ≤ 8 → ∀ p ys H', Same H H' → H p = none → H' p = some (.lst ys) → Paired (fun m y => Lot K H' m y) (List.range (2 ^ n)) ys → Q (.ref p) H')
theorem good_copies {c : V} (h : good c (some 1) (some 8) = true) : ∃ n : Nat, c = .int n ∧ 1 ≤ n ∧ n ≤ 8 := by
  unfold good at h
  cases c with
  | int i =>
    simp at h
    exact ⟨i.toNat, by congr 1; omega, by omega, by omega⟩
  | _ => cases h
theorem copies_good {n : Nat} (h1 : 1 ≤ n) (h2 : n ≤ 8) : good (.int n) (some 1) (some 8) = true := by
  unfold good
  simp
  omega
theorem bitAnd_nat (a b : Nat) : Builtin.bitAnd (a : Int) (b : Int) = ((a &&& b : Nat) : Int) := by rw [PyProof.Rows.bitAnd_pp (by omega) (by omega), Int.toNat_natCast, Int.toNat_natCast]
theorem shl_nat (c : Nat) : (1 : Int) * (2 : Int) ^ ((c : Int)).toNat = ((1 <<< c : Nat) : Int) := by
  rw [Int.toNat_natCast, Int.one_mul, Nat.one_shiftLeft, Int.natCast_pow] <;> rfl
theorem and_bit (m c : Nat) : (((m &&& 1 <<< c : Nat) : Int) != 0) = m.testBit c := by
  have h : m &&& 1 <<< c = if m.testBit c then 1 <<< c else 0 := by
    refine Nat.eq_of_testBit_eq fun d => ?_
    rw [Nat.testBit_and, one_bit]
    by_cases e : c = d
    · subst e
      cases h : m.testBit c with
      | true => simp [one_bit]
      | false => simp
    · rw [decide_eq_false e, Bool.and_false]
      split
      · rw [one_bit, decide_eq_false e]
      · simp
  rw [h]
  have : 0 < 1 <<< c := by rw [Nat.one_shiftLeft]; exact Nat.two_pow_pos c
  cases m.testBit c with
  | true =>
    show (((1 <<< c : Nat) : Int) != 0) = true
    rw [bne_iff_ne]
    omega
  | false => rfl
/-! ### rules for tuples: enumerate(t), zip(t, u), t[::-1], t.count(b) -/
open AutoSeq1 (wpAny_loadPart') in
theorem enumT_new {v : Value} {o : Obj} {G : Heap → Prop} (B : Begins v o G) :
    Meets (Builtin.«enumerate.__new__» ⟨[.type "enumerate", v], []⟩) (fun _ R s => G s.heap ∧
      R (.ok (.ret (.ref (s.heap.push o).objs.size))) { s with heap := (s.heap.push o).push { cls := .type "enumerate", data := .fields #[.none, .bool false, .ref s.heap.objs.size, rawInt 0, .none, .none] } }) :=
  .of_wp fun prog w A R s h => by
    obtain ⟨hp, gl, dp, tk, os⟩ := s; obtain ⟨g1, h⟩ := h
    have sub0 := sub_enumerate
    have it1 : ∀ {A' : Around} {F : Value → Shared → Prop} {Q : Value → Shared → Prop}, Q (.ref hp.objs.size) ⟨hp.push o, gl, dp, tk, os⟩ → wpAny (model prog w) A' (pyIter v) Q F ⟨hp, gl, dp, tk, os⟩ :=
      fun k => B.iter prog w _ _ ⟨hp, gl, dp, tk, os⟩ _ g1 k
    wp_walk using it1
    refine wpAny_stack_any fun st => wpAny_pure ?_
    split
    · rename_i c _ _ _ _ _
      cases (c == Value.type "enumerate") <;> (wp_walk using it1; exact ⟨_, rfl, h⟩)
    · wp_walk using it1
      exact ⟨_, rfl, h⟩
theorem enumT_call {prog : Program} {w : World} {A : Around} {F : Value → Shared → Prop} {s : Shared} {v : Value} {o : Obj} {G : Heap → Prop} {Q : Value → Shared → Prop} (B : Begins v o G) (g1 : G s.heap)
    (h : ∀ h', IsEnum h' (s.heap.objs.size + 1) s.heap.objs.size 0 .none → h'.get? s.heap.objs.size = some o → (∀ b u, s.heap.get? b = some u → h'.get? b = some u) → Q (.ref (s.heap.objs.size + 1)) { s with heap := h' }) :
    wpAny (model prog w) A (call (.type "enumerate") [v]) Q F s := by
  refine callType_new PySem.F.called_enumerate (by decide) (PySem.F.typeCall_enumerate_1 _) (PySem.F.newCall_enumerate_1 _) (fun ob => PySem.F.args_object_init_2 ob _) PySem.F.entry_enumerate_new (enumT_new B) ⟨g1, ?_⟩
  have sz : (s.heap.push o).objs.size = s.heap.objs.size + 1 := Heap.size_push ..
  show _ ∧ _
  rw [sz]
  have en : IsEnum ((s.heap.push o).push { cls := .type "enumerate", data := .fields #[.none, .bool false, .ref s.heap.objs.size, rawInt 0, .none, .none] }) (s.heap.objs.size + 1) s.heap.objs.size 0 .none := by
    have z := Heap.get?_push_size (s.heap.push o) (o := { cls := .type "enumerate", data := .fields #[.none, .bool false, .ref s.heap.objs.size, rawInt 0, .none, .none] }) rfl
    rwa [sz] at z
  exact ⟨⟨_, en, rfl⟩, h _ en (Heap.get?_push_of_some _ (Heap.get?_push_size _ B.free)) fun b u z => Heap.get?_push_of_some _ (Heap.get?_push_of_some _ z)⟩
/-- the tuple at a, each item in a new pair with its place -/
def IteT (K : PySem.W.Frag) (a : Addr) : It :=
  ⟨fun i H => ∃ (xs : List V) (x : V), SqT K H a xs ∧ xs[i]? = some x, fun i H v H' => ∃ T x, v = .ref T ∧ H T = none ∧ H' = upd H T (.tup [.int (i : Nat), x]) ∧ ∀ xs, SqT K H a xs → xs[i]? = some x, fun i H => ∃ xs : List V, SqT K H a xs ∧ xs.length ≤ i⟩
/-- what the iterator of a tuple draws, from a place behind its end -/
theorem Dn {P : Program} {w : World} {A : Around} (its : Array Value) (it a : Addr) (hh : A.handled = none) (i : Nat) (hi : its.size ≤ i) :
    Draws P w A.in1 it [it, a] i (fun _ _ => False) (fun j h => h.IsTupleIter it a j ∧ h.IsTuple a its ∧ j = i) where
  live := fun _ _ st => st.1.elim fun o z => ⟨o, z.1⟩
  frame := fun _ _ _ st hk => ⟨st.1.at fun o e => hk it (by simp) o e, st.2.1.at fun o e => hk a (by simp) o e, st.2.2⟩
  item := fun j s Q E hj st _ => absurd st.2.2 (by omega)
  done := fun s Q E st hE => wpAny_nextOf_tuple_end (A := A.in1) hh st.1 st.2.1 (by simp; omega) hE
theorem turn_enumT {P : Program} {w : World} {K : PySem.W.Frag} {elts : List Expr} {kk : Nat} {tpos : Pos} (a e it : Addr) (hat : a ≠ it) (hae : a ≠ e) (hei : e ≠ it) :
    Turn P w K (.Tuple elts kk tpos) (IteT K a) [e, it] e (fun i h => (∃ old, IsEnum h e it ((i : Nat) : Int) old) ∧ h.IsTupleIter it a i) where
  mem := by simp
  obj := fun i h st b hb => by
    obtain ⟨⟨old, he⟩, ⟨o, ho, hc, hd⟩⟩ := st
    have bb : b = e ∨ b = it := by simpa using hb
    rcases bb with rfl | rfl
    · exact ⟨_, he, fun v q => nomatch q⟩
    · exact ⟨o, ho, fun v q => by rw [hd] at q; cases q⟩
  keep := fun i h h' st k => ⟨st.1.elim fun old he => ⟨old, k e (by simp) _ he⟩, st.2.at fun o q => k it (by simp) o q⟩
  item := by
    intro X hP hw hK hc i pins s σ H E I hf st hg
    subst hP hw hK
    obtain ⟨⟨old, he⟩, hit⟩ := st
    obtain ⟨xs, x, hq, hx⟩ := hg
    obtain ⟨its, rv, plc, hz⟩ := I.tuple hq
    obtain ⟨u, hu, ru⟩ := rv.get hx
    have el : e < s.heap.objs.size := Heap.lt_size he
    have il : it < s.heap.objs.size := by obtain ⟨_, z, _⟩ := hit; exact Heap.lt_size z
    have hlt : i < its.toArray.size := by
      rw [List.size_toArray]
      exact (List.getElem?_eq_some_iff.mp hu).1
    refine wpAny_pyNext_enum_itemD (Draws.tuple (A := X.A.in1) (show X.A.in1.handled = none from I.ok.hd hc) it a hat its.toArray) he ⟨hit, plc⟩ hlt hei (by simp [hei, Ne.symm hae]) fun y h' tk hy ho hst hT hsz hk => ?_
    have ey : y = u := by
      rw [show its.toArray[i]? = some u by simpa using hu] at hy
      exact (Option.some.inj hy).symm
    subst ey
    refine ⟨_, rfl, wpAny_letOwnedTupleGo_enum (s := { s with heap := h', toks := tk + 1 }) ho fun h'' he' sb => ?_⟩
    have t2 : h''.get? s.heap.objs.size = some { cls := .type "tuple", data := .seq #[.int i tk, y] } := (sb.2 _ (Nat.ne_of_gt el)).trans hT
    have new : ObjOk X.prog X.w (upd H s.heap.objs.size (.tup [.int (i : Nat), x])) h'' s.heap.objs.size (.tup [.int (i : Nat), x]) :=
      ⟨by show 2 ≤ sizeLine; decide, [.int i tk, y], .cons ⟨_, rfl⟩ (.cons ru .nil), ⟨_, t2, rfl, _, rfl⟩⟩
    have J : Inv X pins σ (upd H s.heap.objs.size (.tup [.int (i : Nat), x])) { s with heap := h'', toks := tk + 1 } :=
      I.turnedNew (t' := tk + 1) (ch := [e, it]) (fun b ob nb q => (sb.2 b (fun z => nb (by simp [z]))).trans (hk b ob (fun z => nb (by simp [z])) (fun z => nb (by simp [z])) q)) hf (Nat.le_refl _) new
    refine ⟨.ref s.heap.objs.size, _, J, rfl, ⟨_, x, rfl, I.hok.fresh (Nat.le_refl _), rfl, fun ys hys => by rw [I.tuple_inj hys hq]; exact hx⟩, ⟨⟨y, ?_⟩, hst.1.at fun o q => (sb.2 it (Ne.symm hei)).trans q⟩, fun b hb => ?_⟩
    · rw [show ((i + 1 : Nat) : Int) = (i : Int) + 1 by omega]
      exact he'
    · have bb : b = e ∨ b = it := by simpa using hb
      have bl : b < s.heap.objs.size := by
        rcases bb with z | z
        · rw [z]; exact el
        · rw [z]; exact il
      rw [upd_ne (Nat.ne_of_lt bl)]
      exact (hf b hb).1
  done := by
    intro X hP hw hK hc i pins s σ H E I hf st hg
    subst hP hw hK
    obtain ⟨⟨old, he⟩, hit⟩ := st
    obtain ⟨xs, hq, hx⟩ := hg
    obtain ⟨its, rv, plc, hz⟩ := I.tuple hq
    obtain ⟨f0, f1, f2, f3, f4, f5⟩ := hf it (by simp)
    have hn : its.toArray.size ≤ i := by rw [List.size_toArray, ← rv.length]; exact hx
    refine wpAny_pyNext_enum_endD (Dn its.toArray it a (I.ok.hd hc) i hn) he ⟨hit, plc, rfl⟩ fun h' eb => ⟨rfl, I.turned (t' := s.toks) (fun b o hb q => eb b o hb q) f0 f1 f3 f4 f5⟩
  self := fun A i s Q E st h => st.1.elim fun _ he => wpAny_pyIter_enum he h
def iEnumA (K : PySem.W.Frag) (ta : TA) : TI := fun σ H R => ta σ H fun vs H1 => ∃ a xs, vs = [.ref a] ∧ ((SqL K H1 a xs ∧ R (Ite K a) H1) ∨ (SqT K H1 a xs ∧ R (IteT K a) H1))
theorem pi_enumA {X : Cx} {e : Expr} {ta : TA} {p pos tpos : Pos} {elts : List Expr} {kk : Nat} (hg : Gl X "enumerate") (hm : X.mg "enumerate" = none) (ha : PA X [e] ta) (hs : starEach [e] X.env = [(false, eval e X.env)] := by rfl) :
    PI X (.Tuple elts kk tpos) (.Call (.Name "enumerate" p) [e] [] pos) (iEnumA X.K ta) := by
  constructor
  intro pins s σ H R I h
  refine Call_ (ld_blt I hg hm boot_enumerate (PyProof.Rows.callWith_type1 (thn (ha.run pos pins s σ H _ I h) fun us t ⟨vs, Hb, J, rr, a, xs, ex, k⟩ => ?_) hs rfl))
  subst ex
  obtain ⟨u, rfl, ru⟩ := vals1 rr
  cases (show u = Value.ref a from ru)
  rcases k with ⟨hq, k⟩ | ⟨hq, k⟩
  · obtain ⟨its, rv, plc, hz⟩ := J.list hq
    refine call_enumerate_list plc.isList fun h' he hit hsz hk => wpAny_pyIter_enum he ?_
    refine ⟨t.heap.objs.size + 1, [t.heap.objs.size + 1, t.heap.objs.size], _, _, Hb, rfl, J.kept (t' := t.toks) hk, turn_enum a (t.heap.objs.size + 1) t.heap.objs.size, ⟨⟨.none, he⟩, hit, Nat.succ_ne_self _⟩, fun b hb => ?_, k⟩
    have bb : b = t.heap.objs.size + 1 ∨ b = t.heap.objs.size := by simpa using hb
    have le : t.heap.objs.size ≤ b := by
      rcases bb with z | z
      · rw [z]; exact Nat.le_succ _
      · rw [z]; exact Nat.le_refl _
    exact J.fpOk le (J.hok.fresh le)
  · obtain ⟨its, rv, plc, hz⟩ := J.tuple hq
    have al : a < t.heap.objs.size := by obtain ⟨_, z, _⟩ := plc; exact Heap.lt_size z
    refine enumT_call (begins_tuple a its.toArray) plc fun h' he hit hk => wpAny_pyIter_enum he ?_
    refine ⟨t.heap.objs.size + 1, [t.heap.objs.size + 1, t.heap.objs.size], _, _, Hb, rfl, J.kept (t' := t.toks) hk, turn_enumT a (t.heap.objs.size + 1) t.heap.objs.size (Nat.ne_of_lt al) (Nat.ne_of_lt (Nat.lt_succ_of_lt al)) (Nat.succ_ne_self _), ⟨⟨.none, he⟩, ⟨_, hit, rfl, rfl⟩⟩, fun b hb => ?_, k⟩
    have bb : b = t.heap.objs.size + 1 ∨ b = t.heap.objs.size := by simpa using hb
    have le : t.heap.objs.size ≤ b := by
      rcases bb with z | z
      · rw [z]; exact Nat.le_succ _
      · rw [z]; exact Nat.le_refl _
    exact J.fpOk le (J.hok.fresh le)
theorem walk_enumT {K : PySem.W.Frag} {a : Addr} {xs : List V} : Walk (IteT K a) xs.length (fun H => SqT K H a xs) (YPair (fun i => some (.int (i : Nat))) (fun i => xs[i]?)) := by
  refine ⟨fun i _ hi q => ⟨xs, xs[i], q, by simp [hi]⟩, fun _ q => ⟨xs, q, Nat.le_refl _⟩, fun i H v H' _ q y => ?_⟩
  obtain ⟨T, x, h1, h2, h3, h4⟩ := y
  exact ⟨T, .int (i : Nat), x, h1, h2, h3, rfl, h4 xs q⟩
theorem walk_zipT {K : PySem.W.Frag} {a b : Addr} {xs ys : List V} {n : Nat} (hn : n = min xs.length ys.length) : Walk (RZ.ItzT K a b) n (fun H => SqT K H a xs ∧ SqT K H b ys) (YPair (fun i => xs[i]?) (fun i => ys[i]?)) := by
  subst hn
  refine ⟨fun i _ hi q => ⟨xs, ys, xs[i]'(by omega), ys[i]'(by omega), q.1, q.2, by simp [show i < xs.length by omega], by simp [show i < ys.length by omega]⟩, fun _ q => ⟨xs, ys, q.1, q.2, by omega⟩, fun i H v H' _ q y => ?_⟩
  obtain ⟨T, x, z, h1, h2, h3, h4, h5⟩ := y
  exact ⟨T, x, z, h1, h2, h3, h4 xs q.1, h5 ys q.2⟩
/-! ### t[::-1], t.count(x) of a tuple -/
theorem applied_rev {prog : Program} {w : World} {A : Around} {F : Value → Shared → Prop} {s : Shared} {sl : Addr} {vl vu vs : Value} {n : Nat} {Q : Int × Int × Nat → Shared → Prop} (hs : s.heap.IsSliceOf sl vl vu vs) (pl : IsPart vl none) (pu : IsPart vu none) (ps : IsPart vs (some (-1)))
    (h : Q ((n : Int) - 1, -1, n) s) : wpAny (model prog w) A (Builtin.Slice.sliceApplied (.ref sl) (pure (n : Int))) Q F s := by
  obtain ⟨ob, ho, -, hd⟩ := id hs
  unfold Builtin.Slice.sliceApplied Builtin.Slice.sliceFields
  refine wpAny_bind (wpAny_bind (wpAny_field ho hd (x := vl) rfl (wpAny_bind (wpAny_field ho hd (x := vu) rfl (wpAny_bind (wpAny_field ho hd (x := vs) rfl (wpAny_pure ?_)))))))
  refine wpAny_bind (HT.slicePart_ ps ?_)
  show wpAny _ _ (if ((-1 : Int) == 0) = true then _ else _) _ _ s
  rw [if_neg (by decide)]
  refine wpAny_bind (HT.slicePart_ pl (wpAny_bind (HT.slicePart_ pu (wpAny_bind (wpAny_pure ?_)))))
  have e1 : Builtin.Slice.sliceAdjust none none (-1) (n : Int) = ((n : Int) - 1, -1) := rfl
  have e2 : Builtin.Slice.slicePlaces ((n : Int) - 1) (-1) (-1) = n := by
    unfold Builtin.Slice.slicePlaces
    rw [if_neg (by decide)]
    have e3 : (- -1 : Int) = 1 := by decide
    split
    · rw [e3, Int.ediv_one]
      omega
    · show (0 : Int).toNat = n
      omega
  show wpAny _ _ (match Builtin.Slice.sliceAdjust none none (-1) (n : Int) with | (lo, hi) => pure (lo, (-1 : Int), Builtin.Slice.slicePlaces lo hi (-1))) _ _ s
  rw [e1]
  show wpAny _ _ (pure ((n : Int) - 1, (-1 : Int), Builtin.Slice.slicePlaces ((n : Int) - 1) (-1) (-1))) _ _ s
  rw [e2]
  exact wpAny_pure h
theorem pick_rev (its : Array Value) : (List.range its.size).filterMap (fun (k : Nat) => its[((its.size : Int) - 1 + (k : Int) * -1).toNat]?) = its.toList.reverse := by
  have e : (List.range its.size).filterMap (fun (k : Nat) => its[((its.size : Int) - 1 + (k : Int) * -1).toNat]?) = (List.range its.size).map (fun k => its.toList.reverse.getD k .none) := by
    rw [← List.filterMap_eq_map]
    refine fm_congr fun k hk => ?_
    have hk := List.mem_range.mp hk
    have e1 : ((its.size : Int) - 1 + (k : Int) * -1).toNat = its.size - 1 - k := by omega
    rw [e1]
    simp [List.getD_eq_getElem?_getD, hk]
  rw [e]
  have := range_get id .none its.toList.reverse
  rw [List.length_reverse, Array.length_toList, List.map_id] at this
  exact this
theorem getItem_tuple_rev {prog : Program} {w : World} {A : Around} {F : Value → Shared → Prop} {s : Shared} {t sl : Addr} {its : Array Value} {vl vu vs : Value} {Q : Value → Shared → Prop} (ht : IsTup s.heap t its) (hs : s.heap.IsSliceOf sl vl vu vs) (pl : IsPart vl none) (pu : IsPart vu none) (ps : IsPart vs (some (-1)))
    (h : Q (.ref s.heap.objs.size) { s with heap := s.heap.push { cls := .type "tuple", data := .seq its.toList.reverse.toArray } }) (hz : its.size ≤ sizeLine) : wpAny (model prog w) A (getItem (.ref t) (.ref sl)) Q F s := by
  have hok : sizeOk (.seq its.toList.reverse.toArray) := by
    show its.toList.reverse.toArray.size ≤ sizeLine
    rw [List.size_toArray, List.length_reverse, Array.length_toList]
    exact hz
  obtain ⟨os, hos, hcs, hds⟩ := id hs
  have tsl : s.TypeIs (.ref sl) "slice" := ⟨os, hos, hcs⟩
  unfold getItem
  try with_reducible refine wpAny_holding ?_
  first | refine wpAny_bind (wpAny_pure ?_) | skip
  refine wpAny_bind (wpAny_sequenceKey ht.typeIs (by decide) (wpAny_bind (wpAny_callSpecial?_slot (name := Str.ofString "__getitem__") ht.typeIs PyProof.Rows.slot_tuple_getitem
    (wpAny_call_entry PyProof.Rows.slot_tuple_getitem ht.typeIs entry_tuple_getitem ?_ (args_tuple_getitem _ _)))))
  show wpAny _ _ (Builtin.Tuple.tupleItemsOf (.ref t) >>= _) _ _ s
  refine wpAny_bind (tupleItemsOf_ ht (wpAny_bind (wpAny_typeOf tsl ?_)))
  rw [if_pos (by decide)]
  refine wpAny_bind (applied_rev hs pl pu ps ?_)
  have no : ¬ (((its.size : Int) - 1 == 0 && (-1 : Int) == 1 && its.size == its.size) = true) := by simp
  show wpAny _ _ (if ((its.size : Int) - 1 == 0 && (-1 : Int) == 1 && its.size == its.size) = true then _ else _) _ _ s
  rw [if_neg no, pick_rev]
  first
    | exact wpAny_bind (m := Builtin.Tuple.tupleExact _) (wpAny_newObj_type (wpAny_pure ⟨_, rfl, wpAny_pure h⟩) hok)
    | exact wpAny_bind (m := Builtin.Tuple.tupleExact _) (wpAny_newObj_type (wpAny_bind (wpAny_pure (wpAny_pure ⟨_, rfl, wpAny_pure h⟩))) hok)
    | exact wpAny_bind (wpAny_bind (m := Builtin.Tuple.tupleExact _) (wpAny_newObj_type (wpAny_pure (wpAny_pure ⟨_, rfl, wpAny_pure h⟩)) hok))
    | exact wpAny_bind (wpAny_bind (m := Builtin.Tuple.tupleExact _) (wpAny_newObj_type (wpAny_pure ⟨_, rfl, wpAny_pure h⟩) hok))
/-- t[::-1] -/
def tRevT (K : PySem.W.Frag) (te : TE) : TE := fun σ H Q => te σ H fun x H1 => ∃ a xs, x = .ref a ∧ SqT K H1 a xs ∧ ∀ p, H1 p = none → Q (.ref p) (upd H1 p (.tup xs.reverse))
theorem pe_revT {X : Cx} {e : Expr} {te : TE} {k : Nat} {p1 p2 p3 pos : Pos} (he : PE X e te) : PE X (.Subscript e (.Slice none none (some (.UnaryOp .USub (.Constant (.int 1) k p1) p2)) p3) pos) (tRevT X.K te) := by
  constructor
  intro pins s σ H Q I h
  refine Subscript_ (thn (he.run pins s σ H _ I h) fun v s1 ⟨x, G1, I1, r1, a, xs, ex, hx, k1⟩ => ?_)
  subst ex
  cases r1
  have st : PO X (some (.UnaryOp .USub (.Constant (.int 1) k p1) p2)) (tPart (tUn (rU fun i => .int (-i)) (tC (.int 1)))) := po_some (pe_un un_neg pe_int)
  refine wpAny_Slice (thn (po_none.run pins s1 σ G1 (fun o G => o = none ∧ G = G1) I1 ⟨rfl, rfl⟩) fun vl s2 ⟨l, G2, I2, pl, el, g2⟩ => ?_)
  subst el g2
  refine thn (po_none.run pins s2 σ G2 (fun o G => o = none ∧ G = G2) I2 ⟨rfl, rfl⟩) fun vu s3 ⟨u, G3, I3, pu, eu, g3⟩ => ?_
  subst eu g3
  refine thn (st.run pins s3 σ G3 (fun o G => o = some (-1) ∧ G = G3) I3 ⟨1, rfl, -1, rfl, rfl, rfl⟩) fun vs s4 ⟨o, G4, I4, ps, eo, g4⟩ => ?_
  subst eo g4
  have I5 : Inv X pins σ G4 { s4 with heap := s4.heap.push { cls := .type "slice", data := .fields #[vl, vu, vs] } } := I4.kept (t' := s4.toks) fun b ob q => Heap.get?_push_of_some _ q
  obtain ⟨its, r, ht, hz⟩ := I5.tuple hx
  have hlen := r.length
  show wpAny (model X.prog X.w) X.A (subscriptTail e (.Slice none none (some (.UnaryOp .USub (.Constant (.int 1) k p1) p2)) p3) (.ref a) (.ref s4.heap.objs.size)) (EP X pins σ Q) X.xe { s4 with heap := s4.heap.push { cls := .type "slice", data := .fields #[vl, vu, vs] } }
  refine tail_any (ops := [.ref a, .ref s4.heap.objs.size]) ht.typeIs (PyProof.Rows.slot_tuple_getitem.lookup) ?_ (by with_unfolding_all rfl)
  refine getItem_tuple_rev ht (Heap.IsSliceOf.new _ vl vu vs) pl pu ps ?_ (by rw [List.size_toArray]; omega)
  refine ⟨.ref _, _, I5.laid (t' := s4.toks) (o := .tup xs.reverse) (fun b ob q => Heap.get?_push_of_some _ q) (Nat.le_refl _) ?_, rfl, k1 _ (I5.hok.fresh (Nat.le_refl _))⟩
  exact ⟨by rw [List.length_reverse]; exact hz, _, r.reverse, IsTup.new _ _⟩
/-- t.count(c), a tuple of bools -/
def rCntT (K : PySem.W.Frag) : V → List V → Hp → VK → Prop := fun x xs H Q => ∃ (p : Addr) (bs : List Bool) (c : Bool), x = .ref p ∧ xs = [.bl c] ∧ SqT K H p (bs.map V.bl) ∧ Q (.int (bs.count c : Nat)) H
def isB (c : Bool) (u : Value) : Bool := match u with
  | .bool b => b == c
  | _ => false
theorem isB_all {c : Bool} : ∀ {bs : List Bool} {its : List Value}, Vals (bs.map V.bl) its → (∀ z ∈ its, ∃ b, z = .bool b) ∧ its.countP (isB c) = bs.count c
  | [], _, .nil => ⟨fun z hz => (nomatch hz), rfl⟩
  | b :: r, _, .cons h t => by
    obtain ⟨h1, h2⟩ := isB_all (c := c) t
    cases h
    refine ⟨fun z hz => ?_, ?_⟩
    · rcases List.mem_cons.mp hz with rfl | hz
      · exact ⟨b, rfl⟩
      · exact h1 z hz
    · rw [List.countP_cons, List.count_cons, h2] <;> rfl
theorem mt_tcount {X : Cx} : MtR X "tuple.count" (rCntT X.K) := by
  intro pins s σ H x xs v us Q I rx rxs h
  obtain ⟨p, bs, c, rfl, rfl, hs, q⟩ := h
  cases rx
  obtain ⟨u, rfl, ru⟩ := Vals.one rxs
  obtain ⟨its, rv, ⟨⟨cls, dd, data, sl⟩, ho, hc, n, hd⟩, hlen⟩ := I.tuple hs
  simp only at hc hd
  subst hc hd
  obtain ⟨h1, h2⟩ := isB_all (c := c) rv
  refine call_meets PySem.F.slot_tuple_count ⟨_, ho, rfl⟩ PySem.F.entry_tuple_count (PySem.F.args_tuple_count_2 _ _) (SeqAt.tuple_countAt p its.toArray n dd sl u (isB c)) ⟨ho, fun z hz => ?_, ?_⟩
  · obtain ⟨b, rfl⟩ := h1 z (by simpa using hz)
    exact eqAt_V (y := .bl b) (x := .bl c) rfl ru rfl rfl
  · refine ⟨.int (bs.count c : Nat), H, I.tok _, ⟨s.toks, ?_⟩, q⟩
    show Value.int ((its.toArray.toList.countP (isB c) : Nat) : Int) s.toks = _
    rw [show its.toArray.toList = its from rfl, h2]
/-- tuple(list), the new object known as it is -/
def rTupZ (K : PySem.W.Frag) : List V → Hp → VK → Prop := fun xs H Q => ∃ p ys, xs = [.ref p] ∧ SqL K H p ys ∧ ∀ l (ob : Obj), H l = none → ob.dict = none → Q (.ref l) (upd H l (.frz ob (.tup ys)))
theorem call_tuple_ofZ {X : Cx} : CallR X (.type "tuple") (rTupZ X.K) := by
  intro pins s σ H xs us Q I r h
  obtain ⟨p, ys, rfl, hq, q⟩ := h
  obtain ⟨u, rfl, ru⟩ := vals1 r
  cases ru
  obtain ⟨its, rv, plc, hz⟩ := I.list hq
  have ln := rv.length
  refine call_tuple_list plc.isList (fun g kp => ?_) (by simp only [List.size_toArray] <;> omega)
  have J : Inv X pins σ H { s with heap := g } := I.kept (t' := s.toks) kp
  have J2 : Inv X pins σ (upd H g.objs.size (.frz { cls := .type "tuple", data := .seq its.toArray } (.tup ys))) { s with heap := g.push { cls := .type "tuple", data := .seq its.toArray } } :=
    J.laid (t' := s.toks) (fun b o e => Heap.get?_push_of_some _ e) (Nat.le_refl _) (show ObjOk X.prog X.w _ _ _ (.frz { cls := .type "tuple", data := .seq its.toArray } (.tup ys)) from ⟨Heap.get?_push_size _ rfl, hz, its, rv, IsTup.new _ _⟩)
  exact ⟨.ref g.objs.size, _, J2, rfl, q _ _ (J.hok.fresh (Nat.le_refl _)) rfl⟩
/-- t.count(c), t a tuple of bools known as it is -/
def tCntZ (to : TE) (ts : TA) : TE := fun σ H Q => to σ H fun x H1 => ∃ (p : Addr) (ob : Obj) (bs : List Bool), x = .ref p ∧ H1 p = some (.frz ob (.tup (bs.map V.bl))) ∧ ob.dict = none ∧ ts σ H1 fun ys H2 => ∃ c, ys = [.bl c] ∧ H2 p = some (.frz ob (.tup (bs.map V.bl))) ∧ Q (.int (bs.count c : Nat)) H2
theorem pe_tcount {X : Cx} {o e : Expr} {to : TE} {ts : TA} {apos cpos : Pos} (ho : PE X o to) (ha : PA X [e] ts) (hbase : attributeBase o "count" X.env (eval o X.env) = eval o X.env := by rfl)
    (hfew : ((backTo cpos (starEach [e] X.env)).all (fun x => !x.1) && (backToKw cpos (keywordEach [] X.env)).all (fun x => x.1.isSome)
      && decide ([e].length + ([] : List Keyword).length + (if ([] : List Keyword).isEmpty then 0 else 1) < 30)) = true := by rfl)
    (hline : (apos.endLine == cpos.line) = true := by rfl) (hs : starEach [e] X.env = (false, eval e X.env) :: starEach [] X.env := by rfl) (hplain : (backTo cpos (starEach [] X.env)).any (·.1) = false := by rfl) :
    PE X (.Call (.Attribute o "count" apos) [e] [] cpos) (tCntZ to ts) := by
  constructor
  intro pins s σ H Q I h
  refine wpAny_Call_method_late hbase hfew hline rfl (thn (ho.run pins s σ H _ I h) fun v t ⟨x, H1, J, rx, p, ob, bs, ex, hp, hdn, q⟩ => ?_)
  subst ex
  obtain rfl : v = Value.ref p := rx
  obtain ⟨hg, hlen, its, rv, ⟨ob2, hg2, hc, -⟩⟩ := J.hok p _ hp
  obtain rfl : ob2 = ob := by
    rw [hg] at hg2
    exact (Option.some.inj hg2).symm
  refine ⟨"tuple", "tuple.count", PySem.F.plainAttrs_tuple, PySem.F.slot_tuple_count, PySem.F.type_tuple_count, ⟨_, hg, hc⟩, fun a ea => by cases ea; exact ⟨_, hg, hdn⟩, ?_⟩
  have hA := ha.run cpos pins t σ H1 _ J q
  rw [hs] at hA ⊢
  refine Calls.callWith_builtin (by show (false || (backTo cpos (starEach [] X.env)).any (·.1)) = false; rw [hplain] <;> rfl) (Calls.evalArgs_plain ?_)
  refine thn hA fun us t2 ⟨vs, H2, J2, r2, c, e1, h2, q2⟩ => ?_
  subst e1
  exact mt_tcount pins t2 σ H2 (.ref p) [.bl c] (.ref p) us Q J2 rfl r2 ⟨p, bs, c, rfl, rfl, .inl (.inr ⟨_, h2⟩), q2⟩
/-! ### own classes: x in o, C(a, *b), C(*b), defs with *b, C.m(a) -/
section
variable {X : Cx} {CX : CXT} {k : Nat} {f C : Addr} {fd : FuncData} {ps : List Str} {sp : Sp} {E : XK}
def rInOwn (C : Addr) (sp : Sp) (E : XK) (g : Bool → Bool) : R2 := fun x y H Q => IsC C H y ∧ sp [y, x] H (fun z H' => ∃ b, z = .bl b ∧ Q (.bl (g b)) H') E
theorem contains_own {pins : List (Addr × Obj)} {σ : L2.St} {H : Hp} {s : Shared} {x : V} {v : Value} {a dx : Addr} {fs : List (Str × V)} {Q : Bool → Hp → Prop} (hs : PySem.W.findIn X.K (.ref C) "__contains__" = some (some (.ref f))) (hf : PySem.W.isFn X.K (.ref f) = true)
    (F : FnOk X.prog X.w X.K X.mg X.base CX k f fd ps sp) (hr : Room k X.A) (hb : Binds X.K fd ps []) (hx : Passes CX X E) (I : Inv X pins σ H s) (ha : H a = some (.ins C dx fs)) (rx : RelV x v) (h : sp [.ref a, x] H (fun z H' => ∃ b, z = .bl b ∧ Q b H') E) :
    wpAny (model X.prog X.w) X.A (contains (.ref a) v) (TP X pins σ Q) X.xe s := by
  obtain ⟨oa, J⟩ := inst_of I ha
  unfold contains
  refine wpAny_holding (wpAny_bind (wpAny_bind (J.type.here ((PySem.W.looks_findIn I.kIn hs).here ?_))))
  rw [if_neg (by simp)]
  refine wpAny_bind (PySem.W.unlessNone_K I.kIn J hs hf (wpAny_mono (run_fn (us := [.ref a, v]) (vs := [.ref a, x]) F hr hb .nil hx I (.cons rfl (.cons rx .nil)) (show sp ([V.ref a, x] ++ []) H (fun z H' => ∃ b, z = .bl b ∧ Q b H') E from h)) (fun w t z => ?_) fun _ _ z => z))
  obtain ⟨z', H', I', rz, b, rfl, q⟩ := z
  exact tru_ok pins t σ H' (.bl b) w Q I' rz ⟨b, rfl, q⟩
theorem op_inOwn (hs : PySem.W.findIn X.K (.ref C) "__contains__" = some (some (.ref f))) (hf : PySem.W.isFn X.K (.ref f) = true) (F : FnOk X.prog X.w X.K X.mg X.base CX k f fd ps sp) (hr : Room k X.A) (hb : Binds X.K fd ps []) (hx : Passes CX X E) :
    OpR X (compareOp .In) (rInOwn C sp E id) := by
  intro pins s σ H x y v u Q I rx ry h
  obtain ⟨⟨a, dx, fs, rfl, ha⟩, q⟩ := h
  cases (show u = Value.ref a from ry)
  exact wpAny_bind (wpAny_mono (contains_own (Q := fun b H' => Q (.bl b) H') hs hf F hr hb hx I ha rx q) (fun b t ⟨H', I', q⟩ => wpAny_pure ⟨.bl b, H', I', rfl, q⟩) fun _ _ z => z)
theorem op_notInOwn (hs : PySem.W.findIn X.K (.ref C) "__contains__" = some (some (.ref f))) (hf : PySem.W.isFn X.K (.ref f) = true) (F : FnOk X.prog X.w X.K X.mg X.base CX k f fd ps sp) (hr : Room k X.A) (hb : Binds X.K fd ps []) (hx : Passes CX X E) :
    OpR X (compareOp .NotIn) (rInOwn C sp E not) := by
  intro pins s σ H x y v u Q I rx ry h
  obtain ⟨⟨a, dx, fs, rfl, ha⟩, q⟩ := h
  cases (show u = Value.ref a from ry)
  exact wpAny_bind (wpAny_mono (contains_own (Q := fun b H' => Q (.bl (!b)) H') hs hf F hr hb hx I ha rx q) (fun b t ⟨H', I', q⟩ => wpAny_pure ⟨.bl (!b), H', I', rfl, q⟩) fun _ _ z => z)
open StX in
/-- C(a, .., *b) -/
theorem pe_makeS2 {x : Str} {e : Expr} {es : List Expr} {t : TA} {p pos : Pos} (M : Mk X.K C f) (F : FnR X.prog X.w X.K X.mg X.base CX k f sp) (hr : Room (k + 1) X.A) (hg : Gl X x) (hm : X.mg x = some (.ref C)) (hx : Passes CX X E) (ha : PA X (e :: es) t) (hdb : (x == ("__debug__" : Str)) = false := by decide)
    (he : starEach (e :: es) X.env = (false, eval e X.env) :: starEach es X.env := by rfl) (hst : (backTo pos (starEach es X.env)).any (·.1) = true := by rfl) : PE X (.Call (.Name x p) (e :: es) [] pos) (tMakeR C sp E t) := by
  constructor
  intro pins s σ H Q I h
  exact wpAny_Call_Name_kw (ld_glob I hg hm (PySem.W.callWith_S2 (h₀ := X.base) I.ok.mod.kin M.kp (thn (ha.run pos pins s σ H _ I h) fun us t ⟨vs, H1, I1, r, q⟩ => ⟨I1.kIn, run_makeR M F hr hx I1 r q⟩) he hst) hdb)
open StX in
/-- C(*b) -/
theorem pe_makeS1 {x : Str} {e : Expr} {te : TE} {p sp_ pos : Pos} (M : Mk X.K C f) (F : FnR X.prog X.w X.K X.mg X.base CX k f sp) (hr : Room (k + 1) X.A) (hg : Gl X x) (hm : X.mg x = some (.ref C)) (hx : Passes CX X E) (he : PE X e te) (hdb : (x == ("__debug__" : Str)) = false := by decide)
    (hst : starEach [.Starred e sp_] X.env = [(true, eval e X.env)] := by rfl) :
    PE X (.Call (.Name x p) [.Starred e sp_] [] pos) (fun σ H Q => te σ H fun y H1 => ∃ a xs, y = V.ref a ∧ (SqT X.K H1 a xs ∨ SqL X.K H1 a xs) ∧ ∀ x dx, H1 x = none → H1 dx = none → dx ≠ x → sp (V.ref x :: xs) (upd (upd H1 dx (.own x)) x (.ins C dx [])) (fun v H2 => v = .non ∧ Q (.ref x) H2) E) := by
  constructor
  intro pins s σ H Q I h
  refine wpAny_Call_Name_kw (ld_glob I hg hm (PySem.W.callWith_S (h₀ := X.base) I.ok.mod.kin M.kp (thn (he.run pins s σ H _ I h) fun v t ⟨y, H1, I1, ry, a, xs, ey, hxs, q⟩ => ?_) hst) hdb)
  subst ey
  obtain rfl : v = Value.ref a := ry
  exact star_any I1 hxs fun us t2 I2 rv => ⟨I2.kIn, run_makeR M F hr hx I2 rv q⟩
end
/-- what a def with a star behind its parameters is asked -/
def spStar (n : Nat) (sp : Sp) : Sp := fun vs H Q E => ∃ ws rest, vs = ws ++ rest ∧ ws.length = n ∧ rest.length ≤ sizeLine ∧ ∀ p, H p = none → sp (ws ++ [V.ref p]) (upd H p (.tup rest)) Q E
theorem Fun.okStar {P : Program} {w : World} {K : PySem.W.Frag} {mg : Str → Option Value} {base : Heap} {x qual : Str} {st : Stmt} {f : Addr} {fd : FuncData} {N ps : List Str} {pv : Str} {k : Nat} {sp : Sp} (F : Fun K x qual st f fd) (S : FnScope N (ps ++ [pv]) (defScope st))
    (hb : ∀ (kV doc pm : Value) (an : Option Addr) (cdv ct : Value) (us rest : List Value), us.length = ps.length → bindArgs (PySem.W.fnOf x qual (defArgs st) (defBody st) (defScope st) .none kV doc pm an cdv ct) ⟨us ++ rest, []⟩ = (newTuple rest >>= fun t => pure (ps.zip us ++ [(pv, t)])))
    (hbody : ∀ (cdv : Value) (A : Around) (outer : List Env) (s : Shared) (H : Hp) (vs : List V) (Q : VK) (E : XK), Room k (A.deeper (envOfC qual (defScope st) s.heap.objs.size f cdv)) → sp vs H Q E →
      ∃ t, PSs (cxOf (L2.CX P w) P w K mg base N qual (defScope st) f cdv A outer s H E) (defBody st) t ∧ t { nx := fun _ H' => Q .non H', rt := Q } (start N vs) H) : FnR P w K mg base (L2.CX P w) (k + 1) f (spStar ps.length sp) := by
  obtain ⟨oc, od, kV, doc, pm, an, cdv, ct, osl, rfl, lk, hcd⟩ := F.ex
  exact StX.fn_star lk hcd S StX.cxUp (hb kV doc pm an cdv ct) fun A outer s H vs Q E hr h => hbody cdv A outer s H vs Q E hr h
/-! ### families: the mathematics -/
/-- m without its bit c -/
def cl (m c : Nat) : Nat := m - (m &&& 1 <<< c)
theorem and_one (m c : Nat) : m &&& 1 <<< c = if m.testBit c then 1 <<< c else 0 := by
  refine Nat.eq_of_testBit_eq fun d => ?_
  rw [Nat.testBit_and, one_bit]
  by_cases e : c = d
  · subst e
    cases h : m.testBit c with
    | true => simp [one_bit]
    | false => simp
  · rw [decide_eq_false e, Bool.and_false]
    split
    · rw [one_bit, decide_eq_false e]
    · simp
theorem cl_le (m c : Nat) : cl m c ≤ m := Nat.sub_le _ _
theorem cl_bit8 : ∀ m : Nat, m < 256 → ∀ c : Nat, c < 8 → ∀ i : Nat, i < 8 → (cl m c).testBit i = (m.testBit i && !decide (i = c)) := by decide +kernel
theorem bit_big {m i : Nat} (h : m < 256) (hi : 8 ≤ i) : m.testBit i = false := Nat.testBit_lt_two_pow (Nat.lt_of_lt_of_le h (Nat.pow_le_pow_right (by decide) hi : 2 ^ 8 ≤ 2 ^ i))
theorem cl_bit {m c : Nat} (h : m < 256) (hc : c < 8) (i : Nat) : (cl m c).testBit i = (m.testBit i && !decide (i = c)) := by
  rcases Nat.lt_or_ge i 8 with k | k
  · exact cl_bit8 m h c hc i k
  · rw [bit_big (Nat.lt_of_le_of_lt (cl_le m c) h) k, bit_big h k] <;> rfl
/-- k is within m -/
def Sub (k m : Nat) : Prop := ∀ i, k.testBit i = true → m.testBit i = true
def subB (k m : Nat) : Bool := k &&& m == k
theorem subB_iff {k m : Nat} : subB k m = true ↔ Sub k m := by
  unfold subB Sub
  rw [beq_iff_eq]
  constructor
  · intro e i h
    rw [← e, Nat.testBit_and] at h
    exact (Bool.and_eq_true_iff.mp h).2
  · intro h
    refine Nat.eq_of_testBit_eq fun i => ?_
    rw [Nat.testBit_and]
    cases e : k.testBit i with
    | true => rw [h i e] <;> rfl
    | false => rfl
theorem Sub.refl (k : Nat) : Sub k k := fun _ h => h
theorem Sub.trans {a b c : Nat} (h : Sub a b) (k : Sub b c) : Sub a c := fun i x => k i (h i x)
theorem Sub.le {k m : Nat} (h : Sub k m) : k ≤ m := by
  have e := subB_iff.mpr h
  unfold subB at e
  rw [beq_iff_eq] at e
  rw [← e]
  exact Nat.and_le_right
theorem sub_cl {m c : Nat} (h : m < 256) (hc : c < 8) : Sub (cl m c) m := fun i x => by
  rw [cl_bit h hc] at x
  exact (Bool.and_eq_true_iff.mp x).1
theorem sub_zero {k : Nat} (h : Sub k 0) : k = 0 := Nat.eq_of_testBit_eq fun i => by
  cases e : k.testBit i with
  | true =>
    have := h i e
    simp at this
  | false => simp
theorem sub_top {n k : Nat} (h : k < 2 ^ n) : Sub k (2 ^ n - 1) := fun i x => by
  rw [Nat.testBit_two_pow_sub_one, decide_eq_true_eq]
  rcases Nat.lt_or_ge i n with z | z
  · exact z
  · rw [Nat.testBit_lt_two_pow (Nat.lt_of_lt_of_le h (Nat.pow_le_pow_right (by decide) z))] at x
    cases x
def upB (ms : List Nat) (m : Nat) : Bool := ms.any fun k => subB k m
theorem upB_iff {ms : List Nat} {m : Nat} : upB ms m = true ↔ ∃ k ∈ ms, Sub k m := by
  unfold upB
  rw [List.any_eq_true]
  exact ⟨fun ⟨k, h, e⟩ => ⟨k, h, subB_iff.mp e⟩, fun ⟨k, h, e⟩ => ⟨k, h, subB_iff.mpr e⟩⟩
/-- growing copy by copy -/
def growN : Nat → (Nat → Bool) → Nat → Bool
  | 0, f => f
  | c + 1, f => fun m => growN c f m || growN c f (cl m c)
theorem growN_iff {f : Nat → Bool} : ∀ {c : Nat}, c ≤ 8 → ∀ {m : Nat}, m < 256 → (growN c f m = true ↔ ∃ k, f k = true ∧ Sub k m ∧ ∀ i, c ≤ i → k.testBit i = m.testBit i)
  | 0, _, m, _ => ⟨fun h => ⟨m, h, Sub.refl m, fun _ _ => rfl⟩, fun ⟨k, h, _, e⟩ => by
    have : k = m := Nat.eq_of_testBit_eq fun i => e i (Nat.zero_le i)
    rw [← this]
    exact h⟩
  | c + 1, hc, m, hm => by
    have hm2 := Nat.lt_of_le_of_lt (cl_le m c) hm
    have ih1 := @growN_iff f c (by omega) m hm
    have ih2 := @growN_iff f c (by omega) (cl m c) hm2
    show (growN c f m || growN c f (cl m c)) = true ↔ _
    rw [Bool.or_eq_true, ih1, ih2]
    constructor
    · rintro (⟨k, h, s, e⟩ | ⟨k, h, s, e⟩)
      · exact ⟨k, h, s, fun i hi => e i (by omega)⟩
      · refine ⟨k, h, s.trans (sub_cl hm (by omega)), fun i hi => ?_⟩
        rw [e i (by omega), cl_bit hm (by omega), decide_eq_false (by omega : ¬ i = c)]
        simp
    · rintro ⟨k, h, s, e⟩
      by_cases hb : k.testBit c = m.testBit c
      · refine .inl ⟨k, h, s, fun i hi => ?_⟩
        rcases Nat.eq_or_lt_of_le hi with rfl | hi
        · exact hb
        · exact e i hi
      · have kf : k.testBit c = false := by
          cases q : k.testBit c with
          | true => exact absurd (by rw [q, s c q]) hb
          | false => rfl
        refine .inr ⟨k, h, fun i x => ?_, fun i hi => ?_⟩
        · rw [cl_bit hm (by omega), s i x]
          by_cases z : i = c
          · rw [z, kf] at x
            cases x
          · simp [z]
        · rw [cl_bit hm (by omega)]
          by_cases z : i = c
          · rw [z, kf]
            simp
          · rw [e i (by omega)]
            simp [z]
theorem growN_up {n m : Nat} {ms : List Nat} (hn : n ≤ 8) (hm : m < 2 ^ n) (hk : ∀ k ∈ ms, k < 2 ^ n) : growN n (fun m => decide (m ∈ ms)) m = upB ms m := by
  have h256 : m < 256 := Nat.lt_of_lt_of_le hm (pow_le8 hn)
  have h1 := @growN_iff (fun m => decide (m ∈ ms)) n hn m h256
  rw [Bool.eq_iff_iff, h1, upB_iff]
  constructor
  · rintro ⟨k, h, s, _⟩
    exact ⟨k, of_decide_eq_true h, s⟩
  · rintro ⟨k, h, s⟩
    refine ⟨k, decide_eq_true h, s, fun i hi => ?_⟩
    rw [Nat.testBit_lt_two_pow (Nat.lt_of_lt_of_le (hk k h) (Nat.pow_le_pow_right (by decide) hi)), Nat.testBit_lt_two_pow (Nat.lt_of_lt_of_le hm (Nat.pow_le_pow_right (by decide) hi))]
/-- a family of n copies: which masks it has -/
structure Fm (n : Nat) (f : Nat → Bool) : Prop where
  n1 : 1 ≤ n
  n8 : n ≤ 8
  up : ∀ k m, Sub k m → m < 2 ^ n → f k = true → f m = true
  top : f (2 ^ n - 1) = true
  bot : f 0 = false
theorem fm_upB {n : Nat} {ms : List Nat} (n1 : 1 ≤ n) (n8 : n ≤ 8) (hne : ms ≠ []) (h : ∀ k ∈ ms, k < 2 ^ n ∧ k ≠ 0) : Fm n (upB ms) := by
  refine ⟨n1, n8, fun k m s _ e => ?_, ?_, ?_⟩
  · obtain ⟨j, hj, t⟩ := upB_iff.mp e
    exact upB_iff.mpr ⟨j, hj, t.trans s⟩
  · obtain ⟨k, r, rfl⟩ := List.exists_cons_of_ne_nil hne
    exact upB_iff.mpr ⟨k, List.mem_cons_self, sub_top (h k List.mem_cons_self).1⟩
  · cases e : upB ms 0 with
    | false => rfl
    | true =>
      obtain ⟨k, hk, s⟩ := upB_iff.mp e
      exact absurd (sub_zero s) (h k hk).2
def minB (n : Nat) (f : Nat → Bool) (m : Nat) : Bool := f m && !((List.range n).any fun c => m.testBit c && f (m - 1 <<< c))
def minL (n : Nat) (f : Nat → Bool) : List Nat := (List.range (2 ^ n)).filter (minB n f)
theorem cl_sub {m c : Nat} (h : m.testBit c = true) : m - 1 <<< c = cl m c := by
  unfold cl
  rw [and_one, h] <;> rfl
theorem cl_lt {m c : Nat} (h : m.testBit c = true) : cl m c < m := by
  rw [← cl_sub h]
  have : 0 < 1 <<< c := by rw [Nat.one_shiftLeft]; exact Nat.two_pow_pos c
  have hm : 0 < m := by
    rcases Nat.eq_zero_or_pos m with z | z
    · subst z
      simp at h
    · exact z
  omega
theorem min_below {n : Nat} {f : Nat → Bool} (hn : n ≤ 8) : ∀ {m : Nat}, m < 2 ^ n → f m = true → ∃ k, k < 2 ^ n ∧ minB n f k = true ∧ Sub k m := by
  intro m
  induction m using Nat.strongRecOn with
  | ind m ih =>
    intro hm h
    cases e : (List.range n).any (fun c => m.testBit c && f (m - 1 <<< c)) with
    | false => exact ⟨m, hm, by unfold minB; rw [h, e] <;> rfl, Sub.refl m⟩
    | true =>
      obtain ⟨c, hc, x⟩ := List.any_eq_true.mp e
      obtain ⟨x1, x2⟩ := Bool.and_eq_true_iff.mp x
      have hc8 : c < 8 := Nat.lt_of_lt_of_le (List.mem_range.mp hc) hn
      have hm256 : m < 256 := Nat.lt_of_lt_of_le hm (pow_le8 hn)
      rw [cl_sub x1] at x2
      have lt := cl_lt x1
      obtain ⟨k, h1, h2, h3⟩ := ih (cl m c) lt (Nat.lt_trans lt hm) x2
      exact ⟨k, h1, h2, h3.trans (sub_cl hm256 hc8)⟩
theorem fm_min {n : Nat} {f : Nat → Bool} (F : Fm n f) {m : Nat} (hm : m < 2 ^ n) : upB (minL n f) m = f m := by
  rw [Bool.eq_iff_iff, upB_iff]
  constructor
  · rintro ⟨k, hk, s⟩
    refine F.up k m s hm ?_
    have := (List.mem_filter.mp hk).2
    unfold minB at this
    exact (Bool.and_eq_true_iff.mp this).1
  · intro h
    obtain ⟨k, h1, h2, h3⟩ := min_below F.n8 hm h
    exact ⟨k, List.mem_filter.mpr ⟨List.mem_range.mpr h1, h2⟩, h3⟩
theorem minB_congr {n : Nat} {f g : Nat → Bool} (h : ∀ m, m < 2 ^ n → f m = g m) {m : Nat} (hm : m < 2 ^ n) : minB n f m = minB n g m := by
  unfold minB
  rw [h m hm]
  congr 2
  refine congrArg (List.any (List.range n)) (funext fun c => ?_)
  rw [h _ (Nat.lt_of_le_of_lt (Nat.sub_le _ _) hm)]
theorem minL_congr {n : Nat} {f g : Nat → Bool} (h : ∀ m, m < 2 ^ n → f m = g m) : minL n f = minL n g := by
  unfold minL
  refine List.filter_congr fun m hm => minB_congr h (List.mem_range.mp hm)
theorem minL_inj {n : Nat} {f g : Nat → Bool} (F : Fm n f) (G : Fm n g) (h : minL n f = minL n g) {m : Nat} (hm : m < 2 ^ n) : f m = g m := by
  rw [← fm_min F hm, ← fm_min G hm, h]
theorem minL_lt {n : Nat} {f : Nat → Bool} {m : Nat} (h : m ∈ minL n f) : m < 2 ^ n := List.mem_range.mp (List.mem_filter.mp h).1
theorem minL_f {n : Nat} {f : Nat → Bool} {m : Nat} (h : m ∈ minL n f) : f m = true := by
  have := (List.mem_filter.mp h).2
  unfold minB at this
  exact (Bool.and_eq_true_iff.mp this).1
theorem minL_ne {n : Nat} {f : Nat → Bool} (F : Fm n f) : minL n f ≠ [] := by
  have hp : 2 ^ n - 1 < 2 ^ n := Nat.sub_lt (Nat.two_pow_pos n) Nat.one_pos
  obtain ⟨k, h1, h2, _⟩ := min_below F.n8 hp F.top
  exact List.ne_nil_of_mem (List.mem_filter.mpr ⟨List.mem_range.mpr h1, h2⟩)
/-- families that agree -/
def eqB (n : Nat) (f g : Nat → Bool) : Bool := (List.range (2 ^ n)).all fun m => f m == g m
theorem eqB_iff {n : Nat} {f g : Nat → Bool} : eqB n f g = true ↔ ∀ m, m < 2 ^ n → f m = g m := by
  unfold eqB
  rw [List.all_eq_true]
  exact ⟨fun h m hm => beq_iff_eq.mp (h m (List.mem_range.mpr hm)), fun h m hm => beq_iff_eq.mpr (h m (List.mem_range.mp hm))⟩
theorem minL_eq {n : Nat} {f g : Nat → Bool} (F : Fm n f) (G : Fm n g) : decide (minL n f = minL n g) = eqB n f g := by
  rw [Bool.eq_iff_iff, decide_eq_true_eq, eqB_iff]
  exact ⟨fun h m hm => minL_inj F G h hm, minL_congr⟩
def leB (n : Nat) (f g : Nat → Bool) : Bool := (List.range (2 ^ n)).all fun m => g m || !f m
theorem leB_iff {n : Nat} {f g : Nat → Bool} : leB n f g = true ↔ ∀ m, m < 2 ^ n → f m = true → g m = true := by
  unfold leB
  rw [List.all_eq_true]
  refine ⟨fun h m hm hf => ?_, fun h m hm => ?_⟩
  · have := h m (List.mem_range.mpr hm)
    rw [hf] at this
    simpa using this
  · cases e : f m with
    | true => rw [h m (List.mem_range.mp hm) e] <;> rfl
    | false => simp
/-- the mask of the others -/
def oth (n m : Nat) : Nat := 2 ^ n - 1 - m
theorem oth_lt {n m : Nat} : oth n m < 2 ^ n := by
  unfold oth
  have := Nat.two_pow_pos n
  omega
theorem oth_oth {n m : Nat} (h : m < 2 ^ n) : oth n (oth n m) = m := by
  unfold oth
  omega
theorem oth_bit {n m : Nat} (h : m < 2 ^ n) (c : Nat) : (oth n m).testBit c = (decide (c < n) && !m.testBit c) := other_bit h c
theorem oth_sub {n k m : Nat} (hk : k < 2 ^ n) (hm : m < 2 ^ n) (h : Sub k m) : Sub (oth n m) (oth n k) := fun i x => by
  rw [oth_bit hm] at x
  rw [oth_bit hk]
  obtain ⟨x1, x2⟩ := Bool.and_eq_true_iff.mp x
  rw [x1]
  cases e : k.testBit i with
  | true => rw [h i e] at x2; cases x2
  | false => rfl
theorem oth_top {n : Nat} : oth n (2 ^ n - 1) = 0 := by
  unfold oth
  omega
theorem oth_zero {n : Nat} : oth n 0 = 2 ^ n - 1 := by
  unfold oth
  omega
def dualB (n : Nat) (f : Nat → Bool) (m : Nat) : Bool := !f (oth n m)
theorem Fm.dual {n : Nat} {f : Nat → Bool} (F : Fm n f) : Fm n (dualB n f) := by
  have h0 := Nat.two_pow_pos n
  refine ⟨F.n1, F.n8, fun k m s hm h => ?_, ?_, ?_⟩
  · have hk : k < 2 ^ n := Nat.lt_of_le_of_lt s.le hm
    unfold dualB at h ⊢
    cases e : f (oth n m) with
    | false => rfl
    | true =>
      rw [F.up _ _ (oth_sub hk hm s) oth_lt e] at h
      cases h
  · unfold dualB
    rw [oth_top, F.bot] <;> rfl
  · unfold dualB
    rw [oth_zero, F.top] <;> rfl
theorem Fm.or {n : Nat} {f g : Nat → Bool} (F : Fm n f) (G : Fm n g) : Fm n (fun m => f m || g m) := by
  refine ⟨F.n1, F.n8, fun k m s hm h => ?_, ?_, ?_⟩
  · rw [Bool.or_eq_true] at h ⊢
    exact h.imp (F.up k m s hm) (G.up k m s hm)
  · simp only [F.top, Bool.true_or]
  · simp only [F.bot, G.bot, Bool.or_false]
theorem Fm.and {n : Nat} {f g : Nat → Bool} (F : Fm n f) (G : Fm n g) : Fm n (fun m => f m && g m) := by
  refine ⟨F.n1, F.n8, fun k m s hm h => ?_, ?_, ?_⟩
  · rw [Bool.and_eq_true] at h ⊢
    exact ⟨F.up k m s hm h.1, G.up k m s hm h.2⟩
  · simp only [F.top, G.top, Bool.and_true]
  · simp only [F.bot, Bool.false_and]
/-- each lot of the one meets each of the other -/
def meetB (n : Nat) (f g : Nat → Bool) : Bool := !((List.range (2 ^ n)).any fun m => f m && g (oth n m))
theorem meetB_iff {n : Nat} {f g : Nat → Bool} : meetB n f g = true ↔ ∀ m, m < 2 ^ n → f m = true → g (oth n m) = false := by
  unfold meetB
  rw [Bool.not_eq_true', List.any_eq_false]
  refine ⟨fun h m hm hf => ?_, fun h m hm => ?_⟩
  · have := h m (List.mem_range.mpr hm)
    rw [hf] at this
    simpa using this
  · intro z
    obtain ⟨z1, z2⟩ := Bool.and_eq_true_iff.mp z
    rw [h m (List.mem_range.mp hm) z1] at z2
    cases z2
def sizeF (n : Nat) (f : Nat → Bool) : Nat := ((List.range (2 ^ n)).map f).count true
theorem dd {n m : Nat} {f : Nat → Bool} (h : m < 2 ^ n) : dualB n (dualB n f) m = f m := by
  unfold dualB
  rw [oth_oth h, Bool.not_not]
theorem eqB_of {n : Nat} {f g : Nat → Bool} (h : ∀ m, m < 2 ^ n → f m = g m) : eqB n f g = true := eqB_iff.mpr h
theorem eqB_refl (n : Nat) (f : Nat → Bool) : eqB n f f = true := eqB_of fun _ _ => rfl
theorem eqB_symm (n : Nat) (f g : Nat → Bool) : eqB n f g = eqB n g f := by
  rw [Bool.eq_iff_iff, eqB_iff, eqB_iff]
  exact ⟨fun h m hm => (h m hm).symm, fun h m hm => (h m hm).symm⟩
theorem meet_le (n : Nat) (f g : Nat → Bool) : meetB n f g = leB n f (dualB n g) := by
  rw [Bool.eq_iff_iff, meetB_iff, leB_iff]
  unfold dualB
  exact ⟨fun h m hm hf => by rw [h m hm hf] <;> rfl, fun h m hm hf => by simpa using h m hm hf⟩
theorem le_dual (n : Nat) (f g : Nat → Bool) : leB n (dualB n g) (dualB n f) = leB n f g := by
  rw [Bool.eq_iff_iff, leB_iff, leB_iff]
  unfold dualB
  constructor
  · intro h m hm hf
    cases e : g m with
    | true => rfl
    | false =>
      have := h (oth n m) oth_lt (by rw [oth_oth hm, e] <;> rfl)
      rw [oth_oth hm, hf] at this
      cases this
  · intro h m hm hg
    cases e : f (oth n m) with
    | false => rfl
    | true =>
      rw [h _ oth_lt e] at hg
      cases hg
theorem leB_congr {n : Nat} {f f' g g' : Nat → Bool} (h : ∀ m, m < 2 ^ n → f m = f' m) (k : ∀ m, m < 2 ^ n → g m = g' m) : leB n f g = leB n f' g' := by
  rw [Bool.eq_iff_iff, leB_iff, leB_iff]
  exact ⟨fun z m hm x => by rw [← k m hm]; exact z m hm (by rw [h m hm]; exact x), fun z m hm x => by rw [k m hm]; exact z m hm (by rw [← h m hm]; exact x)⟩
theorem meet_le2 (n : Nat) (f g : Nat → Bool) : meetB n f g = leB n g (dualB n f) := by
  rw [meet_le, ← le_dual, leB_congr (fun m hm => dd hm) fun _ _ => rfl]
theorem meet_comm (n : Nat) (f g : Nat → Bool) : meetB n f g = meetB n g f := by rw [meet_le, meet_le2]
theorem meet_dual (n : Nat) (f : Nat → Bool) : meetB n f (dualB n f) = true := by
  rw [meet_le, leB_iff]
  intro m hm h
  rw [dd hm, h]
theorem sizeF_eq (n : Nat) (f : Nat → Bool) : sizeF n f = (List.range (2 ^ n)).countP f := by
  unfold sizeF
  rw [List.count_eq_countP, List.countP_map]
  congr 1
  funext m
  cases h : f m <;> simp [h]
theorem size_dual (n : Nat) (f : Nat → Bool) : sizeF n f + sizeF n (dualB n f) = 2 ^ n := by
  rw [sizeF_eq, sizeF_eq]
  have e : (List.range (2 ^ n)).countP (dualB n f) = (List.range (2 ^ n)).countP (fun m => !f m) := by
    have h : (List.range (2 ^ n)).map (fun k => 2 ^ n - 1 - k) = (List.range (2 ^ n)).reverse := PySem.W.krv_range (2 ^ n)
    have h2 : ((List.range (2 ^ n)).map (fun k => 2 ^ n - 1 - k)).countP (fun m => !f m) = (List.range (2 ^ n)).countP (dualB n f) := by
      rw [List.countP_map]
      rfl
    rw [← h2, h, List.countP_reverse]
  rw [e]
  have := List.length_eq_countP_add_countP f (l := List.range (2 ^ n))
  rw [List.length_range] at this
  have e2 : (fun a => decide ¬f a = true) = fun m => !f m := funext fun m => by cases f m <;> rfl
  rw [e2] at this
  exact this.symm
theorem meet_mono {n : Nat} {f g : Nat → Bool} (h : meetB n f f = true) (k : leB n g f = true) : meetB n g g = true := by
  rw [meetB_iff] at h ⊢
  rw [leB_iff] at k
  intro m hm hg
  cases e : g (oth n m) with
  | false => rfl
  | true =>
    have z := k _ oth_lt e
    rw [h m hm (k m hm hg)] at z
    cases z
theorem dual_or (n : Nat) (f g : Nat → Bool) : dualB n (fun m => f m || g m) = fun m => dualB n f m && dualB n g m := by
  funext m
  unfold dualB
  rw [Bool.not_or]
theorem dual_and (n : Nat) (f g : Nat → Bool) : dualB n (fun m => f m && g m) = fun m => dualB n f m || dualB n g m := by
  funext m
  unfold dualB
  rw [Bool.not_and]
/-! ### families: the objects -/
def marksV (n : Nat) (f : Nat → Bool) : List V := ((List.range (2 ^ n)).map f).map V.bl
theorem marksV_len (n : Nat) (f : Nat → Bool) : (marksV n f).length = 2 ^ n := by
  unfold marksV
  rw [List.length_map, List.length_map, List.length_range]
theorem marksV_at {n m : Nat} (f : Nat → Bool) (h : m < 2 ^ n) : (marksV n f)[m]? = some (.bl (f m)) := by
  unfold marksV
  rw [List.getElem?_map, List.getElem?_map, List.getElem?_range h] <;> rfl
theorem marksV_get {n m : Nat} {f : Nat → Bool} {x : V} (h : (marksV n f)[m]? = some x) : m < 2 ^ n ∧ x = .bl (f m) := by
  have hm : m < 2 ^ n := by
    rw [← marksV_len n f]
    exact (List.getElem?_eq_some_iff.mp h).1
  rw [marksV_at f hm] at h
  exact ⟨hm, (Option.some.inj h).symm⟩
theorem marksV_congr {n : Nat} {f g : Nat → Bool} (h : ∀ m, m < 2 ^ n → f m = g m) : marksV n f = marksV n g := by
  unfold marksV
  rw [List.map_congr_left fun m hm => h m (List.mem_range.mp hm)]
theorem marksV_fn {n : Nat} {f : Nat → Bool} {ys : List V} (h : ys = (List.range (2 ^ n)).map fun m => V.bl (f m)) : ys = marksV n f := by
  rw [h]
  unfold marksV
  rw [List.map_map]
  rfl
theorem ixN_nat {N m : Nat} (h : m < N) : ixN N (m : Int) = some m := by
  unfold ixN
  rw [if_pos (by omega), if_pos (by omega), Int.toNat_natCast]
theorem marksV_set {n m : Nat} (f : Nat → Bool) (h : m < 2 ^ n) : (marksV n f).set m (.bl true) = marksV n (fun k => if k = m then true else f k) := by
  refine List.ext_getElem? fun i => ?_
  rw [List.getElem?_set]
  by_cases e : m = i
  · subst e
    rw [if_pos rfl, marksV_len, if_pos h, marksV_at _ h, if_pos rfl]
  · rw [if_neg e]
    unfold marksV
    rw [List.getElem?_map, List.getElem?_map, List.getElem?_map, List.getElem?_map]
    cases hi : (List.range (2 ^ n))[i]? with
    | none => rfl
    | some j =>
      have : j = i := by
        have h2 := (List.getElem?_eq_some_iff.mp hi)
        obtain ⟨h3, h4⟩ := h2
        rw [List.getElem_range] at h4
        exact h4.symm
      subst this
      show some (V.bl (f j)) = some (V.bl (if j = m then true else f j))
      rw [if_neg (Ne.symm e)]
theorem and_not (m c : Nat) : Builtin.bitAnd (m : Int) (Builtin.bitNot ((1 : Int) * (2 : Int) ^ ((c : Int)).toNat)) = ((cl m c : Nat) : Int) := by
  rw [PyProof.Rows.bitAnd_not, shl_nat, bitAnd_nat]
  unfold cl
  have : m &&& 1 <<< c ≤ m := Nat.and_le_left
  omega
theorem any_fm {p g : Nat → Bool} : ∀ (l : List Nat), (l.filterMap fun c => if p c = true then some (g c) else none).any id = l.any fun c => p c && g c
  | [] => rfl
  | c :: r => by
    rw [List.filterMap_cons, List.any_cons, ← any_fm r]
    cases p c with
    | true => simp
    | false => simp
/-- what stands but for the instance at a -/
theorem seqT_exc {K : PySem.W.Frag} {H H' : Hp} {a b C dx : Addr} {fs : List (Str × V)} {xs : List V} (ha : H a = some (.ins C dx fs)) (e : Exc a H H') (h : SqT K H b xs) : SqT K H' b xs := by
  rcases h with (h | ⟨o, h⟩) | h
  · exact .inl (.inl (e b _ (fun z => by rw [z, ha] at h; cases h) h))
  · exact .inl (.inr ⟨o, e b _ (fun z => by rw [z, ha] at h; cases h) h⟩)
  · exact .inr h
theorem seqL_exc {K : PySem.W.Frag} {H H' : Hp} {a b C dx : Addr} {fs : List (Str × V)} {xs : List V} (ha : H a = some (.ins C dx fs)) (e : Exc a H H') (h : SqL K H b xs) : SqL K H' b xs := by
  rcases h with (h | ⟨o, h⟩) | h
  · exact .inl (.inl (e b _ (fun z => by rw [z, ha] at h; cases h) h))
  · exact .inl (.inr ⟨o, e b _ (fun z => by rw [z, ha] at h; cases h) h⟩)
  · exact .inr h
theorem Lot.exc {K : PySem.W.Frag} {H H' : Hp} {a C dx m : Nat} {fs : List (Str × V)} {v : V} (ha : H a = some (.ins C dx fs)) (e : Exc a H H') (h : Lot K H m v) : Lot K H' m v := by
  obtain ⟨b, rfl, h⟩ := h
  exact ⟨b, rfl, seqT_exc ha e h⟩
theorem exc_at {a : Addr} {H : Hp} {o : HO} : Exc a H (upd H a o) := fun b u n h => (upd_ne n).trans h
theorem putF_le (x : Str) (v : V) : ∀ fs : List (Str × V), (putF x v fs).length ≤ fs.length + 1
  | [] => by simp [putF]
  | p :: r => by
    unfold putF
    split
    · simp
    · have := putF_le x v r
      simp
      omega
theorem few1 {x : Str} {v : V} : (putF x v []).length < 1000 := Nat.lt_of_le_of_lt (putF_le _ _ _) (by decide)
theorem few2 {x y : Str} {v u : V} : (putF x v (putF y u [])).length < 1000 := by
  have h1 := putF_le x v (putF y u [])
  have h2 := putF_le y u []
  simp at h2
  omega
theorem marksV_rev (n : Nat) (f : Nat → Bool) : (marksV n f).reverse = marksV n fun m => f (oth n m) := by
  refine List.ext_getElem? fun i => ?_
  rcases Nat.lt_or_ge i (2 ^ n) with h | h
  · rw [marksV_at _ h, List.getElem?_reverse (by rw [marksV_len]; exact h), marksV_len]
    have : 2 ^ n - 1 - i < 2 ^ n := by omega
    rw [marksV_at f this]
    rfl
  · rw [List.getElem?_eq_none (by rw [List.length_reverse, marksV_len]; exact h), List.getElem?_eq_none (by rw [marksV_len]; exact h)]
theorem fit_lotsT (l : List Nat) : Fit 2 (.tuple (l.map lotD)) := fit_tup fun d hd => by
  obtain ⟨m, _, rfl⟩ := List.mem_map.mp hd
  exact fit_lot m
theorem eqv_ints : ∀ (xs ys : List Int), PyData.eqvAll (xs.map PyData.int) (ys.map PyData.int) = decide (xs = ys)
  | [], [] => by simp [PyData.eqvAll]
  | [], _ :: _ => by simp [PyData.eqvAll]
  | _ :: _, [] => by simp [PyData.eqvAll]
  | x :: r, y :: t => by
    rw [List.map_cons, List.map_cons, PyData.eqvAll, PyData.eqv, eqv_ints r t]
    by_cases h : x = y
    · subst h
      simp
    · simp [h]
theorem lotL_inj : ∀ m : Nat, m < 256 → maskV (lotV m) = m := fun m h => mask_lotV h
theorem eqv_lot {m k : Nat} (hm : m < 256) (hk : k < 256) : PyData.eqv (lotD m) (lotD k) = decide (m = k) := by
  unfold lotD
  rw [PyData.eqv, eqv_ints]
  by_cases e : m = k
  · subst e
    simp
  · rw [decide_eq_false e, decide_eq_false fun z => e (by rw [← mask_lotV hm, ← mask_lotV hk]; unfold lotV; rw [z])]
theorem eqv_lotsA : ∀ {xs ys : List Nat}, (∀ m ∈ xs, m < 256) → (∀ m ∈ ys, m < 256) → PyData.eqvAll (xs.map lotD) (ys.map lotD) = decide (xs = ys)
  | [], [], _, _ => by simp [PyData.eqvAll]
  | [], _ :: _, _, _ => by simp [PyData.eqvAll]
  | _ :: _, [], _, _ => by simp [PyData.eqvAll]
  | x :: r, y :: t, h1, h2 => by
    rw [List.map_cons, List.map_cons, PyData.eqvAll, eqv_lot (h1 x List.mem_cons_self) (h2 y List.mem_cons_self), eqv_lotsA (fun m hm => h1 m (List.mem_cons_of_mem _ hm)) fun m hm => h2 m (List.mem_cons_of_mem _ hm)]
    by_cases h : x = y
    · subst h
      simp
    · simp [h]
theorem eqv_lots {xs ys : List Nat} (h1 : ∀ m ∈ xs, m < 256) (h2 : ∀ m ∈ ys, m < 256) : PyData.eqv (.tuple (xs.map lotD)) (.tuple (ys.map lotD)) = decide (xs = ys) := by
  rw [PyData.eqv, eqv_lotsA h1 h2]
theorem cut_one (x : V) (r : List V) : cutV (x :: r) (some 1) none = r := by
  unfold cutV HT.sIx
  simp
def famF (n : Nat) (tl tm : Addr) : List (Str × V) := putF "marks" (.ref tm) (putF "lots" (.ref tl) (putF "copies" (.int n) []))
theorem ml0 : ¬ (("marks" : Str) = "lots") := by decide +kernel
theorem mc0 : ¬ (("marks" : Str) = "copies") := by decide +kernel
theorem lc0 : ¬ (("lots" : Str) = "copies") := by decide +kernel
theorem famF_marks (n : Nat) (tl tm : Addr) : (famF n tl tm).lookup ("marks" : Str) = some (.ref tm) := by
  unfold famF
  rw [lookup_putF, if_pos rfl]
theorem famF_lots (n : Nat) (tl tm : Addr) : (famF n tl tm).lookup ("lots" : Str) = some (.ref tl) := by
  unfold famF
  rw [lookup_putF, if_neg (Ne.symm ml0), lookup_putF, if_pos rfl]
theorem famF_copies (n : Nat) (tl tm : Addr) : (famF n tl tm).lookup ("copies" : Str) = some (.int n) := by
  unfold famF
  rw [lookup_putF, if_neg (Ne.symm mc0), lookup_putF, if_neg (Ne.symm lc0), lookup_putF, if_pos rfl]
theorem famF_no (n : Nat) (tl tm : Addr) {x : Str} (h1 : ¬ x = "marks") (h2 : ¬ x = "lots") (h3 : ¬ x = "copies") : (famF n tl tm).lookup x = none := by
  unfold famF
  rw [lookup_putF, if_neg h1, lookup_putF, if_neg h2, lookup_putF, if_neg h3]
  all_goals rfl
/-- v is the family of n copies that f tells -/
structure Fam (K : PySem.W.Frag) (C : Addr) (H : Hp) (v : V) (n : Nat) (f : Nat → Bool) : Prop where
  at_ : ∃ a dx tl tm ls, v = .ref a ∧ H a = some (.ins C dx (famF n tl tm)) ∧ SqT K H tl ls ∧ Paired (fun m y => Lot K H m y) (minL n f) ls ∧ ∃ ob, H tm = some (.frz ob (.tup (marksV n f))) ∧ ob.dict = none
  ok : Fm n f
theorem Fam.sameT {K : PySem.W.Frag} {C : Addr} {H H' : Hp} {v : V} {n : Nat} {f : Nat → Bool} (F : Fam K C H v n f) (e : SameT H H') : Fam K C H' v n f := by
  obtain ⟨⟨a, dx, tl, tm, ls, rfl, h1, h2, h3, ob, h4, h6⟩, h5⟩ := F
  exact ⟨⟨a, dx, tl, tm, ls, rfl, e.ins h1, e.seqT h2, prImp (fun _ _ h => h.sameT e) h3, ob, e _ _ h4 (fun _ z => nomatch z), h6⟩, h5⟩
theorem Fam.same {K : PySem.W.Frag} {C : Addr} {H H' : Hp} {v : V} {n : Nat} {f : Nat → Bool} (F : Fam K C H v n f) (e : Same H H') : Fam K C H' v n f := F.sameT (Same.toT e)
theorem Fam.isC {K : PySem.W.Frag} {C : Addr} {H : Hp} {v : V} {n : Nat} {f : Nat → Bool} (F : Fam K C H v n f) : IsC C H v := by
  obtain ⟨⟨a, dx, tl, tm, ls, rfl, h, _⟩, _⟩ := F
  exact ⟨a, dx, _, rfl, h⟩
theorem Fam.congr {K : PySem.W.Frag} {C : Addr} {H : Hp} {v : V} {n : Nat} {f g : Nat → Bool} (F : Fam K C H v n f) (h : ∀ m, m < 2 ^ n → f m = g m) (G : Fm n g) : Fam K C H v n g := by
  obtain ⟨⟨a, dx, tl, tm, ls, rfl, h1, h2, h3, ob, h4, h6⟩, _⟩ := F
  rw [minL_congr h] at h3
  rw [marksV_congr h] at h4
  exact ⟨⟨a, dx, tl, tm, ls, rfl, h1, h2, h3, ob, h4, h6⟩, G⟩
/-- what is wrong with the lots of a family -/
inductive Bad where
  | ok
  | copy (x : V)
  | empty (i : Nat)
def badFrom (n : Nat) : Nat → List (List V) → Bad
  | _, [] => .ok
  | i, xs :: r => match badOf n xs with
    | some x => .copy x
    | none => if maskV xs = 0 then .empty i else badFrom n (i + 1) r
theorem badFrom_ok {n : Nat} : ∀ {xss : List (List V)} {i : Nat}, badFrom n i xss = .ok → ∀ xs ∈ xss, badOf n xs = none ∧ maskV xs ≠ 0
  | [], _, _, xs, h => by cases h
  | ys :: r, i, e, xs, h => by
    unfold badFrom at e
    cases ho : badOf n ys with
    | some x => rw [ho] at e; cases e
    | none =>
      rw [ho] at e
      simp only at e
      by_cases hz : maskV ys = 0
      · rw [if_pos hz] at e; cases e
      · rw [if_neg hz] at e
        rcases List.mem_cons.mp h with rfl | h
        · exact ⟨ho, hz⟩
        · exact badFrom_ok e xs h
def ErrE (C : Addr) (H : Hp) (E : XK) (i : Nat) : Prop := ∀ d H', H d = none → Same H H' → H' d = some (.xd [("place", .int i)]) → E (.ref C) (some d) H'
theorem ErrE.of {C : Addr} {H H1 : Hp} {E : XK} {i : Nat} (h : ErrE C H E i) (e : Same H H1) : ErrE C H1 E i := fun d H' nd sm hx => h d H' (e.free nd) (e.trans sm) hx
/-- lots as they are handed over -/
def LotArg (K : PySem.W.Frag) (H : Hp) (xs : List V) (v : V) : Prop := ∃ b, v = .ref b ∧ SqA K H b xs ∧ ∀ x ∈ xs, scalV x = true
theorem LotArg.same {K : PySem.W.Frag} {H H' : Hp} {xs : List V} {v : V} (h : LotArg K H xs v) (e : Same H H') : LotArg K H' xs v := by
  obtain ⟨b, rfl, h1, h2⟩ := h
  exact ⟨b, rfl, h1.same e, h2⟩
theorem Lot.arg {K : PySem.W.Frag} {H : Hp} {m : Nat} {v : V} (h : Lot K H m v) : LotArg K H (lotV m) v := by
  obtain ⟨a, rfl, h⟩ := h
  exact ⟨a, rfl, .inr h, fun x hx => scal_lotV hx⟩
theorem badFrom_lots {n : Nat} : ∀ {ms : List Nat} {i : Nat}, (∀ m ∈ ms, m < 2 ^ n ∧ m ≠ 0 ∧ m < 256) → badFrom n i (ms.map lotV) = .ok
  | [], _, _ => rfl
  | m :: r, i, h => by
    obtain ⟨h1, h2, h3⟩ := h m List.mem_cons_self
    rw [List.map_cons]
    unfold badFrom
    rw [badOf_ok fun x hx => lotV_ok h1 hx, mask_lotV h3]
    simp only
    rw [if_neg h2]
    exact badFrom_lots fun x hx => h x (List.mem_cons_of_mem _ hx)
theorem masks_lots {ms : List Nat} (h : ∀ m ∈ ms, m < 256) : (ms.map lotV).map maskV = ms := by
  rw [List.map_map]
  conv => rhs; rw [← List.map_id ms]
  exact List.map_congr_left fun m hm => mask_lotV (h m hm)
/-! ### families: the promises -/
def spMasks (K : PySem.W.Frag) (C CL : Addr) : Sp := fun vs H Q E => ∃ (n : Nat) (p : Addr) (ls : List V) (xss : List (List V)), vs = [.int n, .ref p] ∧ n ≤ 8 ∧ SqT K H p ls ∧ Paired (LotArg K H) xss ls ∧ ls.length ≤ 1000 ∧
  (badFrom n 0 xss = .ok → ∀ q H', Same H H' → H q = none → H' q = some (.lst (xss.map fun xs => .int (maskV xs))) → Q (.ref q) H') ∧
  (∀ x, badFrom n 0 xss = .copy x → Err C H E "copy" x) ∧ (∀ i, badFrom n 0 xss = .empty i → ErrE CL H E i)
def spAbove (K : PySem.W.Frag) : Sp := fun vs H Q _ => ∃ (n : Nat) (p : Addr) (ms : List Nat), vs = [.int n, .ref p] ∧ n ≤ 8 ∧ SqL K H p (ms.map fun (m : Nat) => V.int m) ∧ (∀ m ∈ ms, m < 2 ^ n) ∧
  ∀ q H', Same H H' → H q = none → H' q = some (.lst (marksV n (upB ms))) → Q (.ref q) H'
def spMinimal (K : PySem.W.Frag) : Sp := fun vs H Q _ => ∃ (n : Nat) (p : Addr) (f : Nat → Bool), vs = [.int n, .ref p] ∧ n ≤ 8 ∧ SqL K H p (marksV n f) ∧
  ∀ q ls H', Same H H' → H q = none → H' q = some (.lst ls) → Paired (fun m y => Lot K H' m y) (minL n f) ls → Q (.ref q) H'
def spFam0 (K : PySem.W.Frag) (C CB CL : Addr) : Sp := fun vs H Q E => ∃ (a dx : Addr) (c : V) (p : Addr) (ls : List V) (xss : List (List V)), vs = [.ref a, c, .ref p] ∧ H a = some (.ins C dx []) ∧ Kn K H c ∧ SqT K H p ls ∧ Paired (LotArg K H) xss ls ∧ ls.length ≤ 1000 ∧
  (good c (some 1) (some 8) = false → Err CB H E "copies" c) ∧
  ∀ n : Nat, c = .int n → 1 ≤ n → n ≤ 8 → (xss = [] → Err CB H E "lots" (.int 0)) ∧
    (xss ≠ [] → (∀ x, badFrom n 0 xss = .copy x → Err CB H E "copy" x) ∧ (∀ i, badFrom n 0 xss = .empty i → ErrE CL H E i) ∧
      (badFrom n 0 xss = .ok → ∀ H', (∀ b o, H b = some o → b ≠ a → H' b = some o) → Fam K C H' (.ref a) n (upB (xss.map maskV)) → Q .non H'))
/-- a made family -/
theorem mk_fam {K : PySem.W.Frag} {C CB CL : Addr} {H : Hp} {n : Nat} {rest : List V} {xss : List (List V)} {Q : Addr → Hp → Prop} {E : XK} (n1 : 1 ≤ n) (n8 : n ≤ 8) (hp : Paired (LotArg K H) xss rest) (hl : rest.length ≤ 1000) (hne : xss ≠ []) (hb : badFrom n 0 xss = .ok)
    (h : ∀ a H', Same H H' → Fam K C H' (.ref a) n (upB (xss.map maskV)) → Q a H') :
    ∀ x dx, H x = none → H dx = none → dx ≠ x → spStar 2 (spFam0 K C CB CL) (.ref x :: (.int n :: rest)) (upd (upd H dx (.own x)) x (.ins C dx [])) (fun v H2 => v = .non ∧ Q x H2) E := by
  intro x dx nx nd ne
  have e1000 : (1000 : Nat) ≤ sizeLine := by decide
  refine ⟨[.ref x, .int n], rest, rfl, rfl, by omega, fun p np => ?_⟩
  have s0 : Same H (upd (upd H dx (.own x)) x (.ins C dx [])) := fun b o e => by
    rw [upd_ne (ne_of_none e nx), upd_ne (ne_of_none e nd)]
    exact e
  have sp := s0.trans (same_upd (o := .tup rest) np)
  have hx : upd (upd (upd H dx (.own x)) x (.ins C dx [])) p (.tup rest) x = some (.ins C dx []) := (upd_ne (ne_of_none upd_same np)).trans upd_same
  refine ⟨x, dx, .int n, p, rest, xss, rfl, hx, kn_int _, .inl (.inl upd_same), prImp (fun _ _ z => z.same sp) hp, hl, fun z => absurd (copies_good n1 n8) (by rw [z]; simp), fun n' e _ _ => ?_⟩
  cases (show n = n' from by injection e with e; omega)
  refine ⟨fun z => absurd z hne, fun _ => ⟨fun y z => (by rw [hb] at z; cases z), fun i z => (by rw [hb] at z; cases z), fun _ H' k F => ⟨rfl, h x H' (fun b o e => k b o (sp b o e) (ne_of_none e nx)) F⟩⟩⟩
def spMarked (K : PySem.W.Frag) (C : Addr) : Sp := fun vs H Q _ => ∃ (n : Nat) (p : Addr) (f : Nat → Bool), vs = [.int n, .ref p] ∧ SqL K H p (marksV n f) ∧ Fm n f ∧ ∀ r H', Same H H' → Fam K C H' r n f → Q r H'
def spAlike (K : PySem.W.Frag) (C CU : Addr) : Sp := fun vs H Q E => ∃ (n m : Nat) (v : V) (g : Nat → Bool), vs = [.int n, v] ∧ Fam K C H v m g ∧ (n = m → Q .non H) ∧ (n ≠ m → E (.ref CU) none H)
/-- two families: what is told where both have as many copies -/
def spTwo (K : PySem.W.Frag) (C CU : Addr) (k : Nat → (Nat → Bool) → (Nat → Bool) → Hp → VK → Prop) : Sp := fun vs H Q E => ∃ (x y : V) (n m : Nat) (f g : Nat → Bool), vs = [x, y] ∧ Fam K C H x n f ∧ Fam K C H y m g ∧
  (n = m → k n f g H Q) ∧ (n ≠ m → ∀ H', Same H H' → E (.ref CU) none H')
def tellsB (b : Nat → (Nat → Bool) → (Nat → Bool) → Bool) : Nat → (Nat → Bool) → (Nat → Bool) → Hp → VK → Prop := fun n f g H Q => ∀ H', Same H H' → Q (.bl (b n f g)) H'
def tellsF (K : PySem.W.Frag) (C : Addr) (b : Nat → (Nat → Bool) → (Nat → Bool) → Nat → Bool) : Nat → (Nat → Bool) → (Nat → Bool) → Hp → VK → Prop := fun n f g H Q => ∀ r H', Same H H' → Fam K C H' r n (b n f g) → Q r H'
def spWithin (K : PySem.W.Frag) : Sp := fun vs H Q _ => ∃ (p q : Addr) (n : Nat) (f g : Nat → Bool), vs = [.ref p, .ref q] ∧ ((SqT K H p (marksV n f) ∧ SqT K H q (marksV n g)) ∨ (SqL K H p (marksV n f) ∧ SqL K H q (marksV n g))) ∧ n ≤ 8 ∧ ∀ H', Same H H' → Q (.bl (leB n f g)) H'
def spOne (K : PySem.W.Frag) (C : Addr) (k : Nat → (Nat → Bool) → Hp → VK → Prop) : Sp := fun vs H Q _ => ∃ (x : V) (n : Nat) (f : Nat → Bool), vs = [x] ∧ Fam K C H x n f ∧ k n f H Q
/-- == with whatever isinstance can ask -/
def spEqF (K : PySem.W.Frag) (C : Addr) : Sp := fun vs H Q _ => ∃ (x y : V) (n : Nat) (f : Nat → Bool), vs = [x, y] ∧ Fam K C H x n f ∧
  ((∃ m g, Fam K C H y m g ∧ ∀ H', Same H H' → Q (.bl (decide (n = m) && eqB n f g)) H') ∨ (∃ t, TyX K H y t ∧ PySem.W.kitOne K t (.ref C) = some false ∧ Q (.bl false) H))
def spIn (K : PySem.W.Frag) (C : Addr) : Sp := fun vs H Q _ => ∃ (x y : V) (n : Nat) (f : Nat → Bool) (xs : List V), vs = [x, y] ∧ Fam K C H x n f ∧ LotArg K H xs y ∧ ∀ H', Same H H' → Q (.bl (match badOf n xs with
  | some _ => false
  | none => f (maskV xs))) H'
/-! ### lots within lots -/
theorem one_iff {m c : Nat} : c ∈ oneL m ↔ c < 8 ∧ m.testBit c = true := by
  unfold oneL
  rw [List.mem_filter, List.mem_range]
theorem all_sub {k : Nat} (m : Nat) (hk : k < 256) : ((oneL k).map fun c => m.testBit c).all id = subB k m := by
  rw [Bool.eq_iff_iff, List.all_map, List.all_eq_true, subB_iff]
  refine ⟨fun h i hi => ?_, fun h c hc => h c (one_iff.mp hc).2⟩
  by_cases hc : i < 8
  · exact h i (one_iff.mpr ⟨hc, hi⟩)
  · rw [bit_big hk (by omega)] at hi
    cases hi
/-- two lots with a copy in common -/
def metB (k m : Nat) : Bool := ((oneL k).map fun c => m.testBit c).any id
theorem metB_iff {k m : Nat} : metB k m = true ↔ ∃ c, c < 8 ∧ k.testBit c = true ∧ m.testBit c = true := by
  unfold metB
  rw [List.any_map, List.any_eq_true]
  exact ⟨fun ⟨c, h, e⟩ => ⟨c, (one_iff.mp h).1, (one_iff.mp h).2, e⟩, fun ⟨c, h, e, g⟩ => ⟨c, one_iff.mpr ⟨h, e⟩, g⟩⟩
theorem met_sub {n k m : Nat} (hn : n ≤ 8) (hk : k < 2 ^ n) (hm : m < 2 ^ n) : metB k m = false ↔ Sub k (oth n m) := by
  have h8 : ∀ i, k.testBit i = true → i < n := fun i h => by
    by_cases c : i < n
    · exact c
    · rw [Nat.testBit_lt_two_pow (Nat.lt_of_lt_of_le hk (Nat.pow_le_pow_right (by decide) (by omega)))] at h
      cases h
  constructor
  · intro h i hi
    rw [oth_bit hm, decide_eq_true (h8 i hi), Bool.true_and]
    cases e : m.testBit i with
    | false => rfl
    | true =>
      have := metB_iff.mpr ⟨i, by have := h8 i hi; omega, hi, e⟩
      rw [h] at this
      cases this
  · intro h
    cases e : metB k m with
    | false => rfl
    | true =>
      obtain ⟨c, hc, h1, h2⟩ := metB_iff.mp e
      have := h c h1
      rw [oth_bit hm, h2] at this
      simp at this
/-- the lots of f: their masks, least first -/
def inL (n : Nat) (f : Nat → Bool) : List Nat := (List.range (2 ^ n)).filter f
theorem inL_iff {n : Nat} {f : Nat → Bool} {m : Nat} : m ∈ inL n f ↔ m < 2 ^ n ∧ f m = true := by
  unfold inL
  rw [List.mem_filter, List.mem_range]
theorem met_all {n : Nat} {f : Nat → Bool} (F : Fm n f) {m : Nat} (hm : m < 2 ^ n) : ((inL n f).map fun k => metB m k).all id = dualB n f m := by
  rw [Bool.eq_iff_iff, List.all_map, List.all_eq_true]
  unfold dualB
  constructor
  · intro h
    cases e : f (oth n m) with
    | false => rfl
    | true =>
      have := h (oth n m) (inL_iff.mpr ⟨oth_lt, e⟩)
      have h2 := (met_sub F.n8 hm (oth_lt (n := n) (m := m))).mpr (by rw [oth_oth hm]; exact Sub.refl m)
      rw [show metB m (oth n m) = true from this] at h2
      cases h2
  · intro h k hk
    obtain ⟨k1, k2⟩ := inL_iff.mp hk
    show metB m k = true
    cases e : metB m k with
    | true => rfl
    | false =>
      have e2 := oth_sub hm oth_lt ((met_sub F.n8 hm k1).mp e)
      rw [oth_oth k1] at e2
      rw [F.up _ _ e2 oth_lt k2] at h
      cases h
def allMet (n : Nat) (f g : Nat → Bool) : Bool := ((inL n f).map fun m => ((inL n g).map fun k => metB m k).all id).all id
theorem allMet_eq {n : Nat} {f g : Nat → Bool} (G : Fm n g) : allMet n f g = meetB n f g := by
  rw [Bool.eq_iff_iff, meetB_iff]
  unfold allMet
  rw [List.all_map, List.all_eq_true]
  constructor
  · intro h m hm hf
    have := h m (inL_iff.mpr ⟨hm, hf⟩)
    rw [show (id ∘ fun m => ((inL n g).map fun k => metB m k).all id) m = dualB n g m from met_all G hm] at this
    unfold dualB at this
    simpa using this
  · intro h m hm
    obtain ⟨h1, h2⟩ := inL_iff.mp hm
    show ((inL n g).map fun k => metB m k).all id = true
    rw [met_all G h1]
    unfold dualB
    rw [h m h1 h2] <;> rfl
/-! ### what the law's own defs tell -/
theorem in_lotV {K : PySem.W.Frag} : ∀ m : Nat, m < 256 → ∀ c : Nat, c < 8 → inV (.int c) (lotV m) = m.testBit c := by decide +kernel
theorem flat_lotV (m : Nat) : (lotV m).all flatV = true := by
  rw [List.all_eq_true]
  exact fun x hx => flat_scal (scal_lotV hx)
theorem lotV_at8 {m i : Nat} {x : V} (h : (lotV m)[i]? = some x) : ∃ c : Nat, x = .int c ∧ c < 8 ∧ (oneL m)[i]? = some c := by
  unfold lotV lotL at h
  rw [List.map_map, List.getElem?_map] at h
  cases e : (oneL m)[i]? with
  | none => rw [e] at h; cases h
  | some c =>
    rw [e] at h
    cases h
    exact ⟨c, rfl, (one_iff.mp (List.mem_of_getElem? e)).1, rfl⟩
def Lots (K : PySem.W.Frag) (H : Hp) (p : Addr) (ms : List Nat) : Prop := ∃ ys, SqL K H p ys ∧ Paired (fun m y => Lot K H m y) ms ys
theorem Lots.same {K : PySem.W.Frag} {H H' : Hp} {p : Addr} {ms : List Nat} (h : Lots K H p ms) (e : Same H H') : Lots K H' p ms := by
  obtain ⟨ys, h1, h2⟩ := h
  exact ⟨ys, e.seq h1, prImp (fun _ _ z => z.same e) h2⟩
def spPair (K : PySem.W.Frag) (b : Nat → Nat → Bool) : Sp := fun vs H Q _ => ∃ (x y : V) (m k : Nat), vs = [x, y] ∧ Lot K H m x ∧ Lot K H k y ∧ m < 256 ∧ k < 256 ∧ ∀ H', Same H H' → Q (.bl (b m k)) H'
def spGrown (K : PySem.W.Frag) : Sp := fun vs H Q _ => ∃ (n : Nat) (p : Addr) (ms : List Nat), vs = [.int n, .ref p] ∧ n ≤ 8 ∧ Lots K H p ms ∧ ms.length ≤ 1000 ∧ (∀ m ∈ ms, m < 2 ^ n) ∧
  ∀ q H', Same H H' → H q = none → SqL K H' q (marksV n (upB ms)) → Q (.ref q) H'
def spMarksOf (K : PySem.W.Frag) (C : Addr) : Sp := fun vs H Q _ => ∃ (x : V) (n : Nat) (f : Nat → Bool), vs = [x] ∧ Fam K C H x n f ∧ ∀ q H', Same H H' → H q = none → SqL K H' q (marksV n f) → Q (.ref q) H'
def spAllMeet (K : PySem.W.Frag) : Sp := fun vs H Q _ => ∃ (p q : Addr) (n : Nat) (f g : Nat → Bool), vs = [.ref p, .ref q] ∧ Lots K H p (inL n f) ∧ Lots K H q (inL n g) ∧ n ≤ 8 ∧ ∀ H', Same H H' → Q (.bl (allMet n f g)) H'
/-! ### what a comprehension within a comprehension walks -/
theorem piK_list {X : Cx} {K : PySem.W.Frag} {tg l : Expr} {tl : TE} (h : X.K = K) (hl : PE X l tl) : PI X tg l (iList K tl) := h ▸ pi_list hl
theorem piK_tup {X : Cx} {K : PySem.W.Frag} {tg l : Expr} {tl : TE} (h : X.K = K) (hl : PE X l tl) : PI X tg l (iTup K tl) := h ▸ pi_tup hl
theorem allMet_no {n : Nat} {f g : Nat → Bool} {m : Nat} (hm : m ∈ inL n f) (h : ((inL n g).map fun k => metB m k).all id = false) : allMet n f g = false := by
  cases e : allMet n f g with
  | false => rfl
  | true =>
    unfold allMet at e
    rw [List.all_map, List.all_eq_true] at e
    have := e m hm
    rw [show (id ∘ fun m => ((inL n g).map fun k => metB m k).all id) m = ((inL n g).map fun k => metB m k).all id from rfl, h] at this
    cases this
theorem allMet_yes {n : Nat} {f g : Nat → Bool} (h : ∀ m ∈ inL n f, ((inL n g).map fun k => metB m k).all id = true) : allMet n f g = true := by
  unfold allMet
  rw [List.all_map, List.all_eq_true]
  exact h
/-! ### the law's masks, chosen by a list of marks -/
def spIns (K : PySem.W.Frag) (Q : Addr → Hp → Prop) (n : Nat) (f : Nat → Bool) (H : Hp) : Prop := ∀ q H', Same H H' → H q = none → Lots K H' q (inL n f) → Q q H'
theorem range_filterM {α : Type} (f : Nat → Bool) (g : Nat → α) (n : Nat) : (List.range n).filterMap (fun m => if f m = true then some (g m) else none) = ((List.range n).filter f).map g := by
  induction n with
  | zero => rfl
  | succ k ih =>
    rw [List.range_succ, List.filterMap_append, ih, List.filter_append, List.map_append]
    congr 1
    cases e : f k <;> simp [e]
section
variable {K : PySem.W.Frag} {C CU : Addr} {H : Hp} {x y : V} {n m : Nat} {f : Nat → Bool} {Q : VK} {E : XK}
theorem fam_in (F : Fam K C H x n f) (L : Lot K H m y) (hm : m < 2 ^ n) (g : Bool → Bool) (k : ∀ H', Same H H' → Q (.bl (g (f m))) H') : rInOwn C (spIn K C) E g y x H Q := by
  refine ⟨F.isC, x, y, n, f, lotV m, rfl, F, L.arg, fun H' s => ⟨_, rfl, ?_⟩⟩
  have h256 := pow_le8 F.2.n8
  rw [badOf_ok fun z hz => lotV_ok hm hz]
  simp only
  rw [mask_lotV (by omega)]
  exact k H' s
theorem ins_eq (f : Nat → Bool) (n : Nat) : (List.range (2 ^ n)).filterMap (fun m => if f m = true then some m else none) = inL n f := by
  have := range_filterM f (fun m => m) (2 ^ n)
  rw [List.map_id'] at this
  exact this
theorem lots_at {ys : List V} (pr : Paired (fun m y => Lot K H m y) (List.range (2 ^ n)) ys) (hm : m < 2 ^ n) : ∃ y, atI ys (m : Int) = some y ∧ Lot K H m y := by
  obtain ⟨y, h1, h2⟩ := prAt2 pr (List.getElem?_range hm)
  exact ⟨y, atI_nat h1, h2⟩
end
theorem atI0 {α : Type} {xs : List α} {j : Nat} {v : α} (h : xs[j]? = some v) : atI xs (0 + (j : Int)) = some v := by
  rw [Int.zero_add]
  exact atI_nat h
theorem lots_at0 {K : PySem.W.Frag} {H : Hp} {n m : Nat} {ys : List V} (pr : Paired (fun m y => Lot K H m y) (List.range (2 ^ n)) ys) (hm : m < 2 ^ n) : ∃ y, atI ys (0 + (m : Int)) = some y ∧ Lot K H m y := by
  rw [Int.zero_add]
  exact lots_at pr hm
/-! ### str(x) by an own __str__; a static method read off its class -/
section
variable {X : Cx} {CX : CXT} {k : Nat} {f C : Addr} {fd : FuncData} {ps : List Str} {sp : Sp} {E : XK}
def rStrO (C : Addr) (sp : Sp) (E : XK) : List V → Hp → VK → Prop := fun xs H Q => ∃ x, xs = [x] ∧ IsC C H x ∧ sp [x] H (fun v H' => ∃ y : Str, v = .str y ∧ Q v H') E
theorem call_strO (hs : PySem.W.findIn X.K (.ref C) "__str__" = some (some (.ref f))) (hf : PySem.W.isFn X.K (.ref f) = true) (F : FnOk X.prog X.w X.K X.mg X.base CX k f fd ps sp) (hr : Room (k + 1 + 1) X.A) (hb : Binds X.K fd ps []) (hx : Passes CX X E) :
    CallR X (.type "str") (rStrO C sp E) := by
  intro pins s σ H xs us Q I r h
  obtain ⟨x, rfl, ⟨a, dx, fs, rfl, ha⟩, q⟩ := h
  obtain ⟨u, rfl, ru⟩ := vals1 r
  cases (show u = Value.ref a from ru)
  obtain ⟨oa, J⟩ := inst_of I ha
  refine PySem.W.kso_call (A := X.A) (Room.in1 (Room.in1 hr)).units0 I.kIn J hs hf (wpAny_mono (run_deep (vs := [.ref a]) F (Room.in1 (Room.in1 hr)) I.env0.in1.in1 hb hx I (.cons rfl .nil) q) (fun w s' z => ?_) fun _ _ x => x)
  obtain ⟨z', H', I', rz, y, rfl, qz⟩ := z
  obtain ⟨t, rfl⟩ := (show ∃ t, w = Value.str y t from rz)
  exact ⟨.str y, H', I', ⟨t, rfl⟩, qz⟩
/-- the static method m of C: the def at f -/
structure SMet (K : PySem.W.Frag) (C : Addr) (m : Str) (f : Addr) : Prop where
  rd : PySem.W.readsIn K C (.type "type") = true
  ga : PySem.W.specialIn K (.ref C) "__getattribute__" = some (some (.builtin "type.__getattribute__"))
  at_ : ∃ p rest, PySem.W.findCls K (.ref C) (.type "type") m = some (.get (.builtin "staticmethod.__get__") (.ref p) .none (.ref C)) ∧ PySem.W.recIn K p "staticmethod" = some (.ref f :: rest)
/-- C.m() -/
def tSM0 (C : Addr) (sp : Sp) (E : XK) (ta : TE) : TE := fun σ H Q => ta σ H fun x H1 => x = .ref C ∧ sp [] H1 Q E
theorem pe_smeth0 {o : Expr} {m : Str} {pos apos : Pos} {ta : TE} {pl : Sem Bool} (he : PE X o ta) (M : SMet X.K C m f) (F : FnOk X.prog X.w X.K X.mg X.base CX k f fd ps sp) (kp : PySem.W.keepIn X.K (.ref f) = true) (hr : Room k X.A) (hb : Binds X.K fd ps []) (hx : Passes CX X E)
    (ht : eval (.Call (.Attribute o m apos) [] [] pos) X.env = (do
      let ov ← eval o X.env
      standAt apos.atName
      let (f, first) ← holding [ov] (getMethod ov m pl)
      callWith pos f first (backTo pos (starEach [] X.env)) (backToKw pos (keywordEach [] X.env))) := by rfl) :
    PE X (.Call (.Attribute o m apos) [] [] pos) (tSM0 C sp E ta) := by
  refine ⟨fun pins s σ H Q I h => ?_⟩
  refine PySem.W.methodCall_KW (pl := pl) (thn (he.run pins s σ H _ I h) fun u s1 ⟨x, H1, I1, rx, ex, q⟩ => ?_) ht
  subst ex
  obtain rfl : u = Value.ref C := rx
  obtain ⟨p, rest, e, hp⟩ := M.at_
  refine PySem.W.method_cls I1.kIn M.ga ?_
  refine PySem.W.cls_bind I1.kIn M.rd e (wpAny_call (PySem.W.sm_get (s := { s1 with toks := s1.toks + 1 }) I1.kIn hp (PySem.W.handed_on rfl ?_)))
  have I2 : Inv X pins σ H1 { s1 with toks := s1.toks + 1 } := I1.tok _
  exact PySem.W.callWith_K0 (first := []) I2.kIn kp (run_fn (us := []) (vs := []) F hr hb .nil hx I2 .nil (by simpa using q))
end
/-! ### C.m(a, ..), m a static method -/
section
variable {X : Cx} {CX : CXT} {k : Nat} {f C : Addr} {fd : FuncData} {ps : List Str} {sp : Sp} {E : XK}
def tSM (C : Addr) (sp : Sp) (E : XK) (ta : TE) (ts : TA) : TE := fun σ H Q => ta σ H fun x H1 => x = .ref C ∧ ts σ H1 fun vs H2 => sp vs H2 Q E
theorem pe_smeth {o e : Expr} {es : List Expr} {m : Str} {pos apos : Pos} {ta : TE} {ts : TA} {pl : Sem Bool} (ho : PE X o ta) (M : SMet X.K C m f) (F : FnOk X.prog X.w X.K X.mg X.base CX k f fd ps sp) (kp : PySem.W.keepIn X.K (.ref f) = true) (hr : Room k X.A) (hb : Binds X.K fd ps []) (hx : Passes CX X E)
    (ha : PA X (e :: es) ts)
    (ht : eval (.Call (.Attribute o m apos) (e :: es) [] pos) X.env = (do
      let ov ← eval o X.env
      standAt apos.atName
      let (f, first) ← holding [ov] (getMethod ov m pl)
      callWith pos f first (backTo pos (starEach (e :: es) X.env)) (backToKw pos (keywordEach [] X.env))) := by rfl)
    (he : starEach (e :: es) X.env = (false, eval e X.env) :: starEach es X.env := by rfl) (hpl : (backTo pos (starEach es X.env)).any (·.1) = false := by rfl) :
    PE X (.Call (.Attribute o m apos) (e :: es) [] pos) (tSM C sp E ta ts) := by
  refine ⟨fun pins s σ H Q I h => ?_⟩
  refine PySem.W.methodCall_KW (pl := pl) (thn (ho.run pins s σ H _ I h) fun u s1 ⟨x, H1, I1, rx, ex, q⟩ => ?_) ht
  subst ex
  obtain rfl : u = Value.ref C := rx
  obtain ⟨p, rest, e, hp⟩ := M.at_
  refine PySem.W.method_cls I1.kIn M.ga ?_
  refine PySem.W.cls_bind I1.kIn M.rd e (wpAny_call (PySem.W.sm_get (s := { s1 with toks := s1.toks + 1 }) I1.kIn hp (PySem.W.handed_on rfl ?_)))
  have I2 : Inv X pins σ H1 { s1 with toks := s1.toks + 1 } := I1.tok _
  refine PySem.W.callWith_K (h₀ := X.base) I2.ok.mod.kin kp (thn (ha.run pos pins _ σ H1 _ I2 q) fun us s2 ⟨vs, H2, I3, r, q2⟩ => ⟨I3.kIn, ?_⟩) he hpl
  exact run_fn F hr hb .nil hx I3 r (by simpa using q2)
end
/-! ### own signs of which K is named -/
theorem ownCK {X : Cx} {K : PySem.W.Frag} {C : Addr} {sp : Sp} {E : XK} {f : Value → Value → Sem Value} (h : X.K = K) (o : OpR X f (rOwnC X.K C sp E)) : OpR X f (rOwnC K C sp E) := h ▸ o
theorem ownNeK {X : Cx} {K : PySem.W.Frag} {C : Addr} {sp : Sp} {E : XK} {f : Value → Value → Sem Value} (h : X.K = K) (o : OpR X f (rOwnNe X.K C sp E)) : OpR X f (rOwnNe K C sp E) := h ▸ o
/-! ### lists of marks, compared -/
theorem eqv_bls : ∀ (xs ys : List Bool), PyData.eqvAll (xs.map PyData.bool) (ys.map PyData.bool) = decide (xs = ys)
  | [], [] => by simp [PyData.eqvAll]
  | [], _ :: _ => by simp [PyData.eqvAll]
  | _ :: _, [] => by simp [PyData.eqvAll]
  | x :: r, y :: t => by
    rw [List.map_cons, List.map_cons, PyData.eqvAll, PyData.eqv, eqv_bls r t]
    cases x <;> cases y <;> simp
theorem dps_bls {K : PySem.W.Frag} {H : Hp} : ∀ (bs : List Bool), DpAll K H (bs.map V.bl) (bs.map PyData.bool)
  | [] => .nil
  | _ :: r => .cons (.bl _) (dps_bls r)
def marksD (n : Nat) (f : Nat → Bool) : PyData := .list (((List.range (2 ^ n)).map f).map PyData.bool)
theorem eqv_marks (n : Nat) (f g : Nat → Bool) : PyData.eqv (marksD n f) (marksD n g) = eqB n f g := by
  unfold marksD
  rw [PyData.eqv, eqv_bls, Bool.eq_iff_iff, decide_eq_true_iff, eqB_iff]
  constructor
  · intro h m hm
    have := congrArg (fun l => l[m]?) h
    simpa [hm] using this
  · intro h
    exact List.map_congr_left fun m hm => h m (List.mem_range.mp hm)
theorem fit_marks (n : Nat) (f : Nat → Bool) : Fit 1 (marksD n f) := fit_lst fun d hd => by
  obtain ⟨b, _, rfl⟩ := List.mem_map.mp hd
  exact fit_bl b
section
variable {K : PySem.W.Frag} {H : Hp} {p q : Addr} {n : Nat} {f g : Nat → Bool} {Q : VK}
theorem dp_marks (h : SqL K H p (marksV n f)) : Dp K H (.ref p) (marksD n f) := .lst h (dps_bls _)
theorem marks_ne (c : Bool) (hp : SqL K H p (marksV n f)) (hq : SqL K H q (marksV n g)) (e : (!eqB n f g) = c) (k : Q (.bl c) H) : rNeD K (.ref p) (.ref q) H Q :=
  ⟨_, _, dp_marks hp, dp_marks hq, (fit_marks n f).shaped (by decide), (fit_marks n g).shaped (by decide), by rw [eqv_marks, e]; exact k⟩
theorem marks_eq (c : Bool) (hp : SqL K H p (marksV n f)) (hq : SqL K H q (marksV n g)) (e : eqB n f g = c) (k : Q (.bl c) H) : rEqD K (.ref p) (.ref q) H Q :=
  ⟨_, _, dp_marks hp, dp_marks hq, (fit_marks n f).shaped (by decide), (fit_marks n g).shaped (by decide), by rw [eqv_marks, e]; exact k⟩
end
theorem cut_head (x : V) (r : List V) : cutV (x :: r) none (some 1) = [x] := by
  unfold cutV HT.sIx
  simp
theorem str_ne {a b : Str} {H : Hp} {Q : VK} (e : a = b) (k : Q (.bl false) H) : rNe (.str a) (.str b) H Q := by
  subst e
  refine ⟨rfl, ?_⟩
  rw [decide_eq_true rfl]
  exact k
theorem le_and (n : Nat) (f g : Nat → Bool) : eqB n (fun m => f m && g m) f = leB n f g := by
  rw [Bool.eq_iff_iff, eqB_iff, leB_iff]
  exact ⟨fun h m hm e => by have := h m hm; rw [e] at this; simpa using this, fun h m hm => by
    cases e : f m with
    | false => rfl
    | true => rw [h m hm e] <;> rfl⟩
theorem le_and2 (n : Nat) (f g : Nat → Bool) : eqB n (fun m => f m && g m) g = leB n g f := by
  rw [← le_and]
  congr 1
  exact funext fun m => Bool.and_comm _ _
theorem le_or (n : Nat) (f g : Nat → Bool) : leB n f (fun m => f m || g m) = true := leB_iff.mpr fun m _ e => by rw [e] <;> rfl
theorem and_le (n : Nat) (f g : Nat → Bool) : leB n (fun m => f m && g m) f = true := leB_iff.mpr fun m _ e => by
  cases h : f m with
  | true => rfl
  | false => rw [h] at e; cases e
/-! ### a try with several except clauses, each with a name or without one -/
/-- one clause: its class, the slot of its name, its suite -/
structure Clause where
  cv : Value
  ix : Option Nat
  ts : Addr → Value → Option Addr → TS
def clEnds (D : Ends) : Option Nat → Ends
  | none => D
  | some i => { nx := fun σ1 H1 => D.nx (σ1.set i none) H1, rt := D.rt, bk := fun σ1 H1 => D.bk (σ1.set i none) H1, ct := fun σ1 H1 => D.ct (σ1.set i none) H1 }
def clSet (σ : L2.St) (p : Addr) : Option Nat → L2.St
  | none => σ
  | some i => σ.set i (some (.ref p))
/-- the wish of the clauses, one after the other -/
def wMix (K : PySem.W.Frag) (Z : WX) (D : Ends) : List Clause → WX
  | [] => Z
  | c :: r => fun k dd σ H => ∃ b, PySem.W.exmOne K k c.cv = some b ∧ (b = true → ∀ p, H p = none → c.ts p k dd (clEnds D c.ix) (clSet σ p c.ix) H) ∧ (b = false → wMix K Z D r k dd σ H)
inductive MixOk (X : Cx) : List ExceptHandler → List Clause → Prop
  | nil : MixOk X [] []
  | un {y : Str} {cv : Value} {TS1 : Addr → Value → Option Addr → TS} {b1 : Stmt} {su : List Stmt} {p1 p2 : Pos} {hs : List ExceptHandler} {l : List Clause} (h6 : Names X y cv)
      (HS : ∀ (p : Addr) (ob : Obj) (k : Value) (dd : Option Addr) (pl : List (Addr × Obj)), Zc k dd ob → (∃ fv, ob.data = .fields fv) → PSs (X.suite p ((p, ob) :: pl)) (b1 :: su) (TS1 p k dd)) (r : MixOk X hs l) :
      MixOk X (.ExceptHandler (some (.Name y p1)) none (b1 :: su) p2 :: hs) (⟨cv, none, TS1⟩ :: l)
  | as {y nm : Str} {cv : Value} {ix : Nat} {TS1 : Addr → Value → Option Addr → TS} {b1 : Stmt} {su : List Stmt} {p1 p2 : Pos} {hs : List ExceptHandler} {l : List Clause} (h4 : X.N[ix]? = some nm) (h5 : X.env.kindOf nm = some .local) (h6 : Names X y cv)
      (HS : ∀ (p : Addr) (ob : Obj) (k : Value) (dd : Option Addr) (pl : List (Addr × Obj)), Zc k dd ob → (∃ fv, ob.data = .fields fv) → PSs (X.suite p ((p, ob) :: pl)) (b1 :: su) (TS1 p k dd)) (r : MixOk X hs l) :
      MixOk X (.ExceptHandler (some (.Name y p1)) (some nm) (b1 :: su) p2 :: hs) (⟨cv, some ix, TS1⟩ :: l)
section
variable {X : Cx} {bd : List Stmt} {e0 : ExceptHandler} {er : List ExceptHandler} {l : List Clause} {p3 : Pos} {TB : WX → TS} {Z : WX}
theorem ps_try_mix (h1 : X.stack = X.env :: X.outer) (h2 : X.env.frame = some X.env.locals) (h3 : X.N.Nodup) (tk : Takes X Z)
    (HB : ∀ (V1 : WX) (pl : List (Addr × Obj)) (z : Value → Shared → Prop), Takes (X.tr pl z) V1 → PassesOwn (model X.prog X.w) X.A X.env z → PSs (X.tr pl z) bd (TB V1))
    (HH : MixOk X (e0 :: er) l) : PS X (.Try bd (e0 :: er) [] [] p3) (fun D σ H => TB (wMix X.K Z D l) D σ H) := by
  constructor
  intro pins s σ H D I h
  have okX := I.ok
  have frames : X.A.frames = some (X.env :: X.outer) := by rw [okX.frames, h1]
  refine wpAny_Try_except ?_
  refine wpAny_mono ((HB (wMix X.K Z D l) (X.pn ++ pins) _ (fun u s' got => ?caught) PassesOwn.looking).run [] s σ H D (I.toTry _) h) (fun f s1 z => ?fine) fun _ _ z => z
  case fine =>
    cases f with
    | next => obtain ⟨σ1, H1, J, q⟩ := z; exact wpAny_execs_nil ⟨σ1, H1, J.ofTry okX, q⟩
    | brk => obtain ⟨σ1, H1, J, q⟩ := z; exact ⟨σ1, H1, J.ofTry okX, q⟩
    | cont => obtain ⟨σ1, H1, J, q⟩ := z; exact ⟨σ1, H1, J.ofTry okX, q⟩
    | ret u => obtain ⟨v, σ1, H1, J, r, q⟩ := z; exact ⟨v, σ1, H1, J.ofTry okX, r, q⟩
  case caught =>
    obtain ⟨p, B, s2, pins2, σ1, H1, k, dd, rfl, J0, old, up0, air, hp, sameOs, bare, wish⟩ := got
    have J := J0.ofTry okX
    have air' : Sky B (X.env :: X.outer) p (Zc k dd) X.env.locals s'.heap := by rw [← h1]; exact air
    show wpAny (model X.prog X.w) X.A (noteFrame (.ref p) X.env) _ _ _
    refine Sky.land Zc.steady frames h2 air' ?_
    intro g1 fly1 up1
    have J1 : Inv X pins σ1 H1 { s' with heap := g1 } := J.landed old fly1.1 (up0.trans up1) sameOs bare
    obtain ⟨ob1, fv1, at1, z1, d1⟩ := fly1.there
    have noFrame : p ∉ frs (X.env :: X.outer) := by
      intro m
      obtain ⟨_, o, e, no⟩ := fly1.2.2.1.mem m
      rw [at1] at e
      cases e
      exact no _ d1
    have noL : p ≠ X.env.locals := by
      intro z
      refine noFrame (List.mem_filterMap.mpr ⟨X.env, List.mem_cons_self, ?_⟩)
      rw [h2, z]
    have noFs : p ∉ X.fs := by
      intro m
      obtain ⟨e, he, q⟩ := List.mem_filterMap.mp m
      exact noFrame (List.mem_filterMap.mpr ⟨e, List.mem_cons_of_mem _ he, q⟩)
    have S1 := J1.suite at1 d1 hp noL noFs
    have typ : PySem.W.Looks (model X.prog X.w) g1 (typeOf (.ref p)) k := fun A Q E s k2 q => wpAny_typeOf_ref (k2 _ _ at1) (by rw [z1.1]; exact q)
    have name1 : ∀ {y : Str} {cv : Value} {p1 : Pos} {Q : Value → Shared → Prop} {E : Value → Shared → Prop}, Names X y cv → Q cv { s' with heap := g1 } → wpAny (model X.prog X.w) (X.A.mark (some (.ref p))) (eval (.Name y p1) X.env) Q E { s' with heap := g1 } := by
      intro y cv p1 Q E h6 q
      obtain ⟨hg, db, hm | ⟨hm, hv, nn⟩⟩ := h6
      · exact ld_glob (X := X.suite p ((p, ob1) :: (X.pn ++ pins))) S1 hg hm q db
      · exact ld_blt (X := X.suite p ((p, ob1) :: (X.pn ++ pins))) S1 hg hm hv q nn db
    have all : ∀ {er' : List ExceptHandler} {l' : List Clause}, MixOk X er' l' → wMix X.K Z D l' k dd σ1 H1 → wpAny (model X.prog X.w) X.A (handleBy (.ref p) X.env er') (SP X pins D) X.xe { s' with heap := g1 } := by
      intro er' l' mk
      induction mk with
      | nil =>
        intro wish
        refine wpAny_handleBy_nil ?_
        obtain ⟨k1, k2, k3, ob, fv, T, oT, t2, he, hz, hd, hx, hr⟩ := id fly1
        unfold PySem.passOn
        refine wpAny_bind (wpAny_field he hd hx ?_)
        rw [if_neg (by simp)]
        have out : wpAny (model X.prog X.w) X.A (setFlight (.ref p) X.env.frame) (fun _ s4 => wpAny (model X.prog X.w) X.A (throw (.ref p) : Sem Flow) (SP X pins D) X.xe s4) X.xe { s' with heap := g1 } := by
          rw [h2]
          refine HandSPX.setFlight_upZ fly1 fun g4 sky4 up4 => wpAny_throw (tk _ _ ?_)
          exact ⟨p, B, s2, pins, σ1, H1, k, dd, rfl, J, old, (up0.trans up1).trans up4, .inr (.inr (by rw [h1]; exact sky4)), hp, sameOs, bare, wish⟩
        first
          | exact wpAny_bind (wpAny_pure (wpAny_bind out))
          | exact wpAny_bind out
      | un h6 HS r ih =>
        intro wish
        obtain ⟨b, m1, yes, no⟩ := wish
        have hit := PySem.W.exm_one (M := model X.prog X.w) J1.kIn typ m1
        refine wpAny_handleBy_cons (codeAny_handlers_test ?_) (by intro q; cases q)
        refine name1 h6 (hit.here ?_)
        cases b with
        | false => exact ih (no rfl)
        | true =>
          refine codeAny_handlers_suite ?_
          refine HandSPX.lands_againZ fly1 ?_
          intro g2 fly2 up2
          have J2 : Inv X pins σ1 H1 { s' with heap := g2 } := J.landed old fly2.1 ((up0.trans up1).trans up2) sameOs bare
          obtain ⟨ob2, fv2, at2, z2, d2⟩ := fly2.there
          have S2 := J2.suite at2 d2 hp noL noFs
          refine wpAny_mono ((HS p ob2 k dd (X.pn ++ pins) z2 ⟨_, d2⟩).run [] _ _ H1 _ S2 (yes rfl p hp)) (fun f s6 z => ?_) fun _ _ z => z.elim
          cases f with
          | next => obtain ⟨σ6, H6, S6, q6⟩ := z; exact ⟨_, _, S6.unsuite okX, q6⟩
          | brk => obtain ⟨σ6, H6, S6, q6⟩ := z; exact ⟨_, _, S6.unsuite okX, q6⟩
          | cont => obtain ⟨σ6, H6, S6, q6⟩ := z; exact ⟨_, _, S6.unsuite okX, q6⟩
          | ret u => obtain ⟨v6, σ6, H6, S6, r6, q6⟩ := z; exact ⟨_, _, _, S6.unsuite okX, r6, q6⟩
      | @as y nm cv ix TS1 b1 su p1 p2 hs l2 h4 h5 h6 HS r ih =>
        intro wish
        obtain ⟨b, m1, yes, no⟩ := wish
        have hit := PySem.W.exm_one (M := model X.prog X.w) J1.kIn typ m1
        refine wpAny_handleBy_cons (codeAny_handlers_test ?_) (by intro q; cases q)
        refine name1 h6 (hit.here ?_)
        cases b with
        | false => exact ih (no rfl)
        | true =>
          refine codeAny_handlers_suite_as ?_
          refine HandSPX.lands_againZ fly1 ?_
          intro g2 fly2 up2
          have J2 : Inv X pins σ1 H1 { s' with heap := g2 } := J.landed old fly2.1 ((up0.trans up1).trans up2) sameOs bare
          obtain ⟨ob2, fv2, at2, z2, d2⟩ := fly2.there
          have S2 := J2.suite at2 d2 hp noL noFs
          refine store_ok (X := X.suite p ((p, ob2) :: (X.pn ++ pins))) (v := .ref p) S2 h3 h4 (.inl h5) rfl (fun s5 S5 => ?_) (.inr h5)
          refine wpAny_mono ((HS p ob2 k dd (X.pn ++ pins) z2 ⟨_, d2⟩).run [] s5 _ H1 _ S5 (yes rfl p hp)) (fun f s6 z => ?_) fun _ _ z => z.elim
          have leave : ∀ {σ6 : L2.St} {H6 : Hp} {R : Shared → Prop}, Inv (X.suite p ((p, ob2) :: (X.pn ++ pins))) [] σ6 H6 s6 → (∀ s7, Inv X pins (σ6.set ix none) H6 s7 → R s7) →
              wpAny (model X.prog X.w) X.A (do bindName X.env nm .none; unbindBehindTheSuite X.env nm p2) (fun _ s7 => R s7) X.xe s6 := fun S6 hq => gone_ok (S6.unsuite okX) h3 h4 h5 hq
          cases f with
          | next => obtain ⟨σ6, H6, S6, q6⟩ := z; exact leave S6 fun s7 J7 => ⟨_, _, J7, q6⟩
          | brk => obtain ⟨σ6, H6, S6, q6⟩ := z; exact leave S6 fun s7 J7 => ⟨_, _, J7, q6⟩
          | cont => obtain ⟨σ6, H6, S6, q6⟩ := z; exact leave S6 fun s7 J7 => ⟨_, _, J7, q6⟩
          | ret u => obtain ⟨v6, σ6, H6, S6, r6, q6⟩ := z; exact leave S6 fun s7 J7 => ⟨_, _, _, J7, r6, q6⟩
    exact all HH wish
end
/-! ### comprehensions whose items are lists: what is told of an item stands while only the new list grows -/
theorem lc_itMN {J : It} {n : Nat} {G : Hp → Prop} {Y : Nat → Hp → V → Hp → Prop} (w : Walk J n G Y) {α : Type} (f : Nat → Option α) (R : α → V → Hp → Prop)
    {g : TG} {tt : TT} {te : TE} {vs : List Nat} {σ : L2.St} {H1 : Hp} {D : Addr} {Qd : Hp → Prop} (st : ∀ a y H H', Exc D H H' → R a y H → R a y H') (nD : H1 D = none) (hG : ∀ H, Same H1 H → G H) (hn : n ≤ 100000)
    (hs : ∀ i x H H' (k : V → Hp → Prop) (N : Hp → Prop), i < n → Same H1 H → (∃ ys, H D = some (.lst ys)) → Y i H x H' → (∀ y H4 a, Same H H4 → f i = some a → R a y H4 → k y H4) → (∀ H3, Same H H3 → f i = none → N H3) →
      g x (wipe σ vs) H' fun σ2 H2 => wipe σ2 vs = wipe σ vs ∧ tt σ2 H2 fun b H3 => if b = true then te σ2 H3 k else N H3)
    (hd : ∀ H' ys, Same H1 H' → H' D = some (.lst ys) → Paired (fun a y => R a y H') ((List.range n).filterMap f) ys → Qd H') :
    ∃ W : Nat → Nat → Hp → Prop, (∃ m, W 0 m (upd H1 D (.lst []))) ∧ ∀ i m H, W i m H →
      (J.stop i H ∧ Qd H) ∨ (J.go i H ∧ ∃ Nx : Hp → Prop, (∀ H', Nx H' → ∃ m', m' < m ∧ W (i + 1) m' H') ∧ ∀ x H', J.yld i H x H' → g x (wipe σ vs) H' fun σ2 H2 => wipe σ2 vs = wipe σ vs ∧ tt σ2 H2 fun b H3 =>
        if b = true then te σ2 H3 fun y H4 => ∃ acc, H4 D = some (.lst acc) ∧ acc.length < sizeLine ∧ Nx (upd H4 D (.lst (acc ++ [y]))) else Nx H3) := by
  have e100 : (100000 : Nat) < sizeLine := by decide
  refine lc_it w (fun i H => i ≤ n ∧ Same H1 H ∧ ∃ ys, H D = some (.lst ys) ∧ ys.length ≤ i ∧ Paired (fun a y => R a y H) ((List.range i).filterMap f) ys)
    ⟨Nat.zero_le _, same_upd nD, [], upd_same, Nat.le_refl _, .nil⟩ (fun i H _ h => hG H h.2.1) ?_ fun H h => by
      obtain ⟨_, sm, ys, hD, _, p⟩ := h
      exact hd H ys sm hD p
  rintro i x H H' hi ⟨_, sm, ys, hD, hl, p⟩ y
  refine hs i x H H' _ _ hi sm ⟨ys, hD⟩ y (fun z H4 a s4 hf hr => ?_) fun H3 s3 hf => ?_
  · have h4 := s4 _ _ hD
    refine ⟨ys, h4, by omega, hi, same_upd2 (sm.trans s4) nD, _, upd_same, by rw [List.length_append, List.length_singleton]; omega, ?_⟩
    rw [List.range_succ, List.filterMap_append]
    have t4 : Exc D H4 (upd H4 D (.lst (ys ++ [z]))) := fun b u n h => (upd_ne n).trans h
    refine prApp (prImp (fun a y' h => st a y' _ _ ((exc_same s4).trans t4) h) p) ?_
    rw [List.filterMap_cons, hf]
    exact .cons (st a z _ _ t4 hr) .nil
  · refine ⟨hi, sm.trans s3, ys, s3 _ _ hD, by omega, ?_⟩
    rw [List.range_succ, List.filterMap_append, List.filterMap_cons, hf]
    rw [← List.append_nil ys]
    exact prApp (prImp (fun a y' h => st a y' _ _ (exc_same s3) h) p) .nil
theorem lc_itN {J : It} {n : Nat} {G : Hp → Prop} {Y : Nat → Hp → V → Hp → Prop} (w : Walk J n G Y) {α : Type} (f : Nat → α) (R : α → V → Hp → Prop)
    {g : TG} {te : TE} {vs : List Nat} {σ : L2.St} {H1 : Hp} {D : Addr} {Qd : Hp → Prop} (st : ∀ a y H H', Exc D H H' → R a y H → R a y H') (nD : H1 D = none) (hG : ∀ H, Same H1 H → G H) (hn : n ≤ 100000)
    (hs : ∀ i x H H' (k : V → Hp → Prop), i < n → Same H1 H → (∃ ys, H D = some (.lst ys)) → Y i H x H' → (∀ y H4, Same H H4 → R (f i) y H4 → k y H4) → g x (wipe σ vs) H' fun σ2 H2 => wipe σ2 vs = wipe σ vs ∧ te σ2 H2 k)
    (hd : ∀ H' ys, Same H1 H' → H' D = some (.lst ys) → Paired (fun a y => R a y H') ((List.range n).map f) ys → Qd H') :
    ∃ W : Nat → Nat → Hp → Prop, (∃ m, W 0 m (upd H1 D (.lst []))) ∧ ∀ i m H, W i m H →
      (J.stop i H ∧ Qd H) ∨ (J.go i H ∧ ∃ Nx : Hp → Prop, (∀ H', Nx H' → ∃ m', m' < m ∧ W (i + 1) m' H') ∧ ∀ x H', J.yld i H x H' → g x (wipe σ vs) H' fun σ2 H2 => wipe σ2 vs = wipe σ vs ∧ tYes σ2 H2 fun b H3 =>
        if b = true then te σ2 H3 fun y H4 => ∃ acc, H4 D = some (.lst acc) ∧ acc.length < sizeLine ∧ Nx (upd H4 D (.lst (acc ++ [y]))) else Nx H3) := by
  refine lc_itMN w (fun i => some (f i)) R st nD hG hn (fun i x H H' k N hi sm hD y hk _ => ?_) fun H' ys sm hD p => hd H' ys sm hD ?_
  · have := hs i x H H' k hi sm hD y fun y H4 s4 hr => hk y H4 _ s4 rfl hr
    exact this
  · rw [← List.filterMap_eq_map]
    exact p
/-! ### pairs of lists -/
theorem prTake {α β : Type} {F : α → β → Prop} : ∀ {xs : List α} {ys : List β} (k : Nat), Paired F xs ys → Paired F (xs.take k) (ys.take k)
  | _, _, 0, _ => by rw [List.take_zero, List.take_zero]; exact .nil
  | _, _, _ + 1, .nil => by rw [List.take_nil, List.take_nil]; exact .nil
  | _, _, k + 1, .cons a t => by rw [List.take_succ_cons, List.take_succ_cons]; exact .cons a (prTake k t)
theorem prSet {α β : Type} {F : α → β → Prop} {x : α} {y : β} (h : F x y) : ∀ {xs : List α} {ys : List β} (k : Nat), Paired F xs ys → Paired F (xs.set k x) (ys.set k y)
  | _, _, _, .nil => .nil
  | _, _, 0, .cons _ t => .cons h t
  | _, _, k + 1, .cons a t => .cons a (prSet h k t)
theorem prMap2 {α β γ : Type} {F : α → β → Prop} {f : γ → α} {G : γ → β → Prop} (h : ∀ c b, G c b → F (f c) b) : ∀ {xs : List γ} {ys : List β}, Paired G xs ys → Paired F (xs.map f) ys
  | _, _, .nil => .nil
  | _, _, .cons a t => .cons (h _ _ a) (prMap2 h t)
/-! ### sum of integers and booleans -/
def nV : V → Option Int
  | .int i => some i
  | .bl b => some (if b = true then 1 else 0)
  | _ => none
def rSumB (K : PySem.W.Frag) : List V → Hp → VK → Prop := fun vs H Q => ∃ (a : Addr) (xs : List V) (ns : List Int), vs = [V.ref a] ∧ SqL K H a xs ∧ xs.map nV = ns.map some ∧ Q (.int ns.sum) H
theorem preSum_getD (ns : List Int) : ∀ j, preSum (fun i => ns.getD i 0) j = (ns.take j).sum
  | 0 => by simp [preSum]
  | j + 1 => by
    rw [preSum, preSum_getD ns j, List.take_add_one, List.sum_append, List.getD_eq_getElem?_getD]
    cases ns[j]? <;> simp
theorem cr_sumB {X : Cx} (hc : X.calm = true) : CallR X (.builtin "sum") (rSumB X.K) := by
  intro pins s σ H vs us Q I r h
  obtain ⟨a, xs, ns, rfl, hs, hn, q⟩ := h
  obtain ⟨its, rv, hl, _⟩ := I.list hs
  rw [Vals.ref1 r]
  have hl := hl.isList
  have ll : its.length = ns.length := by
    have h1 := rv.length
    have h2 := congrArg List.length hn
    rw [List.length_map, List.length_map] at h2
    omega
  refine call_sum_walkAnyB ?_
  have hlt : a < s.heap.objs.size := by obtain ⟨_, e, _⟩ := hl; exact Heap.lt_size e
  refine wpAny_pyIter_list hl ?_
  refine ⟨_, _, _, _, _, _, _, fun i => ns.getD i 0, rfl, (Walks.list (A := X.A.in1) (I.ok.hd hc) _ a (Nat.ne_of_lt hlt) its.toArray).toS, ⟨⟨_, Heap.get?_push_size _ rfl, rfl, rfl⟩, hl.push _⟩, fun b hb => ?_, fun i v hv => ?_, fun s' t' m => ?_⟩
  · show b < (s.heap.push _).objs.size
    rw [Heap.size_push]
    rcases List.mem_cons.mp hb with rfl | hb
    · exact Nat.lt_succ_self _
    · rcases List.mem_cons.mp hb with rfl | hb
      · exact Nat.lt_succ_of_lt hlt
      · cases hb
  · have hv : its[i]? = some v := by simpa using hv
    obtain ⟨k1, _⟩ := List.getElem?_eq_some_iff.mp hv
    have k2 : i < xs.length := by rw [rv.length]; exact k1
    have k3 : i < ns.length := by omega
    obtain ⟨u, hu, ru⟩ := rv.get (List.getElem?_eq_getElem k2)
    cases hv.symm.trans hu
    have en := congrArg (fun l => l[i]?) hn
    simp only [List.getElem?_map, List.getElem?_eq_getElem k2, List.getElem?_eq_getElem k3, Option.map_some] at en
    have en := Option.some.inj en
    show NumOf (ns.getD i 0) v
    rw [List.getD_eq_getElem?_getD, List.getElem?_eq_getElem k3]
    show NumOf ns[i] v
    revert ru en
    generalize xs[i] = x
    intro ru en
    cases x with
    | int j =>
      cases en
      obtain ⟨t, e⟩ := ru
      exact .inl ⟨t, e⟩
    | bl b =>
      cases (show _ = Value.bool b from ru)
      exact .inr ⟨b, rfl, (Option.some.inj en).symm⟩
    | _ => cases en
  · obtain ⟨m1, m2, m3, m4, m5⟩ := m
    have hk : ∀ b o, s.heap.get? b = some o → s'.heap.get? b = some o := fun b o e => m1 b o (fun hb => Nat.ne_of_lt (Heap.lt_size e) (List.mem_singleton.mp hb)) (Heap.get?_push_of_some _ e)
    have es : s' = { s with heap := s'.heap, toks := s'.toks } := by
      cases s'
      cases s
      simp only at m2 m3 m4
      subst m2 m3 m4
      rfl
    have e2 : preSum (fun i => ns.getD i 0) its.toArray.size = ns.sum := by
      rw [preSum_getD, List.size_toArray, ll, List.take_length]
    have K := I.kept (t' := s'.toks) hk
    rw [← es] at K
    refine ⟨.int ns.sum, H, K, ⟨_, by rw [e2]⟩, q⟩
def rSumT (K : PySem.W.Frag) : List V → Hp → VK → Prop := fun vs H Q => ∃ (a : Addr) (xs : List V) (ns : List Int), vs = [V.ref a] ∧ SqT K H a xs ∧ xs.map nV = ns.map some ∧ Q (.int ns.sum) H
theorem cr_sumT {X : Cx} (hc : X.calm = true) : CallR X (.builtin "sum") (rSumT X.K) := by
  intro pins s σ H vs us Q I r h
  obtain ⟨a, xs, ns, rfl, hs, hn, q⟩ := h
  obtain ⟨its, rv, hl, _⟩ := I.tuple hs
  rw [Vals.ref1 r]
  have hl : s.heap.IsTuple a its.toArray := hl
  have ll : its.length = ns.length := by
    have h1 := rv.length
    have h2 := congrArg List.length hn
    rw [List.length_map, List.length_map] at h2
    omega
  refine call_sum_walkAnyB ?_
  have hlt : a < s.heap.objs.size := by obtain ⟨_, e, _⟩ := hl; exact Heap.lt_size e
  refine wpAny_pyIter_tuple hl ?_
  refine ⟨_, _, _, _, _, _, _, fun i => ns.getD i 0, rfl, (Walks.tuple (A := X.A.in1) (I.ok.hd hc) _ a (Nat.ne_of_lt hlt) its.toArray).toS, ⟨⟨_, Heap.get?_push_size _ rfl, rfl, rfl⟩, hl.push _⟩, fun b hb => ?_, fun i v hv => ?_, fun s' t' m => ?_⟩
  · show b < (s.heap.push _).objs.size
    rw [Heap.size_push]
    rcases List.mem_cons.mp hb with rfl | hb
    · exact Nat.lt_succ_self _
    · rcases List.mem_cons.mp hb with rfl | hb
      · exact Nat.lt_succ_of_lt hlt
      · cases hb
  · have hv : its[i]? = some v := by simpa using hv
    obtain ⟨k1, _⟩ := List.getElem?_eq_some_iff.mp hv
    have k2 : i < xs.length := by rw [rv.length]; exact k1
    have k3 : i < ns.length := by omega
    obtain ⟨u, hu, ru⟩ := rv.get (List.getElem?_eq_getElem k2)
    cases hv.symm.trans hu
    have en := congrArg (fun l => l[i]?) hn
    simp only [List.getElem?_map, List.getElem?_eq_getElem k2, List.getElem?_eq_getElem k3, Option.map_some] at en
    have en := Option.some.inj en
    show NumOf (ns.getD i 0) v
    rw [List.getD_eq_getElem?_getD, List.getElem?_eq_getElem k3]
    show NumOf ns[i] v
    revert ru en
    generalize xs[i] = x
    intro ru en
    cases x with
    | int j =>
      cases en
      obtain ⟨t, e⟩ := ru
      exact .inl ⟨t, e⟩
    | bl b =>
      cases (show _ = Value.bool b from ru)
      exact .inr ⟨b, rfl, (Option.some.inj en).symm⟩
    | _ => cases en
  · obtain ⟨m1, m2, m3, m4, m5⟩ := m
    have hk : ∀ b o, s.heap.get? b = some o → s'.heap.get? b = some o := fun b o e => m1 b o (fun hb => Nat.ne_of_lt (Heap.lt_size e) (List.mem_singleton.mp hb)) (Heap.get?_push_of_some _ e)
    have es : s' = { s with heap := s'.heap, toks := s'.toks } := by
      cases s'
      cases s
      simp only at m2 m3 m4
      subst m2 m3 m4
      rfl
    have e2 : preSum (fun i => ns.getD i 0) its.toArray.size = ns.sum := by
      rw [preSum_getD, List.size_toArray, ll, List.take_length]
    have K := I.kept (t' := s'.toks) hk
    rw [← es] at K
    refine ⟨.int ns.sum, H, K, ⟨_, by rw [e2]⟩, q⟩
/-- what the top has left -/
structure Ctx (K : PySem.W.Frag) (mg : Str → Option Value) where
  c_VoteError : Addr
  gc_VoteError : mg "VoteError" = some (.ref c_VoteError)
  c_BadNumber : Addr
  gc_BadNumber : mg "BadNumber" = some (.ref c_BadNumber)
  c_Votes : Addr
  gc_Votes : mg "Votes" = some (.ref c_Votes)
  f_BadNumber_init : Addr
  fd_BadNumber_init : FuncData
  F_BadNumber_init : Fun K "__init__" "BadNumber.__init__" s_BadNumber_init f_BadNumber_init fd_BadNumber_init
  b_BadNumber_init : Binds K fd_BadNumber_init ["self", "what", "value"] []
  f_is_integer : Addr
  fd_is_integer : FuncData
  F_is_integer : Fun K "is_integer" "is_integer" s_is_integer f_is_integer fd_is_integer
  b_is_integer : Binds K fd_is_integer ["value"] []
  g_is_integer : mg "is_integer" = some (.ref f_is_integer)
  f_check_number : Addr
  fd_check_number : FuncData
  F_check_number : Fun K "check_number" "check_number" s_check_number f_check_number fd_check_number
  b_check_number : Binds K fd_check_number ["what", "value", "low", "high"] []
  g_check_number : mg "check_number" = some (.ref f_check_number)
  f_check_copies : Addr
  fd_check_copies : FuncData
  F_check_copies : Fun K "check_copies" "check_copies" s_check_copies f_check_copies fd_check_copies
  b_check_copies : Binds K fd_check_copies ["copies"] []
  g_check_copies : mg "check_copies" = some (.ref f_check_copies)
  f_Votes_init : Addr
  fd_Votes_init : FuncData
  F_Votes_init : Fun K "__init__" "Votes.__init__" s_Votes_init f_Votes_init fd_Votes_init
  f_Votes_eq : Addr
  fd_Votes_eq : FuncData
  F_Votes_eq : Fun K "__eq__" "Votes.__eq__" s_Votes_eq f_Votes_eq fd_Votes_eq
  b_Votes_eq : Binds K fd_Votes_eq ["self", "other"] []
  me_Votes_eq : Meth K c_Votes "__eq__" f_Votes_eq
  f_l_start : Addr
  fd_l_start : FuncData
  F_l_start : Fun K "_law_start" "_law_start" s_l_start f_l_start fd_l_start
  b_l_start : Binds K fd_l_start ["_law_script"] []
  g_l_start : mg "_law_start" = some (.ref f_l_start)
  f_l_draw : Addr
  fd_l_draw : FuncData
  F_l_draw : Fun K "_law_draw" "_law_draw" s_l_draw f_l_draw fd_l_draw
  b_l_draw : Binds K fd_l_draw ["_law_script", "_law_state", "_law_limit"] []
  g_l_draw : mg "_law_draw" = some (.ref f_l_draw)
  f_l_made : Addr
  fd_l_made : FuncData
  F_l_made : Fun K "_law_made" "_law_made" s_l_made f_l_made fd_l_made
  b_l_made : Binds K fd_l_made ["_law_quota", "_law_row_here"] []
  g_l_made : mg "_law_made" = some (.ref f_l_made)
  f_l_told : Addr
  fd_l_told : FuncData
  F_l_told : Fun K "_law_told" "_law_told" s_l_told f_l_told fd_l_told
  b_l_told : Binds K fd_l_told ["_law_quota", "_law_row_here"] []
  g_l_told : mg "_law_told" = some (.ref f_l_told)
  f_l_due : Addr
  fd_l_due : FuncData
  F_l_due : Fun K "_law_due" "_law_due" s_l_due f_l_due fd_l_due
  b_l_due : Binds K fd_l_due ["_law_quota", "_law_row_here"] []
  g_l_due : mg "_law_due" = some (.ref f_l_due)
  f_l_nine_refused : Addr
  fd_l_nine_refused : FuncData
  F_l_nine_refused : Fun K "_law_nine_refused" "_law_nine_refused" s_l_nine_refused f_l_nine_refused fd_l_nine_refused
  b_l_nine_refused : Binds K fd_l_nine_refused [] []
  g_l_nine_refused : mg "_law_nine_refused" = some (.ref f_l_nine_refused)
  f_l_row : Addr
  fd_l_row : FuncData
  F_l_row : Fun K "_law_row" "_law_row" s_l_row f_l_row fd_l_row
  b_l_row : Binds K fd_l_row ["_law_script", "_law_state"] []
  g_l_row : mg "_law_row" = some (.ref f_l_row)
  f_law : Addr
  fd_law : FuncData
  F_law : Fun K "law" "law" s_law f_law fd_law
  b_law : Binds K fd_law ["_law_script"] []
  g_law : mg "law" = some (.ref f_law)
  ox_BadNumber : OexC K c_BadNumber
  xn_BadNumber : PySem.W.findIn K (.ref c_BadNumber) "__init__" = some (some (.ref f_BadNumber_init))
  xt_BadNumber : PySem.W.typeIn K (.ref f_BadNumber_init) = some (.type "function")
  xf_BadNumber : XfC K c_BadNumber
  xi_BadNumber : XiC K c_BadNumber
  n_BadNumber_what : PySem.W.findIn K (.ref c_BadNumber) "what" = some none
  n_BadNumber_value : PySem.W.findIn K (.ref c_BadNumber) "value" = some none
  cl_Votes : Cls K c_Votes
  M_Votes : Mk K c_Votes f_Votes_init
  oc_Votes : OpC K c_Votes
  ic_Votes : InsC K c_Votes
  n_Votes_quota : NoAttr K c_Votes "quota"
  n_Votes_votes : NoAttr K c_Votes "votes"
  ki_Votes_Votes : PySem.W.kitOne K (.ref c_Votes) (.ref c_Votes) = some true
  ki_tuple_Votes : PySem.W.kitOne K (.type "tuple") (.ref c_Votes) = some false
  ex_BadNumber_BadNumber : PySem.W.exmOne K (.ref c_BadNumber) (.ref c_BadNumber) = some true
  gt_MOST_COPIES : Tok
  gk_MOST_COPIES : mg "MOST_COPIES" = some (.int 8 gt_MOST_COPIES)
  gt_MOST_VOTES : Tok
  gk_MOST_VOTES : mg "MOST_VOTES" = some (.int 1000 gt_MOST_VOTES)
  m_abs : mg "abs" = none
  m_bool : mg "bool" = none
  m_int : mg "int" = none
  m_isinstance : mg "isinstance" = none
  m_len : mg "len" = none
  m_list : mg "list" = none
  m_range : mg "range" = none
  m_sum : mg "sum" = none
  m_tuple : mg "tuple" = none

section
variable {P : Program} {w : World} {K : PySem.W.Frag} {mg : Str → Option Value} {base : Heap}
theorem ok_l_start (T : Ctx K mg) : FnOk P w K mg base CX0 1 T.f_l_start T.fd_l_start ["_law_script"] (spStart K) := by
  refine T.F_l_start.ok sc_l_start (fun vs H Q E h => ?_) (fun cdv A outer s H vs Q E hr h => ?_)
  · obtain ⟨l, ns, rfl, _⟩ := h
    rfl
  · obtain ⟨l, ns, rfl, hS, q⟩ := h
    refine ⟨_, (pss_cons (ps_set (i := 1) sc_l_start.nd rfl (Or.inl rfl) pe_int)
      (Evl.pss_cut (ps_if (pt_cmpR op_gt (pe_callB call_len_seq (by rfl) T.m_len (by decide +kernel) (pa_cons (pv 0) pa_nil)) pe_int (nomark _))
        (pss_one (ps_set (i := 1) sc_l_start.nd rfl (Or.inl rfl) (pe_ix ix_list (pv 0) pe_int (fun _ _ => rfl))))
        pss_nil)
      (pss_one (ps_ret (pe_lst (pa_cons (pe_callB call_abs (by rfl) T.m_abs (by decide +kernel) (pa_cons (pe_callTy call_int1 (by rfl) T.m_int (by decide +kernel) (pa_cons (pv 1) pa_nil)) pa_nil)) (pa_cons (pe_callTy call_int1 (by rfl) T.m_int (by decide +kernel) (pa_cons (pe_cmpR op_ge (pe_callB call_abs (by rfl) T.m_abs (by decide +kernel) (pa_cons (pe_callTy call_int1 (by rfl) T.m_int (by decide +kernel) (pa_cons (pv 1) pa_nil)) pa_nil)) (pe_op op_pow pe_int pe_int) (nomark _)) pa_nil)) (pa_cons pe_int (pa_cons pe_int pa_nil))))))))), ?_⟩
    refine ⟨fun σ' H' => H' = H ∧ ∃ z : Int, σ' = [some (.ref l), some (.int z)], ?_, ?_⟩
    · refine ⟨_, rfl, l, _, rfl, .inl hS, _, _, rfl, rfl, _, rfl, ?_⟩
      refine ite2 (fun hc => ?_) fun hc => ⟨rfl, 0, rfl⟩
      have hn : 0 < ns.length := by
        have := of_decide_eq_true hc
        rw [List.length_map] at this
        omega
      refine ⟨_, rfl, l, _, _, .int ns[0], rfl, rfl, hS, at_of (j := 0) rfl (by rw [List.getElem?_map, List.getElem?_eq_getElem hn]; rfl), ?_⟩
      exact ⟨rfl, _, rfl⟩
    · rintro σ' H' ⟨rfl, z, rfl⟩
      refine ⟨_, rfl, .inl ⟨_, rfl, _, rfl, ?_⟩⟩
      refine ⟨_, rfl, .inl ⟨_, rfl, _, rfl, _, _, rfl, rfl, ⟨by decide, by decide, by decide⟩, _, _, rfl, rfl, .inr ⟨_, rfl, ?_⟩⟩⟩
      refine ⟨by show 4 ≤ sizeLine; decide, fun t ht => ?_⟩
      exact q t _ ht ⟨⟨ns, hS⟩, ht, same_upd ht, ⟨_, _, _, _, upd_same⟩⟩ (But.refl.upd)
theorem ok_l_draw (T : Ctx K mg) : FnOk P w K mg base CX0 1 T.f_l_draw T.fd_l_draw ["_law_script", "_law_state", "_law_limit"] (spDraw K) := by
  refine T.F_l_draw.ok sc_l_draw (fun vs H Q E h => ?_) (fun cdv A outer s H vs Q E hr h => ?_)
  · obtain ⟨l, t, m, H0, rfl, _⟩ := h
    rfl
  · obtain ⟨l, t, m, H0, rfl, D, hm, hm2, q⟩ := h
    obtain ⟨a, b, c, d, ht⟩ := D.st
    have fin : ∀ (z : Int) H', But t H H' → Drw K H0 l t H' → Q (.int (z.fmod m)) H' := fun z H' e1 D' =>
      q _ _ (Int.fmod_nonneg_of_pos _ hm) (Int.fmod_lt_of_pos _ hm) e1 D'
    refine ⟨_, (pss_cons (ps_asg (pe_op op_add (pe_ix ix_list (pv 1) pe_int (fun _ _ => rfl)) pe_int) (pg_sub (pv 1) pe_int set_list))
      (Evl.pss_cut (ps_if (PW.pt (pw_and (pt_cmpR op_eq (pe_ix ix_list (pv 1) pe_int (fun _ _ => rfl)) pe_int (nomark _)) (pw_and1 (pt_cmpR op_gt (pe_ix ix_list (pv 1) pe_int (fun _ _ => rfl)) pe_int (nomark _)))))
        (pss_cons (ps_set (i := 3) sc_l_draw.nd rfl (Or.inl rfl) (pe_op op_modN (pe_callTy call_int1 (by rfl) T.m_int (by decide +kernel) (pa_cons (pe_ix ix_list (pv 1) pe_int (fun _ _ => rfl)) pa_nil)) (pv 2)))
        (pss_cons (ps_asg (pe_op op_fdivN (pe_ix ix_list (pv 1) pe_int (fun _ _ => rfl)) (pv 2)) (pg_sub (pv 1) pe_int set_list))
        (pss_one (ps_ret (pv 3)))))
        pss_nil)
      (pss_cons (ps_asg pe_int (pg_sub (pv 1) pe_int set_list))
      (pss_cons (ps_set (i := 4) sc_l_draw.nd rfl (Or.inl rfl) pe_int)
      (Evl.pss_cut (ps_if (pt_cmpR op_gt (pe_callB call_len_seq (by rfl) T.m_len (by decide +kernel) (pa_cons (pv 0) pa_nil)) pe_int (nomark _))
        (pss_one (ps_set (i := 4) sc_l_draw.nd rfl (Or.inl rfl) (pe_ix ix_list (pv 0) (pe_op op_modN (pe_callTy call_int1 (by rfl) T.m_int (by decide +kernel) (pa_cons (pe_ix ix_list (pv 1) pe_int (fun _ _ => rfl)) pa_nil)) (pe_callB call_len_seq (by rfl) T.m_len (by decide +kernel) (pa_cons (pv 0) pa_nil))) (fun _ _ => rfl))))
        pss_nil)
      (pss_cons (ps_asg (pe_op op_add (pe_ix ix_list (pv 1) pe_int (fun _ _ => rfl)) pe_int) (pg_sub (pv 1) pe_int set_list))
      (pss_cons (ps_set (i := 5) sc_l_draw.nd rfl (Or.inl rfl) (pe_op op_mul (pe_op op_mod (pe_callTy call_int1 (by rfl) T.m_int (by decide +kernel) (pa_cons (pe_ix ix_list (pv 1) pe_int (fun _ _ => rfl)) pa_nil)) pe_int) pe_int))
      (pss_cons (ps_set (i := 5) sc_l_draw.nd rfl (Or.inl rfl) (pe_op op_add (pe_op op_add (pe_op op_add (pv 5) (pe_op op_mod (pe_callTy call_int1 (by rfl) T.m_int (by decide +kernel) (pa_cons (pv 4) pa_nil)) pe_int)) (pe_op op_mul pe_int (pe_ix ix_list (pv 1) pe_int (fun _ _ => rfl)))) pe_int))
      (pss_cons (ps_asg (pe_op op_mod (pe_callTy call_int1 (by rfl) T.m_int (by decide +kernel) (pa_cons (pv 5) pa_nil)) pe_int) (pg_sub (pv 1) pe_int set_list))
      (pss_cons (ps_set (i := 5) sc_l_draw.nd rfl (Or.inl rfl) (pe_op op_mod (pe_callTy call_int1 (by rfl) T.m_int (by decide +kernel) (pa_cons (pe_op op_add (pe_op op_mul (pe_ix ix_list (pv 1) pe_int (fun _ _ => rfl)) pe_int) (pe_ix ix_list (pv 1) pe_int (fun _ _ => rfl))) pa_nil)) pe_int))
      (pss_one (ps_ret (pe_op op_modN (pe_callTy call_int1 (by rfl) T.m_int (by decide +kernel) (pa_cons (pe_op op_fdiv (pv 5) pe_int) pa_nil)) (pv 2)))))))))))))), ?_⟩
    -- state[3] = state[3] + 1
    refine ⟨_, rfl, t, _, _, _, rfl, rfl, SqL.of ht, at3, _, _, rfl, rfl, _, rfl, t, _, _, 3, rfl, rfl, ht, rfl, ?_⟩
    -- the first way
    refine ⟨fun σ' H' => σ' = [some (.ref l), some (.ref t), some (.int m), none, none, none] ∧ H' = upd H t (.lst [.int a, .int b, .int c, .int (d + 1)]), ?_, ?_⟩
    · refine ⟨_, rfl, t, _, _, _, rfl, rfl, SqL.of upd_same, at1, rfl, _, rfl, ?_⟩
      refine ite2 (fun hc => ?_) fun hc => iteF ⟨rfl, rfl⟩
      refine ⟨_, rfl, t, _, _, _, rfl, rfl, SqL.of upd_same, at0, _, _, rfl, rfl, _, rfl, ?_⟩
      refine ite2 (fun hc => ?_) fun hc => ⟨rfl, rfl⟩
      refine ⟨_, rfl, t, _, _, _, rfl, rfl, SqL.of upd_same, at0, .inl ⟨_, rfl, _, rfl, _, _, rfl, rfl, by omega, ?_⟩⟩
      refine ⟨_, rfl, t, _, _, _, rfl, rfl, SqL.of upd_same, at0, _, rfl, _, _, rfl, rfl, ⟨by omega, by omega⟩, _, rfl, t, _, _, 0, rfl, rfl, upd_same, rfl, ?_⟩
      exact ⟨_, rfl, fin _ _ (But.refl.upd.upd) (D.upd.upd)⟩
    · rintro σ' H' ⟨rfl, rfl⟩
      -- state[1] = 0; cell = 0
      refine ⟨_, rfl, t, _, _, 1, rfl, rfl, upd_same, rfl, ?_⟩
      have e1 : upd (upd H t (.lst [.int a, .int b, .int c, .int (d + 1)])) t (.lst ([V.int a, .int b, .int c, .int (d + 1)].set 1 (.int 0))) = upd H t (.lst [.int a, .int 0, .int c, .int (d + 1)]) := upd_upd
      rw [e1]
      have D1 : Drw K H0 l t (upd H t (.lst [.int a, .int 0, .int c, .int (d + 1)])) := D.upd
      obtain ⟨ns, hS⟩ := D1.sc
      refine ⟨fun σ' H' => H' = upd H t (.lst [.int a, .int 0, .int c, .int (d + 1)]) ∧ ∃ z : Int, σ' = [some (.ref l), some (.ref t), some (.int m), none, some (.int z), none], ?_, ?_⟩
      · refine ⟨_, rfl, l, _, rfl, .inl hS, _, _, rfl, rfl, _, rfl, ?_⟩
        refine ite2 (fun hc => ?_) fun hc => ⟨rfl, 0, rfl⟩
        have hn : 0 < ns.length := by
          have := of_decide_eq_true hc
          rw [List.length_map] at this
          omega
        have hn' : (0 : Int) < (((ns.map V.int).length : Nat) : Int) := by
          rw [List.length_map]
          omega
        have h0 := Int.fmod_nonneg_of_pos c hn'
        have h1 := Int.fmod_lt_of_pos c hn'
        rw [List.length_map] at h1
        have hj : (c.fmod ((ns.map V.int).length : Nat)).toNat < ns.length := by
          rw [List.length_map] at h0 ⊢
          omega
        refine ⟨_, rfl, _, rfl, t, _, _, _, rfl, rfl, SqL.of upd_same, at2, .inl ⟨_, rfl, _, rfl, l, _, rfl, .inl hS, _, _, rfl, rfl, by omega, ?_⟩⟩
        refine ⟨l, _, _, .int ns[(c.fmod ((ns.map V.int).length : Nat)).toNat], rfl, rfl, hS, at_of (j := (c.fmod ((ns.map V.int).length : Nat)).toNat) (by omega) (by rw [List.getElem?_map, List.getElem?_eq_getElem hj]; rfl), ?_⟩
        exact ⟨rfl, _, rfl⟩
      · rintro σ' H' ⟨rfl, z, rfl⟩
        -- state[2] = state[2] + 1
        refine ⟨_, rfl, t, _, _, _, rfl, rfl, SqL.of upd_same, at2, _, _, rfl, rfl, _, rfl, t, _, _, 2, rfl, rfl, upd_same, rfl, ?_⟩
        have e2 : upd (upd H t (.lst [.int a, .int 0, .int c, .int (d + 1)])) t (.lst ([V.int a, .int 0, .int c, .int (d + 1)].set 2 (.int (c + 1)))) = upd H t (.lst [.int a, .int 0, .int (c + 1), .int (d + 1)]) := upd_upd
        rw [e2]
        have hb := Int.emod_nonneg a (b := 2147483647) (by decide)
        have hb2 := Int.emod_lt_of_pos a (b := 2147483647) (by decide)
        refine ⟨_, rfl, t, _, _, _, rfl, rfl, SqL.of upd_same, at0, .inl ⟨_, rfl, _, _, rfl, rfl, (show (0 : Int) < 2147483647 by decide), _, _, rfl, rfl, .inl ⟨by omega, by omega⟩, ?_⟩⟩
        refine ⟨_, rfl, _, rfl, .inl ⟨_, rfl, _, _, rfl, rfl, (show (0 : Int) < 2147483629 by decide), _, _, rfl, rfl, _, rfl, t, _, _, _, rfl, rfl, SqL.of upd_same, at3, _, _, rfl, rfl, .inl ⟨by decide, by decide⟩, _, _, rfl, rfl, _, _, rfl, rfl, ?_⟩⟩
        refine ⟨_, rfl, .inl ⟨_, rfl, _, _, rfl, rfl, (show (0 : Int) < 2147483647 by decide), _, rfl, t, _, _, 0, rfl, rfl, upd_same, rfl, ?_⟩⟩
        generalize hw : (a % 2147483647 * 48271 + z % 2147483629 + 7 * (d + 1) + 11) = w'
        have e3 : upd (upd H t (.lst [.int a, .int 0, .int (c + 1), .int (d + 1)])) t (.lst ([V.int a, .int 0, .int (c + 1), .int (d + 1)].set 0 (.int (w' % 2147483647)))) = upd H t (.lst [.int (w' % 2147483647), .int 0, .int (c + 1), .int (d + 1)]) := upd_upd
        rw [e3]
        have hc := Int.emod_nonneg w' (b := 2147483647) (by decide)
        have hc2 := Int.emod_lt_of_pos w' (b := 2147483647) (by decide)
        refine ⟨_, rfl, t, _, _, _, rfl, rfl, SqL.of upd_same, at0, _, _, rfl, rfl, .inl ⟨by omega, by omega⟩, _, rfl, t, _, _, _, rfl, rfl, SqL.of upd_same, at3, _, _, rfl, rfl, .inl ⟨_, rfl, _, _, rfl, rfl, (show (0 : Int) < 2147483629 by decide), ?_⟩⟩
        refine ⟨_, rfl, _, _, rfl, rfl, ⟨by decide, by decide⟩, .inl ⟨_, rfl, _, rfl, _, _, rfl, rfl, by omega, ?_⟩⟩
        exact fin _ _ But.refl.upd D.upd
end
section
variable {P : Program} {w : World} {K : PySem.W.Frag} {mg : Str → Option Value} {base : Heap}
theorem ok_BadNumber_init (T : Ctx K mg) : FnOk P w K mg base CX0 1 T.f_BadNumber_init T.fd_BadNumber_init ["self", "what", "value"] (spX2 T.c_BadNumber "what" "value") := by
  refine T.F_BadNumber_init.ok sc_BadNumber_init (fun vs H Q E h => ?_) (fun cdv A outer s H vs Q E hr h => ?_)
  · obtain ⟨a, x, y, rfl, _⟩ := h
    rfl
  · obtain ⟨a, x, y, rfl, ha, q⟩ := h
    refine ⟨_, (pss_cons (ps_ost (pv 0) (pv 1))
      (pss_one (ps_ost (pv 0) (pv 2)))), ?_⟩
    refine ⟨_, rfl, _, rfl, a, T.c_BadNumber, rfl, T.ox_BadNumber, T.n_BadNumber_what, .inl ⟨ha, fun d hd hda => ?_⟩⟩
    refine ⟨_, rfl, _, rfl, a, T.c_BadNumber, rfl, T.ox_BadNumber, T.n_BadNumber_value, .inr ⟨d, [("what", x)], upd_same, ?_, by show 1 ≤ 900; decide, ?_⟩⟩
    · rw [upd_ne hda, upd_same]
    · exact q d hd hda
theorem ok_is_integer (T : Ctx K mg) : FnOk P w K mg base CX0 1 T.f_is_integer T.fd_is_integer ["value"] (spIsInt K) := by
  refine T.F_is_integer.ok sc_is_integer (fun vs H Q E h => ?_) (fun cdv A outer s H vs Q E hr h => ?_)
  · obtain ⟨x, rfl, _⟩ := h
    rfl
  · obtain ⟨x, rfl, ⟨t, b1, b2, ty, k1, k2, e⟩, q⟩ := h
    refine ⟨_, (pss_one (ps_ret (pe_and (pe_callB call_isi (by rfl) T.m_isinstance (by decide +kernel) (pa_cons (pv 0) (pa_cons (pe_bltn (v := .ty "int") (by rfl) T.m_int (by decide +kernel) rfl) pa_nil))) (pe_one (pe_not (pe_callB call_isi (by rfl) T.m_isinstance (by decide +kernel) (pa_cons (pv 0) (pa_cons (pe_bltn (v := .ty "bool") (by rfl) T.m_bool (by decide +kernel) rfl) pa_nil)))))))), ?_⟩
    refine ⟨_, rfl, _, _, _, _, _, rfl, .ty _, ty, k1, b1, rfl, ?_⟩
    rw [← e] at q
    cases b1 with
    | false => exact iteF q
    | true => exact iteT ⟨_, rfl, _, _, _, _, _, rfl, .ty _, ty, k2 rfl, b2, rfl, q⟩
theorem ok_check_number (T : Ctx K mg) : FnOk P w K mg base (L2.CX P w) 3 T.f_check_number T.fd_check_number ["what", "value", "low", "high"] (spCheck K T.c_BadNumber) := by
  refine T.F_check_number.okX sc_check_number (fun vs H Q E h => ?_) (fun cdv A outer s H vs Q E hr h => ?_)
  · obtain ⟨w, x, lo, hi, rfl, _⟩ := h
    rfl
  · obtain ⟨w, x, lo, hi, rfl, kn, q1, q2⟩ := h
    refine ⟨_, (pss_cons (ps_if (pt_not (pt_val (pe_call (ok_is_integer T) (hr.mono (by decide)) (by rfl) T.g_is_integer T.F_is_integer.kp T.b_is_integer .nil pass0 (pa_cons (pv 1) pa_nil))))
        (pss_one (ps_raise rfl (takes_of rfl rfl rfl rfl) (pmk_oex T.ox_BadNumber T.xn_BadNumber T.xt_BadNumber (ok_BadNumber_init T) (hr.mono (by decide)) T.b_BadNumber_init .nil pass0 (by rfl) T.gc_BadNumber (pa_cons (pv 0) (pa_cons (pv 1) pa_nil)))))
        pss_nil)
      (Evl.pss_cut (ps_if (PW.pt (pw_and (pt_cmpR op_notN (pv 2) pe_non (nomark _)) (pw_and1 (pt_cmpR op_lt (pv 1) (pv 2) (nomark _)))))
        (pss_one (ps_raise rfl (takes_of rfl rfl rfl rfl) (pmk_oex T.ox_BadNumber T.xn_BadNumber T.xt_BadNumber (ok_BadNumber_init T) (hr.mono (by decide)) T.b_BadNumber_init .nil pass0 (by rfl) T.gc_BadNumber (pa_cons (pv 0) (pa_cons (pv 1) pa_nil)))))
        pss_nil)
      (Evl.pss_cut (ps_if (PW.pt (pw_and (pt_cmpR op_notN (pv 3) pe_non (nomark _)) (pw_and1 (pt_cmpR op_gt (pv 1) (pv 3) (nomark _)))))
        (pss_one (ps_raise rfl (takes_of rfl rfl rfl rfl) (pmk_oex T.ox_BadNumber T.xn_BadNumber T.xt_BadNumber (ok_BadNumber_init T) (hr.mono (by decide)) T.b_BadNumber_init .nil pass0 (by rfl) T.gc_BadNumber (pa_cons (pv 0) (pa_cons (pv 1) pa_nil)))))
        pss_nil)
      (pss_one (ps_ret (pv 1)))))), ?_⟩
    refine ⟨_, rfl, x, rfl, kn, _, rfl, ?_⟩
    cases x with
    | int i =>
      refine iteF ?_
      refine ⟨fun σ' H' => σ' = [some (.str w), some (.int i), some (oV lo), some (oV hi)] ∧ H' = H ∧ lo.all (fun l => decide (l ≤ i)) = true, ?_, ?_⟩
      · cases lo with
        | none => exact ⟨_, rfl, rfl, _, rfl, iteF ⟨rfl, rfl, rfl⟩⟩
        | some l =>
          refine ⟨_, rfl, rfl, _, rfl, iteT ⟨_, rfl, _, rfl, _, _, rfl, rfl, _, rfl, ?_⟩⟩
          refine ite2 (fun hc => ?_) fun hc => ⟨rfl, rfl, ?_⟩
          · have hlt := of_decide_eq_true hc
            refine ⟨_, rfl, _, rfl, mk2 (q2 ?_)⟩
            have z : decide (l ≤ i) = false := decide_eq_false (by omega)
            simp [good, z]
          · have hlt := of_decide_eq_false (Bool.eq_false_iff.mpr hc)
            exact decide_eq_true (show l ≤ i by omega)
      · rintro σ' H' ⟨rfl, rfl, hlo⟩
        refine ⟨fun σ' H'' => σ' = [some (.str w), some (.int i), some (oV lo), some (oV hi)] ∧ H'' = H' ∧ hi.all (fun h => decide (i ≤ h)) = true, ?_, ?_⟩
        · cases hi with
          | none => exact ⟨_, rfl, rfl, _, rfl, iteF ⟨rfl, rfl, rfl⟩⟩
          | some l =>
            refine ⟨_, rfl, rfl, _, rfl, iteT ⟨_, rfl, _, rfl, _, _, rfl, rfl, _, rfl, ?_⟩⟩
            refine ite2 (fun hc => ?_) fun hc => ⟨rfl, rfl, ?_⟩
            · have hlt := of_decide_eq_true hc
              refine ⟨_, rfl, _, rfl, mk2 (q2 ?_)⟩
              have z : decide (i ≤ l) = false := decide_eq_false (by omega)
              simp [good, z]
            · have hlt := of_decide_eq_false (Bool.eq_false_iff.mpr hc)
              exact decide_eq_true (show i ≤ l by omega)
        · rintro σ' H'' ⟨rfl, rfl, hhi⟩
          refine ⟨_, rfl, q1 ?_⟩
          show (lo.all (fun l => decide (l ≤ i)) && hi.all (fun h => decide (i ≤ h))) = true
          rw [hlo, hhi] <;> rfl
    | _ => exact iteT ⟨_, rfl, _, rfl, mk2 (q2 rfl)⟩
end
section
variable {P : Program} {w : World} {K : PySem.W.Frag} {mg : Str → Option Value} {base : Heap}
theorem ok_check_copies (T : Ctx K mg) : FnOk P w K mg base (L2.CX P w) 4 T.f_check_copies T.fd_check_copies ["copies"] (spCopies K T.c_BadNumber) := by
  refine T.F_check_copies.okX sc_check_copies (fun vs H Q E h => ?_) (fun cdv A outer s H vs Q E hr h => ?_)
  · obtain ⟨x, rfl, _⟩ := h
    rfl
  · obtain ⟨x, rfl, kn, k1, k2⟩ := h
    refine ⟨_, (pss_one (ps_ret (pe_call (ok_check_number T) (hr.mono (by decide)) (by rfl) T.g_check_number T.F_check_number.kp T.b_check_number .nil (passes_call (takes_of rfl rfl rfl rfl) (fun _ _ _ _ h => h)) (pa_cons pe_str (pa_cons (pv 0) (pa_cons pe_int (pa_cons (pe_glob (v := .int 8) (by rfl) T.gk_MOST_COPIES ⟨_, rfl⟩) pa_nil))))))), ?_⟩
    exact ⟨_, rfl, "copies", x, some 1, some 8, rfl, kn, k1, k2⟩
end

theorem len4 {σ : L2.St} (h : σ.length = 4) : ∃ a b c d, σ = [a, b, c, d] := match σ, h with
  | [a, b, c, d], _ => ⟨a, b, c, d, rfl⟩
def vtF (q : Int) (tv : Addr) : List (Str × V) := putF "votes" (.ref tv) (putF "quota" (.int q) [])
theorem fq : ¬ (("votes" : Str) = "quota") := by decide +kernel
theorem vtF_votes (q : Int) (tv : Addr) : (vtF q tv).lookup ("votes" : Str) = some (.ref tv) := by
  unfold vtF
  rw [lookup_putF, if_pos rfl]
theorem vtF_quota (q : Int) (tv : Addr) : (vtF q tv).lookup ("quota" : Str) = some (.int q) := by
  unfold vtF
  rw [lookup_putF, if_neg (fun z => fq z.symm), lookup_putF, if_pos rfl]
/-- v is the votes ns with the quota q -/
def Vts (K : PySem.W.Frag) (C : Addr) (H : Hp) (v : V) (q : Int) (ns : List Int) : Prop := ∃ a dx tv, v = .ref a ∧ H a = some (.ins C dx (vtF q tv)) ∧ SqT K H tv (ns.map V.int) ∧ ns.length ≤ 8
theorem Vts.same {K : PySem.W.Frag} {C : Addr} {H H' : Hp} {v : V} {q : Int} {ns : List Int} (h : Vts K C H v q ns) (e : Same H H') : Vts K C H' v q ns := by
  obtain ⟨a, dx, tv, rfl, h1, h2, h3⟩ := h
  exact ⟨a, dx, tv, rfl, e _ _ h1, Same.seqT e h2, h3⟩
/-- what comes of votes -/
inductive Out where
  | bad (w : Str) (x : V)
  | made (q : Int) (ns : List Int)
def voteOk (x : V) : Bool := good x (some 0) (some 1000)
def idxI : V → Int
  | .int i => i
  | _ => 0
def quotaOf (q : V) (ns : List Int) : Out := if good q (some 1) (some ns.sum) = true then .made (idxI q) ns else .bad "quota" q
def outOf (q : V) (xs : List V) : Out := if xs.length = 0 ∨ 8 < xs.length then .bad "copies" (.int xs.length) else match xs.find? (fun x => !voteOk x) with
  | some x => .bad "vote" x
  | none => quotaOf q (xs.map idxI)
def spInitV (K : PySem.W.Frag) (C CB : Addr) : Sp := fun vs H Q E => ∃ (a dx : Addr) (q : V) (p : Addr) (xs : List V), vs = [.ref a, q, .ref p] ∧ H a = some (.ins C dx []) ∧ SqT K H p xs ∧ scalV q = true ∧ (∀ x ∈ xs, scalV x = true) ∧ xs.length ≤ 20 ∧
  (∀ w z, outOf q xs = .bad w z → Err CB H E w z) ∧ (∀ q' ns, outOf q xs = .made q' ns → ∀ H', (∀ b o, H b = some o → b ≠ a → H' b = some o) → Vts K C H' (.ref a) q' ns → Q .non H')
def okE : V → Bool
  | .non => true
  | .bl _ => true
  | .int _ => true
  | _ => false
theorem okE_scal {x : V} (h : okE x = true) : scalV x = true := by
  cases x <;> first | rfl | cases h
def outD : Out → PyData
  | .bad w x => .tuple [.str w, datV x]
  | .made q ns => .tuple [.str "made", .int q, .tuple (ns.map PyData.int)]
def outFit : Out → Prop
  | .bad w x => scalV x = true ∧ PyData.strOk w = true
  | _ => True
theorem fit_out {o : Out} (h : outFit o) : Fit 2 (outD o) := by
  cases o with
  | bad w x =>
    refine fit_tup fun d hd => ?_
    rcases List.mem_cons.mp hd with rfl | hd
    · exact fit_str h.2
    rcases List.mem_cons.mp hd with rfl | hd
    · exact fit_scal h.1
    · cases hd
  | made q ns =>
    refine fit_tup fun d hd => ?_
    rcases List.mem_cons.mp hd with rfl | hd
    · exact fit_str (by decide +kernel)
    rcases List.mem_cons.mp hd with rfl | hd
    · exact fit_int _
    rcases List.mem_cons.mp hd with rfl | hd
    · exact fit_tup fun d hd => by
        obtain ⟨i, _, rfl⟩ := List.mem_map.mp hd
        exact fit_int _
    · cases hd
theorem out_fit {q : V} {xs : List V} (sq : scalV q = true) (sx : ∀ x ∈ xs, scalV x = true) : outFit (outOf q xs) := by
  unfold outOf
  split
  · exact ⟨rfl, by decide +kernel⟩
  · split
    · rename_i x h
      exact ⟨sx x (List.mem_of_find?_eq_some h), by decide +kernel⟩
    · unfold quotaOf
      split
      · trivial
      · exact ⟨sq, by decide +kernel⟩
def spOut (K : PySem.W.Frag) : Sp := fun vs H Q _ => ∃ (q : V) (p : Addr) (xs : List V), vs = [q, .ref p] ∧ SqL K H p xs ∧ okE q = true ∧ (∀ x ∈ xs, okE x = true) ∧ xs.length ≤ 5 ∧
  ∀ r H', Same H H' → Dp K H' r (outD (outOf q xs)) → (∃ b ys, r = .ref b ∧ H' b = some (.tup ys) ∧ (∀ w z, outOf q xs = .bad w z → ys = [.str w, z]) ∧ (∀ q' ns, outOf q xs = .made q' ns → ∃ u, ys = [.str "made", .int q', .ref u])) → Q r H'
/-- the law's row -/
def RowAt (H : Hp) (p : Addr) (xs : List V) : Prop := H p = some (.lst xs) ∧ (∀ x ∈ xs, okE x = true) ∧ xs.length ≤ 5
def spRow (K : PySem.W.Frag) : Sp := fun vs H Q _ => ∃ (l t : Addr) (H0 : Hp), vs = [.ref l, .ref t] ∧ Drw K H0 l t H ∧ ∀ p xs H', Exc t H H' → Drw K H0 l t H' → H p = none → RowAt H' p xs → Q (.ref p) H'
def spEqV (K : PySem.W.Frag) (C : Addr) : Sp := fun vs H Q _ => ∃ x y q ns, vs = [x, y] ∧ Vts K C H x q ns ∧
  ((∃ q' ns', Vts K C H y q' ns' ∧ ∀ H', Same H H' → Q (.bl (decide (q = q') && decide (ns = ns'))) H') ∨ (∃ t, TyX K H y t ∧ PySem.W.kitOne K t (.ref C) = some false ∧ Q (.bl false) H))
theorem made_inv {q : V} {xs : List V} {q' : Int} {ns : List Int} (e : outOf q xs = .made q' ns) : q = .int q' ∧ xs = ns.map V.int ∧ 1 ≤ ns.length ∧ ns.length ≤ 8 ∧ (∀ n ∈ ns, 0 ≤ n ∧ n ≤ 1000) ∧ 1 ≤ q' ∧ q' ≤ ns.sum := by
  unfold outOf at e
  split at e
  · cases e
  · rename_i hl
    split at e
    · cases e
    · rename_i hf
      have ok : ∀ x ∈ xs, voteOk x = true := fun x hx => by
        have := List.find?_eq_none.mp hf x hx
        simpa using this
      unfold quotaOf at e
      split at e
      · rename_i g
        cases e
        have hi : xs = (xs.map idxI).map V.int := by
          rw [List.map_map]
          refine (List.map_id xs).symm.trans (List.map_congr_left fun x hx => ?_)
          have := ok x hx
          unfold voteOk good at this
          cases x <;> first | rfl | cases this
        have gq : q = .int (idxI q) ∧ 1 ≤ idxI q ∧ idxI q ≤ (xs.map idxI).sum := by
          unfold good at g
          cases q with
          | int j =>
            simp only [Option.all_some, Bool.and_eq_true, decide_eq_true_eq] at g
            exact ⟨rfl, g.1, g.2⟩
          | _ => cases g
        refine ⟨gq.1, hi, by rw [List.length_map]; omega, by rw [List.length_map]; omega, fun n hn => ?_, gq.2.1, gq.2.2⟩
        obtain ⟨x, hx, rfl⟩ := List.mem_map.mp hn
        have := ok x hx
        unfold voteOk good at this
        cases x with
        | int j =>
          simp only [Option.all_some, Bool.and_eq_true, decide_eq_true_eq] at this
          exact this
        | _ => cases this
      · cases e
theorem made_of {q : Int} {ns : List Int} (n1 : 1 ≤ ns.length) (n8 : ns.length ≤ 8) (h : ∀ n ∈ ns, 0 ≤ n ∧ n ≤ 1000) (q1 : 1 ≤ q) (q2 : q ≤ ns.sum) : outOf (.int q) (ns.map V.int) = .made q ns := by
  unfold outOf
  rw [if_neg (by rw [List.length_map]; omega), List.find?_eq_none.mpr (fun x hx => by
    obtain ⟨n, hn, rfl⟩ := List.mem_map.mp hx
    obtain ⟨h1, h2⟩ := h n hn
    unfold voteOk good
    simp
    omega)]
  have e : (ns.map V.int).map idxI = ns := by
    rw [List.map_map]
    exact List.map_id ns
  show quotaOf (.int q) ((ns.map V.int).map idxI) = _
  rw [e]
  unfold quotaOf
  rw [if_pos (by
    unfold good
    simp only [Option.all_some, Bool.and_eq_true, decide_eq_true_eq]
    exact ⟨q1, q2⟩)]
  rfl
theorem bad_w {q : V} {xs : List V} {w : Str} {z : V} (e : outOf q xs = .bad w z) : ¬ V.str w = V.str "made" := by
  have c1 : ¬ V.str "copies" = V.str "made" := by decide +kernel
  have c2 : ¬ V.str "vote" = V.str "made" := by decide +kernel
  have c3 : ¬ V.str "quota" = V.str "made" := by decide +kernel
  unfold outOf at e
  split at e
  · cases e; exact c1
  · split at e
    · cases e; exact c2
    · unfold quotaOf at e
      split at e
      · cases e
      · cases e; exact c3
theorem at_last (xs : List V) (v : V) : atI (xs ++ [v]) (-1) = some v := by
  unfold atI ixN
  rw [if_neg (by decide), List.length_append, List.length_singleton, if_pos (by omega)]
  have : ((-1 : Int) + ((xs.length + 1 : Nat) : Int)).toNat = xs.length := by omega
  show ((some ((-1 : Int) + ((xs.length + 1 : Nat) : Int)).toNat).bind fun j => (xs ++ [v])[j]?) = some v
  rw [this]
  show (xs ++ [v])[xs.length]? = some v
  rw [List.getElem?_append_right (Nat.le_refl _)]
  simp
theorem sub_of_kit {K : PySem.W.Frag} {t : Value} {C : Addr} (h : PySem.W.kitOne K t (.ref C) = some false) : PySem.W.subIn K t (.ref C) = some false := by
  unfold PySem.W.kitOne PySem.W.kitCls at h
  split at h
  · cases h
  · simp only at h
    split at h
    · exact h
    · cases h
section
variable {K : PySem.W.Frag} {C : Addr} {H : Hp} {x y : V} {q q' : Int} {ns ns' : List Int} {Q : VK} {E : XK}
theorem Vts.isC (h : Vts K C H x q ns) : IsC C H x := by
  obtain ⟨a, dx, tv, rfl, h1, _⟩ := h
  exact ⟨a, dx, _, rfl, h1⟩
theorem Vts.ty (h : Vts K C H x q ns) (T : InsC K C) : TyX K H x (.ref C) := by
  obtain ⟨a, dx, tv, rfl, h1, _⟩ := h
  exact T.ty h1
theorem vt_ne (T : InsC K C) (h : Vts K C H x q ns) (g : Vts K C H y q ns) (k : ∀ H', Same H H' → Q (.bl false) H') : rOwnNe K C (spEqV K C) E x y H Q :=
  ⟨h.isC, ⟨_, g.ty T, by simp [PySem.W.notFirst]⟩, x, y, q, ns, rfl, h, .inl ⟨q, ns, g, fun H' s => ⟨true, by rw [decide_eq_true rfl, decide_eq_true rfl] <;> rfl, k H' s⟩⟩⟩
theorem vt_eqF (T : InsC K C) (h : Vts K C H x q ns) (g : Vts K C H y q' ns') (n : q ≠ q' ∨ ns ≠ ns') (k : ∀ H', Same H H' → Q (.bl false) H') : rOwnC K C (spEqV K C) E x y H Q :=
  ⟨h.isC, ⟨_, g.ty T, by simp [PySem.W.notFirst]⟩, x, y, q, ns, rfl, h, .inl ⟨q', ns', g, fun H' s => by
    have e : (decide (q = q') && decide (ns = ns')) = false := by
      rcases n with n | n
      · rw [decide_eq_false n, Bool.false_and]
      · rw [decide_eq_false n, Bool.and_false]
    rw [e]
    exact k H' s⟩⟩
end
def nI : V → Int
  | .int i => i
  | .bl b => if b = true then 1 else 0
  | _ => 0
theorem cut_l (xs : List V) (v : V) : cutV (xs ++ [v]) none (some (-1)) = xs := by
  unfold cutV HT.sIx
  simp
  have : ((-1 : Int) + ((xs.length : Int) + 1)).toNat = xs.length := by omega
  first | (rw [this]; simp) | (simp [this])
def spLaw (K : PySem.W.Frag) : Sp := fun vs H Q _ => ∃ (a : Addr) (ns : List Int), vs = [.ref a] ∧ SqL K H a (ns.map V.int) ∧ ns.length ≤ 63 ∧ ∀ H', Q (.bl true) H'
def spMade (K : PySem.W.Frag) (C CB : Addr) : Sp := fun vs H Q E => ∃ (q : V) (p : Addr) (xs : List V), vs = [q, .ref p] ∧ SqL K H p xs ∧ scalV q = true ∧ (∀ x ∈ xs, scalV x = true) ∧ xs.length ≤ 5 ∧
  (∀ w z, outOf q xs = .bad w z → Err CB H E w z) ∧ (∀ q' ns, outOf q xs = .made q' ns → ∀ v H', Same H H' → Vts K C H' v q' ns → Q v H')
section
variable {P : Program} {w : World} {K : PySem.W.Frag} {mg : Str → Option Value} {base : Heap}
theorem ok_Votes_init (T : Ctx K mg) : FnR P w K mg base (L2.CX P w) 6 T.f_Votes_init (spStar 2 (spInitV K T.c_Votes T.c_BadNumber)) := by
  refine Fun.okStar (ps := ["self", "quota"]) (pv := "votes") T.F_Votes_init sc_Votes_init bs_Votes_init (fun cdv A outer s H vs Q E hr h => ?_)
  obtain ⟨a, dx, q, p, xs, rfl, ha, hS, sq, sx, l20, k1, k2⟩ := h
  refine ⟨_, (pss_cons (ps_expr (pe_call (ok_check_copies T) (hr.mono (by decide)) (by rfl) T.g_check_copies T.F_check_copies.kp T.b_check_copies .nil (passes_call (takes_of rfl rfl rfl rfl) (fun _ _ _ _ h => h)) (pa_cons (pe_callB call_len_seq (by rfl) T.m_len (by decide +kernel) (pa_cons (pv 2) pa_nil)) pa_nil)))
      (pss_cons (ps_for (passes_of rfl) rfl (pi_tup (pv 2)) (pg_name (i := 3) sc_Votes_init.nd rfl (Or.inl rfl))
        (pss_one (ps_expr (pe_call (ok_check_number T) (hr.mono (by decide)) (by rfl) T.g_check_number T.F_check_number.kp T.b_check_number .nil (passes_call (takes_of rfl rfl rfl rfl) (fun _ _ _ _ h => h)) (pa_cons pe_str (pa_cons (pv 3) (pa_cons pe_int (pa_cons (pe_glob (v := .int 1000) (by rfl) T.gk_MOST_VOTES ⟨_, rfl⟩) pa_nil))))))))
      (pss_cons (ps_fld (pv 0) (pe_call (ok_check_number T) (hr.mono (by decide)) (by rfl) T.g_check_number T.F_check_number.kp T.b_check_number .nil (passes_call (takes_of rfl rfl rfl rfl) (fun _ _ _ _ h => h)) (pa_cons pe_str (pa_cons (pv 1) (pa_cons pe_int (pa_cons (pe_callB (cr_sumT rfl) (by rfl) T.m_sum (by decide +kernel) (pa_cons (pv 2) pa_nil)) pa_nil))))) rfl)
      (pss_one (ps_fld (pv 0) (pv 2) rfl))))), ?_⟩
  refine ⟨_, rfl, p, xs, rfl, .inr hS, .int xs.length, rfl, kn_int _, fun hg => ?_, fun hg => k1 _ _ ?_⟩
  · obtain ⟨n, en, n1, n8⟩ := good_copies hg
    have en : xs.length = n := by
      injection en with en
      omega
    have e0 : outOf q xs = match xs.find? (fun x => !voteOk x) with
      | some x => .bad "vote" x
      | none => quotaOf q (xs.map idxI) := by
      unfold outOf
      rw [if_neg (by omega)]
    refine ⟨_, rfl, p, rfl, ⟨_, hS⟩, for_tup (K := K) (a := p) (xs := xs) (fun i σ' H' => H' = H ∧ (∀ x ∈ xs.take i, voteOk x = true) ∧ ∃ v, σ' = [some (.ref a), some q, some (.ref p), v]) ⟨rfl, fun o ho => by simp at ho, _, rfl⟩ (fun i σ' H' _ h => by rw [h.1]; exact hS) ?_ ?_⟩
    · rintro i x σ' H1 hx ⟨rfl, ok, v, rfl⟩
      refine ⟨_, rfl, "vote", x, some 0, some 1000, rfl, kn_scal (sx x (List.mem_of_getElem? hx)), fun g => ?_, fun g => ?_⟩
      · refine ⟨rfl, fun y hy => ?_, _, rfl⟩
        rw [List.take_add_one, hx] at hy
        rcases List.mem_append.mp hy with w | w
        · exact ok y w
        · rw [List.mem_singleton.mp (show y ∈ [x] from w)]
          exact g
      · refine k1 _ _ ?_
        have : xs.find? (fun x => !voteOk x) = some x := by
          have e : (xs.take i ++ x :: xs.drop (i + 1)).find? (fun x => !voteOk x) = some x := by
            rw [List.find?_append, List.find?_eq_none.mpr (fun y hy => by rw [ok y hy]; simp)]
            rw [List.find?_cons, show (!voteOk x) = true by unfold voteOk; rw [g]; rfl]
            rfl
          rwa [cut_at hx] at e
        rw [e0, this]
    rintro σ' H1 ⟨rfl, ok, v, rfl⟩
    rw [List.take_length] at ok
    have nf : xs.find? (fun x => !voteOk x) = none := List.find?_eq_none.mpr fun y hy => by rw [ok y hy]; simp
    rw [nf] at e0
    have hints : xs = (xs.map idxI).map V.int := by
      rw [List.map_map]
      refine (List.map_id xs).symm.trans (List.map_congr_left fun x hx => ?_)
      have := ok x hx
      unfold voteOk good at this
      cases x <;> first | rfl | cases this
    have hnums : xs.map nV = (xs.map idxI).map some := by
      rw [List.map_map]
      refine List.map_congr_left fun x hx => ?_
      have := ok x hx
      unfold voteOk good at this
      cases x <;> first | rfl | cases this
    have e0 : outOf q xs = quotaOf q (xs.map idxI) := e0
    refine ⟨_, rfl, _, rfl, p, xs, xs.map idxI, rfl, hS, hnums, "quota", q, some 1, some (xs.map idxI).sum, rfl, kn_scal sq, fun g => ?_, fun g => k1 _ _ (by rw [e0]; unfold quotaOf; rw [if_neg (by rw [g]; decide)])⟩
    have eq : q = .int (idxI q) := by
      unfold good at g
      cases q <;> first | rfl | cases g
    have e0 : outOf q xs = .made (idxI q) (xs.map idxI) := by rw [e0]; unfold quotaOf; rw [if_pos g]
    have k4 := k2 _ _ e0
    clear k2 e0
    generalize idxI q = qi at eq k4
    subst eq
    refine ⟨_, rfl, a, T.c_Votes, dx, _, rfl, ha, T.cl_Votes, T.n_Votes_quota, by decide, ?_⟩
    have ha3 : upd H1 a (.ins T.c_Votes dx (putF "quota" (.int qi) [])) a = some (.ins T.c_Votes dx (putF "quota" (.int qi) [])) := upd_same
    have e3 : Exc a H1 (upd H1 a (.ins T.c_Votes dx (putF "quota" (.int qi) []))) := exc_at
    have hS3 := seqT_exc ha e3 hS
    revert ha3 e3 hS3
    generalize upd H1 a _ = H3
    intro ha3 e3 hS3
    refine ⟨_, rfl, _, rfl, a, T.c_Votes, dx, _, rfl, ha3, T.cl_Votes, T.n_Votes_votes, few1, ?_⟩
    have e4 : Exc a H3 (upd H3 a (.ins T.c_Votes dx (vtF qi p))) := exc_at
    refine k4 _ (fun b o hb nb => e4 b o nb (e3 b o nb hb)) ⟨a, dx, p, rfl, upd_same, ?_, by rw [List.length_map]; omega⟩
    rw [← hints]
    exact seqT_exc ha3 e4 hS3
  · unfold outOf
    rw [if_pos]
    rcases Nat.lt_or_ge 8 xs.length with z | z
    · exact .inr z
    · refine .inl (Classical.byContradiction fun z0 => ?_)
      rw [copies_good (n := xs.length) (by omega) z] at hg
      cases hg
theorem ok_Votes_eq (T : Ctx K mg) : FnOk P w K mg base CX0 2 T.f_Votes_eq T.fd_Votes_eq ["self", "other"] (spEqV K T.c_Votes) := by
  refine T.F_Votes_eq.ok sc_Votes_eq (fun vs H Q E h => ?_) (fun cdv A outer s H vs Q E hr h => ?_)
  · obtain ⟨x, y, q, ns, rfl, _⟩ := h
    rfl
  · obtain ⟨x, y, q, ns, rfl, F, h⟩ := h
    refine ⟨_, (pss_one (ps_ret (pe_and (pe_callB call_isi (by rfl) T.m_isinstance (by decide +kernel) (pa_cons (pv 1) (pa_cons (pe_glob (v := .ref T.c_Votes) (by rfl) T.gc_Votes rfl) pa_nil))) (pe_and (pe_cmpR op_eq (pe_fld (pv 0) rfl) (pe_fld (pv 1) rfl) (nomark _)) (pe_one (pe_cmpR (op_eqD hr.units) (pe_fld (pv 0) rfl) (pe_fld (pv 1) rfl) (nomark _))))))), ?_⟩
    obtain ⟨a, dx, tv, rfl, h1, h2, h3⟩ := F
    rcases h with ⟨q', ns', ⟨b, dy, uv, rfl, g1, g2, g3⟩, k⟩ | ⟨t, ty, hk, k⟩
    · refine ⟨_, rfl, _, _, _, _, true, rfl, .own _, T.ic_Votes.ty g1, T.ki_Votes_Votes, true, rfl, iteT ?_⟩
      refine ⟨_, rfl, a, T.c_Votes, dx, _, _, rfl, h1, T.cl_Votes, T.n_Votes_quota, vtF_quota _ _, _, rfl, b, T.c_Votes, dy, _, _, rfl, g1, T.cl_Votes, T.n_Votes_quota, vtF_quota _ _, rfl, _, rfl, ?_⟩
      by_cases e : q = q'
      · subst e
        rw [decide_eq_true rfl]
        refine iteT ⟨_, rfl, a, T.c_Votes, dx, _, _, rfl, h1, T.cl_Votes, T.n_Votes_votes, vtF_votes _ _, _, rfl, b, T.c_Votes, dy, _, _, rfl, g1, T.cl_Votes, T.n_Votes_votes, vtF_votes _ _, ?_⟩
        have fi : ∀ ns : List Int, Fit 1 (.tuple (ns.map PyData.int)) := fun ns => fit_tup fun d hd => by
          obtain ⟨i, _, rfl⟩ := List.mem_map.mp hd
          exact fit_int _
        refine ⟨_, _, .tup h2 (dps_ints ns), .tup g2 (dps_ints ns'), (fi _).shaped (by decide), (fi _).shaped (by decide), ?_⟩
        have k := k H (Same.refl _)
        rw [decide_eq_true rfl, Bool.true_and] at k
        have ee : PyData.eqv (.tuple (ns.map PyData.int)) (.tuple (ns'.map PyData.int)) = decide (ns = ns') := eqv_ints ns ns'
        rw [ee]
        exact k
      · rw [decide_eq_false (fun z => e (by injection z))]
        have k := k H (Same.refl _)
        rw [decide_eq_false e, Bool.false_and] at k
        exact iteF k
    · exact ⟨_, rfl, _, _, _, _, false, rfl, .own _, ty, hk, false, rfl, iteF k⟩
theorem ok_l_made (T : Ctx K mg) : FnOk P w K mg base (L2.CX P w) 8 T.f_l_made T.fd_l_made ["_law_quota", "_law_row_here"] (spMade K T.c_Votes T.c_BadNumber) := by
  refine T.F_l_made.okX sc_l_made (fun vs H Q E h => ?_) (fun cdv A outer s H vs Q E hr h => ?_)
  · obtain ⟨q, p, xs, rfl, _⟩ := h
    rfl
  · obtain ⟨q, p, xs, rfl, hS, sq, sx, l5, k1, k2⟩ := h
    refine ⟨_, (pss_cons (ps_if (pt_cmpR op_eq (pe_callB call_len_seq (by rfl) T.m_len (by decide +kernel) (pa_cons (pv 1) pa_nil)) pe_int (nomark _))
        (pss_one (ps_ret (StX.pe_makeR T.M_Votes (ok_Votes_init T) (hr.mono (by decide)) (by rfl) T.gc_Votes (passes_call (takes_of rfl rfl rfl rfl) (fun _ _ _ _ h => h)) (pa_cons (pv 0) pa_nil))))
        pss_nil)
      (pss_cons (ps_if (pt_cmpR op_eq (pe_callB call_len_seq (by rfl) T.m_len (by decide +kernel) (pa_cons (pv 1) pa_nil)) pe_int (nomark _))
        (pss_one (ps_ret (StX.pe_makeR T.M_Votes (ok_Votes_init T) (hr.mono (by decide)) (by rfl) T.gc_Votes (passes_call (takes_of rfl rfl rfl rfl) (fun _ _ _ _ h => h)) (pa_cons (pv 0) (pa_cons (pe_ix ix_list (pv 1) pe_int (fun _ _ => rfl)) pa_nil)))))
        pss_nil)
      (pss_cons (ps_if (pt_cmpR op_eq (pe_callB call_len_seq (by rfl) T.m_len (by decide +kernel) (pa_cons (pv 1) pa_nil)) pe_int (nomark _))
        (pss_one (ps_ret (StX.pe_makeR T.M_Votes (ok_Votes_init T) (hr.mono (by decide)) (by rfl) T.gc_Votes (passes_call (takes_of rfl rfl rfl rfl) (fun _ _ _ _ h => h)) (pa_cons (pv 0) (pa_cons (pe_ix ix_list (pv 1) pe_int (fun _ _ => rfl)) (pa_cons (pe_ix ix_list (pv 1) pe_int (fun _ _ => rfl)) pa_nil))))))
        pss_nil)
      (pss_cons (ps_if (pt_cmpR op_eq (pe_callB call_len_seq (by rfl) T.m_len (by decide +kernel) (pa_cons (pv 1) pa_nil)) pe_int (nomark _))
        (pss_one (ps_ret (StX.pe_makeR T.M_Votes (ok_Votes_init T) (hr.mono (by decide)) (by rfl) T.gc_Votes (passes_call (takes_of rfl rfl rfl rfl) (fun _ _ _ _ h => h)) (pa_cons (pv 0) (pa_cons (pe_ix ix_list (pv 1) pe_int (fun _ _ => rfl)) (pa_cons (pe_ix ix_list (pv 1) pe_int (fun _ _ => rfl)) (pa_cons (pe_ix ix_list (pv 1) pe_int (fun _ _ => rfl)) pa_nil)))))))
        pss_nil)
      (pss_cons (ps_if (pt_cmpR op_eq (pe_callB call_len_seq (by rfl) T.m_len (by decide +kernel) (pa_cons (pv 1) pa_nil)) pe_int (nomark _))
        (pss_one (ps_ret (StX.pe_makeR T.M_Votes (ok_Votes_init T) (hr.mono (by decide)) (by rfl) T.gc_Votes (passes_call (takes_of rfl rfl rfl rfl) (fun _ _ _ _ h => h)) (pa_cons (pv 0) (pa_cons (pe_ix ix_list (pv 1) pe_int (fun _ _ => rfl)) (pa_cons (pe_ix ix_list (pv 1) pe_int (fun _ _ => rfl)) (pa_cons (pe_ix ix_list (pv 1) pe_int (fun _ _ => rfl)) (pa_cons (pe_ix ix_list (pv 1) pe_int (fun _ _ => rfl)) pa_nil))))))))
        pss_nil)
      (pss_one (ps_ret (StX.pe_makeR T.M_Votes (ok_Votes_init T) (hr.mono (by decide)) (by rfl) T.gc_Votes (passes_call (takes_of rfl rfl rfl rfl) (fun _ _ _ _ h => h)) (pa_cons (pv 0) (pa_cons (pe_ix ix_list (pv 1) pe_int (fun _ _ => rfl)) (pa_cons (pe_ix ix_list (pv 1) pe_int (fun _ _ => rfl)) (pa_cons (pe_ix ix_list (pv 1) pe_int (fun _ _ => rfl)) (pa_cons (pe_ix ix_list (pv 1) pe_int (fun _ _ => rfl)) (pa_cons (pe_ix ix_list (pv 1) pe_int (fun _ _ => rfl)) pa_nil)))))))))))))), ?_⟩
    have mk : ∀ {H : Hp} {Q : VK} {E : XK} (ys : List V), (∀ x ∈ ys, scalV x = true) → ys.length ≤ 20 → (∀ w z, outOf q ys = .bad w z → Err T.c_BadNumber H E w z) → (∀ q' ns, outOf q ys = .made q' ns → ∀ v H', Same H H' → Vts K T.c_Votes H' v q' ns → Q v H') →
        ∀ x dx, H x = none → H dx = none → dx ≠ x → spStar 2 (spInitV K T.c_Votes T.c_BadNumber) (.ref x :: q :: ys) (upd (upd H dx (.own x)) x (.ins T.c_Votes dx [])) (fun v H2 => v = .non ∧ Q (.ref x) H2) E := fun {H Q E} ys hy l20 j1 j2 x dx nx nd ne => by
      have e20 : (20 : Nat) ≤ sizeLine := by decide
      refine ⟨[.ref x, q], ys, rfl, rfl, by omega, fun p np => ?_⟩
      have s0 : Same H (upd (upd H dx (.own x)) x (.ins T.c_Votes dx [])) := fun b o e => by
        rw [upd_ne (ne_of_none e nx), upd_ne (ne_of_none e nd)]
        exact e
      have sp := s0.trans (same_upd (o := .tup ys) np)
      have hx : upd (upd (upd H dx (.own x)) x (.ins T.c_Votes dx [])) p (.tup ys) x = some (.ins T.c_Votes dx []) := (upd_ne (ne_of_none upd_same np)).trans upd_same
      exact ⟨x, dx, q, p, ys, rfl, hx, .inl (.inl upd_same), sq, hy, l20, fun w z e => (j1 w z e).of sp, fun q' ns e H' k G => ⟨rfl, j2 q' ns e _ H' (fun b o e => k b o (sp b o e) (ne_of_none e nx)) G⟩⟩
    match xs, hS, sx, l5, k1, k2 with
    | [], hS, sx, l5, k1, k2 =>
      refine ⟨_, rfl, p, _, rfl, .inl hS, rfl, _, rfl, ite2 (fun _ => ?_) fun c => absurd (decide_eq_true rfl) c⟩
      exact ⟨_, rfl, mk [] sx (by simp) k1 k2⟩
    | [x0], hS, sx, l5, k1, k2 =>
      refine ⟨_, rfl, p, _, rfl, .inl hS, rfl, _, rfl, ite2 (fun c => absurd (of_decide_eq_true c) (by simp)) fun _ => ?_⟩
      refine ⟨_, rfl, p, _, rfl, .inl hS, rfl, _, rfl, ite2 (fun _ => ?_) fun c => absurd (decide_eq_true rfl) c⟩
      exact ⟨_, rfl, _, rfl, p, _, _, x0, rfl, rfl, hS, at_of (j := 0) rfl rfl, mk [x0] sx (by simp) k1 k2⟩
    | [x0, x1], hS, sx, l5, k1, k2 =>
      refine ⟨_, rfl, p, _, rfl, .inl hS, rfl, _, rfl, ite2 (fun c => absurd (of_decide_eq_true c) (by simp)) fun _ => ?_⟩
      refine ⟨_, rfl, p, _, rfl, .inl hS, rfl, _, rfl, ite2 (fun c => absurd (of_decide_eq_true c) (by simp)) fun _ => ?_⟩
      refine ⟨_, rfl, p, _, rfl, .inl hS, rfl, _, rfl, ite2 (fun _ => ?_) fun c => absurd (decide_eq_true rfl) c⟩
      exact ⟨_, rfl, _, rfl, p, _, _, x0, rfl, rfl, hS, at_of (j := 0) rfl rfl, _, rfl, p, _, _, x1, rfl, rfl, hS, at_of (j := 1) rfl rfl, mk [x0, x1] sx (by simp) k1 k2⟩
    | [x0, x1, x2], hS, sx, l5, k1, k2 =>
      refine ⟨_, rfl, p, _, rfl, .inl hS, rfl, _, rfl, ite2 (fun c => absurd (of_decide_eq_true c) (by simp)) fun _ => ?_⟩
      refine ⟨_, rfl, p, _, rfl, .inl hS, rfl, _, rfl, ite2 (fun c => absurd (of_decide_eq_true c) (by simp)) fun _ => ?_⟩
      refine ⟨_, rfl, p, _, rfl, .inl hS, rfl, _, rfl, ite2 (fun c => absurd (of_decide_eq_true c) (by simp)) fun _ => ?_⟩
      refine ⟨_, rfl, p, _, rfl, .inl hS, rfl, _, rfl, ite2 (fun _ => ?_) fun c => absurd (decide_eq_true rfl) c⟩
      exact ⟨_, rfl, _, rfl, p, _, _, x0, rfl, rfl, hS, at_of (j := 0) rfl rfl, _, rfl, p, _, _, x1, rfl, rfl, hS, at_of (j := 1) rfl rfl, _, rfl, p, _, _, x2, rfl, rfl, hS, at_of (j := 2) rfl rfl, mk [x0, x1, x2] sx (by simp) k1 k2⟩
    | [x0, x1, x2, x3], hS, sx, l5, k1, k2 =>
      refine ⟨_, rfl, p, _, rfl, .inl hS, rfl, _, rfl, ite2 (fun c => absurd (of_decide_eq_true c) (by simp)) fun _ => ?_⟩
      refine ⟨_, rfl, p, _, rfl, .inl hS, rfl, _, rfl, ite2 (fun c => absurd (of_decide_eq_true c) (by simp)) fun _ => ?_⟩
      refine ⟨_, rfl, p, _, rfl, .inl hS, rfl, _, rfl, ite2 (fun c => absurd (of_decide_eq_true c) (by simp)) fun _ => ?_⟩
      refine ⟨_, rfl, p, _, rfl, .inl hS, rfl, _, rfl, ite2 (fun c => absurd (of_decide_eq_true c) (by simp)) fun _ => ?_⟩
      refine ⟨_, rfl, p, _, rfl, .inl hS, rfl, _, rfl, ite2 (fun _ => ?_) fun c => absurd (decide_eq_true rfl) c⟩
      exact ⟨_, rfl, _, rfl, p, _, _, x0, rfl, rfl, hS, at_of (j := 0) rfl rfl, _, rfl, p, _, _, x1, rfl, rfl, hS, at_of (j := 1) rfl rfl, _, rfl, p, _, _, x2, rfl, rfl, hS, at_of (j := 2) rfl rfl, _, rfl, p, _, _, x3, rfl, rfl, hS, at_of (j := 3) rfl rfl, mk [x0, x1, x2, x3] sx (by simp) k1 k2⟩
    | [x0, x1, x2, x3, x4], hS, sx, l5, k1, k2 =>
      refine ⟨_, rfl, p, _, rfl, .inl hS, rfl, _, rfl, ite2 (fun c => absurd (of_decide_eq_true c) (by simp)) fun _ => ?_⟩
      refine ⟨_, rfl, p, _, rfl, .inl hS, rfl, _, rfl, ite2 (fun c => absurd (of_decide_eq_true c) (by simp)) fun _ => ?_⟩
      refine ⟨_, rfl, p, _, rfl, .inl hS, rfl, _, rfl, ite2 (fun c => absurd (of_decide_eq_true c) (by simp)) fun _ => ?_⟩
      refine ⟨_, rfl, p, _, rfl, .inl hS, rfl, _, rfl, ite2 (fun c => absurd (of_decide_eq_true c) (by simp)) fun _ => ?_⟩
      refine ⟨_, rfl, p, _, rfl, .inl hS, rfl, _, rfl, ite2 (fun c => absurd (of_decide_eq_true c) (by simp)) fun _ => ?_⟩
      exact ⟨_, rfl, _, rfl, p, _, _, x0, rfl, rfl, hS, at_of (j := 0) rfl rfl, _, rfl, p, _, _, x1, rfl, rfl, hS, at_of (j := 1) rfl rfl, _, rfl, p, _, _, x2, rfl, rfl, hS, at_of (j := 2) rfl rfl, _, rfl, p, _, _, x3, rfl, rfl, hS, at_of (j := 3) rfl rfl, _, rfl, p, _, _, x4, rfl, rfl, hS, at_of (j := 4) rfl rfl, mk [x0, x1, x2, x3, x4] sx (by simp) k1 k2⟩
    | _ :: _ :: _ :: _ :: _ :: _ :: _, hS, sx, l5, k1, k2 => simp at l5
theorem ok_l_told (T : Ctx K mg) : FnOk P w K mg base CX0 9 T.f_l_told T.fd_l_told ["_law_quota", "_law_row_here"] (spOut K) := by
  refine T.F_l_told.ok sc_l_told (fun vs H Q E h => ?_) (fun cdv A outer s H vs Q E hr h => ?_)
  · obtain ⟨q, p, xs, rfl, _⟩ := h
    rfl
  · obtain ⟨q, p, xs, rfl, hS, oq, ox, l5, k⟩ := h
    refine ⟨_, (pss_one (ps_try_as (i := 3) (Wout := fun _ _ _ _ => False) rfl rfl sc_l_told.nd rfl rfl ⟨rfl, by decide, Or.inl T.gc_BadNumber⟩ takes0
        (fun W pn xe tk po => (pss_cons (ps_set (i := 2) sc_l_told.nd rfl (Or.inl rfl) (pe_callS (ok_l_made T) (hr.mono (by decide)) rfl T.g_l_made T.F_l_made.kp T.b_l_made (fun σ => passAt tk σ) (pa_cons (pv 0) (pa_cons (pv 1) pa_nil))))
        (pss_one (ps_ret (pe_tup (pa_cons pe_str (pa_cons (pe_fldK (K := K) rfl (pv 2) rfl) (pa_cons (pe_fldK (K := K) rfl (pv 2) rfl) pa_nil))))))))
        (fun a oe cls d pn hz hf => (pss_one (ps_ret (pe_tup (pa_cons (pe_xf T.xf_BadNumber T.n_BadNumber_what hz hf (pv 3)) (pa_cons (pe_xf T.xf_BadNumber T.n_BadNumber_value hz hf (pv 3)) pa_nil)))))))), ?_⟩
    refine ⟨_, rfl, _, rfl, q, p, xs, rfl, hS, okE_scal oq, fun x hx => okE_scal (ox x hx), l5, fun w z e d H' nd sm hx => ?_, fun q' ns e v H' s' G => ?_⟩
    · refine ⟨true, T.ex_BadNumber_BadNumber, fun _ q0 nq0 => ⟨.ref q0, rfl, rfl, rfl, d, _, _, rfl, hx, rfl, .ref q0, rfl, rfl, rfl, d, _, _, rfl, hx, rfl, (by show 2 ≤ sizeLine; decide), fun tt ht => ?_⟩, fun z => (nomatch z)⟩
      refine k _ _ (same_upd2 sm (sm.free ht)) ?_ ⟨tt, [.str w, z], rfl, upd_same, fun w' z' e' => (by rw [e] at e'; cases e'; rfl), fun q' ns e' => (by rw [e] at e'; cases e')⟩
      have ft := out_fit (okE_scal oq) fun x hx => okE_scal (ox x hx)
      rw [e] at ft ⊢
      exact .tup (.inl (.inl upd_same)) (.cons (.str _) (.cons (dp_scal ft.1) .nil))
    · obtain ⟨a, dx, tv, rfl, h1, h2, h3⟩ := G
      refine ⟨_, rfl, a, T.c_Votes, dx, _, _, rfl, h1, T.cl_Votes, T.n_Votes_quota, vtF_quota _ _, _, rfl, a, T.c_Votes, dx, _, _, rfl, h1, T.cl_Votes, T.n_Votes_votes, vtF_votes _ _, (by show 3 ≤ sizeLine; decide), fun tt ht => ?_⟩
      refine k _ _ (s'.trans (same_upd ht)) ?_ ⟨tt, _, rfl, upd_same, fun w' z' e' => (by rw [e] at e'; cases e'), fun q'' ns'' e' => (by rw [e] at e'; cases e'; exact ⟨_, rfl⟩)⟩
      rw [e]
      exact .tup (.inl (.inl upd_same)) (.cons (.str _) (.cons (.int _) (.cons (.tup (Same.seqT (same_upd ht) h2) (dps_ints ns)) .nil)))
theorem ok_l_due (T : Ctx K mg) : FnOk P w K mg base CX0 2 T.f_l_due T.fd_l_due ["_law_quota", "_law_row_here"] (spOut K) := by
  refine T.F_l_due.ok sc_l_due (fun vs H Q E h => ?_) (fun cdv A outer s H vs Q E hr h => ?_)
  · obtain ⟨q, p, xs, rfl, _⟩ := h
    rfl
  · obtain ⟨q, p, xs, rfl, hS, oq, ox, l5, k⟩ := h
    refine ⟨_, (pss_cons (ps_if (pt_cmpR op_eq (pe_callB call_len_seq (by rfl) T.m_len (by decide +kernel) (pa_cons (pv 1) pa_nil)) pe_int (nomark _))
        (pss_one (ps_ret (pe_tup (pa_cons pe_str (pa_cons pe_int pa_nil)))))
        pss_nil)
      (pss_cons (ps_for PassesOwn.never rfl (pi_list (pv 1)) (pg_name (i := 2) sc_l_due.nd rfl (Or.inl rfl))
        (pss_one (ps_if (PW.pt (pw_or (pt_cmpR op_isN (pv 2) pe_non (nomark _)) (pw_or (pt_val (pe_callB call_isi (by rfl) T.m_isinstance (by decide +kernel) (pa_cons (pv 2) (pa_cons (pe_bltn (v := .ty "bool") (by rfl) T.m_bool (by decide +kernel) rfl) pa_nil)))) (pw_or (pt_cmpR op_lt (pv 2) pe_int (nomark _)) (pw_or1 (pt_cmpR op_gt (pv 2) pe_int (nomark _)))))))
          (pss_one (ps_ret (pe_tup (pa_cons pe_str (pa_cons (pv 2) pa_nil)))))
          pss_nil)))
      (Evl.pss_cut (ps_if (PW.pt (pw_or (pt_cmpR op_isN (pv 0) pe_non (nomark _)) (pw_or (pt_val (pe_callB call_isi (by rfl) T.m_isinstance (by decide +kernel) (pa_cons (pv 0) (pa_cons (pe_bltn (v := .ty "bool") (by rfl) T.m_bool (by decide +kernel) rfl) pa_nil)))) (pw_or (pt_cmpR op_lt (pv 0) pe_int (nomark _)) (pw_or1 (pt_cmpR op_gt (pv 0) (pe_callB (cr_sum rfl) (by rfl) T.m_sum (by decide +kernel) (pa_cons (pv 1) pa_nil)) (nomark _)))))))
        (pss_one (ps_ret (pe_tup (pa_cons pe_str (pa_cons (pv 0) pa_nil)))))
        pss_nil)
      (pss_one (ps_ret (pe_tup (pa_cons pe_str (pa_cons (pv 0) (pa_cons (pe_callTy call_tuple_of (by rfl) T.m_tuple (by decide +kernel) (pa_cons (pv 1) pa_nil)) pa_nil))))))))), ?_⟩
    have sq := okE_scal oq
    have sx : ∀ x ∈ xs, scalV x = true := fun x hx => okE_scal (ox x hx)
    have bad : ∀ {H'} (w : Str) (z : V), Same H H' → scalV z = true → outOf q xs = .bad w z → ∀ tt, H' tt = none → Q (.ref tt) (upd H' tt (.tup [.str w, z])) := fun {H'} w z s sz e tt ht => by
      refine k _ _ (s.trans (same_upd ht)) ?_ ⟨tt, _, rfl, upd_same, fun w' z' e' => (by rw [e] at e'; cases e'; rfl), fun q' ns e' => (by rw [e] at e'; cases e')⟩
      rw [e]
      exact .tup (.inl (.inl upd_same)) (.cons (.str _) (.cons (dp_scal sz) .nil))
    refine ⟨_, rfl, p, xs, rfl, .inl hS, rfl, _, rfl, ite2 (fun c => ?_) fun c => ?_⟩
    · have c := of_decide_eq_true c
      have c : xs.length = 0 := by
        have : ((xs.length : Nat) : Int) = 0 := by injection c
        omega
      refine ⟨(by show 2 ≤ sizeLine; decide), fun tt ht => bad "copies" (.int 0) (Same.refl _) rfl ?_ tt ht⟩
      unfold outOf
      rw [if_pos (.inl c), c]
      rfl
    have c0 : ¬ xs.length = 0 := fun z => c (by rw [z]; exact decide_eq_true rfl)
    have e0 : outOf q xs = match xs.find? (fun x => !voteOk x) with
      | some x => .bad "vote" x
      | none => quotaOf q (xs.map idxI) := by
      unfold outOf
      rw [if_neg (by omega)]
    refine ⟨_, rfl, p, rfl, ⟨_, hS⟩, for_list (K := K) (a := p) (xs := xs) (fun i σ' H' => H' = H ∧ (∀ x ∈ xs.take i, voteOk x = true) ∧ ∃ v, σ' = [some q, some (.ref p), v]) ⟨rfl, fun o ho => by simp at ho, _, rfl⟩ (fun i σ' H' _ h => by rw [h.1]; exact hS) ?_ ?_⟩
    · rintro i x σ' H1 hx ⟨rfl, ok, v, rfl⟩
      have isBad : voteOk x = false → outOf q xs = .bad "vote" x := fun g => by
        have : xs.find? (fun x => !voteOk x) = some x := by
          have e : (xs.take i ++ x :: xs.drop (i + 1)).find? (fun x => !voteOk x) = some x := by
            rw [List.find?_append, List.find?_eq_none.mpr (fun y hy => by rw [ok y hy]; simp)]
            rw [List.find?_cons, show (!voteOk x) = true by rw [g]; rfl]
            rfl
          rwa [cut_at hx] at e
        rw [e0, this]
      have okx := ox x (List.mem_of_getElem? hx)
      cases x with
      | non => exact ⟨_, rfl, rfl, _, rfl, iteT ⟨_, rfl, (by show 2 ≤ sizeLine; decide), fun tt ht => bad "vote" .non (Same.refl _) rfl (isBad rfl) tt ht⟩⟩
      | bl b =>
        refine ⟨_, rfl, rfl, _, rfl, iteF ⟨_, rfl, _, _, _, _, true, rfl, .ty _, .base (.bl b), kit_ty (by decide +kernel), true, rfl, iteT ?_⟩⟩
        exact ⟨_, rfl, (by show 2 ≤ sizeLine; decide), fun tt ht => bad "vote" (.bl b) (Same.refl _) rfl (isBad rfl) tt ht⟩
      | int j =>
        refine ⟨_, rfl, rfl, _, rfl, iteF ⟨_, rfl, _, _, _, _, false, rfl, .ty _, .base (.int j), kit_ty (by decide +kernel), false, rfl, iteF ?_⟩⟩
        have isB : ∀ (w : j < 0 ∨ 1000 < j), voteOk (.int j) = false := fun w => by unfold voteOk good; simp; omega
        refine ⟨_, rfl, _, _, rfl, rfl, _, rfl, ite2 (fun c => ?_) fun c => ⟨_, rfl, _, _, rfl, rfl, _, rfl, ite2 (fun c2 => ?_) fun c2 => ⟨rfl, fun y hy => ?_, _, rfl⟩⟩⟩
        · exact ⟨_, rfl, (by show 2 ≤ sizeLine; decide), fun tt ht => bad "vote" (.int j) (Same.refl _) rfl (isBad (isB (.inl (of_decide_eq_true c)))) tt ht⟩
        · exact ⟨_, rfl, (by show 2 ≤ sizeLine; decide), fun tt ht => bad "vote" (.int j) (Same.refl _) rfl (isBad (isB (.inr (of_decide_eq_true c2)))) tt ht⟩
        · rw [List.take_add_one, hx] at hy
          rcases List.mem_append.mp hy with w | w
          · exact ok y w
          · rw [List.mem_singleton.mp (show y ∈ [V.int j] from w)]
            have c := of_decide_eq_false (Bool.eq_false_iff.mpr c)
            have c2 := of_decide_eq_false (Bool.eq_false_iff.mpr c2)
            unfold voteOk good
            simp
            omega
      | _ => cases okx
    rintro σ' H1 ⟨rfl, ok, v, rfl⟩
    rw [List.take_length] at ok
    have nf : xs.find? (fun x => !voteOk x) = none := List.find?_eq_none.mpr fun y hy => by rw [ok y hy]; simp
    rw [nf] at e0
    have e0 : outOf q xs = quotaOf q (xs.map idxI) := e0
    have hints : xs = (xs.map idxI).map V.int := by
      rw [List.map_map]
      refine (List.map_id xs).symm.trans (List.map_congr_left fun x hx => ?_)
      have := ok x hx
      unfold voteOk good at this
      cases x <;> first | rfl | cases this
    have qBad : good q (some 1) (some (xs.map idxI).sum) = false → outOf q xs = .bad "quota" q := fun g => by rw [e0]; unfold quotaOf; rw [if_neg (by rw [g]; decide)]
    have hS' : SqL K H1 p ((xs.map idxI).map V.int) := by rw [← hints]; exact hS
    refine ⟨fun σ' H' => H' = H1 ∧ σ' = [some q, some (.ref p), v] ∧ good q (some 1) (some (xs.map idxI).sum) = true, ?_, ?_⟩
    · cases q with
      | non => exact ⟨_, rfl, rfl, _, rfl, iteT ⟨_, rfl, (by show 2 ≤ sizeLine; decide), fun tt ht => bad "quota" .non (Same.refl _) rfl (qBad rfl) tt ht⟩⟩
      | bl b =>
        refine ⟨_, rfl, rfl, _, rfl, iteF ⟨_, rfl, _, _, _, _, true, rfl, .ty _, .base (.bl b), kit_ty (by decide +kernel), true, rfl, iteT ?_⟩⟩
        exact ⟨_, rfl, (by show 2 ≤ sizeLine; decide), fun tt ht => bad "quota" (.bl b) (Same.refl _) rfl (qBad rfl) tt ht⟩
      | int j =>
        refine ⟨_, rfl, rfl, _, rfl, iteF ⟨_, rfl, _, _, _, _, false, rfl, .ty _, .base (.int j), kit_ty (by decide +kernel), false, rfl, iteF ?_⟩⟩
        have isB : ∀ (w : j < 1 ∨ (xs.map idxI).sum < j), good (.int j) (some 1) (some (xs.map idxI).sum) = false := fun w => by
          unfold good
          simp only [Option.all_some, Bool.and_eq_false_iff, decide_eq_false_iff_not]
          omega
        refine ⟨_, rfl, _, _, rfl, rfl, _, rfl, ite2 (fun c => ?_) fun c => ⟨_, rfl, _, rfl, p, _, rfl, hS', _, _, rfl, rfl, _, rfl, ite2 (fun c2 => ?_) fun c2 => ⟨rfl, rfl, ?_⟩⟩⟩
        · exact ⟨_, rfl, (by show 2 ≤ sizeLine; decide), fun tt ht => bad "quota" (.int j) (Same.refl _) rfl (qBad (isB (.inl (of_decide_eq_true c)))) tt ht⟩
        · exact ⟨_, rfl, (by show 2 ≤ sizeLine; decide), fun tt ht => bad "quota" (.int j) (Same.refl _) rfl (qBad (isB (.inr (of_decide_eq_true c2)))) tt ht⟩
        · have c := of_decide_eq_false (Bool.eq_false_iff.mpr c)
          have c2 := of_decide_eq_false (Bool.eq_false_iff.mpr c2)
          unfold good
          simp only [Option.all_some, Bool.and_eq_true, decide_eq_true_eq]
          omega
      | _ => cases oq
    rintro σ' H2 ⟨rfl, rfl, g⟩
    have eq : q = .int (idxI q) := by
      unfold good at g
      cases q <;> first | rfl | cases g
    have e1 : outOf q xs = .made (idxI q) (xs.map idxI) := by rw [e0]; unfold quotaOf; rw [if_pos g]
    refine ⟨_, rfl, _, rfl, p, xs, rfl, .inl ⟨hS, fun u nu => ⟨(by show 3 ≤ sizeLine; decide), fun tt ht => ?_⟩⟩⟩
    have s1 := same_upd (o := .tup xs) nu
    refine k _ _ (s1.trans (same_upd ht)) ?_ ⟨tt, _, rfl, upd_same, fun w' z' e' => (by rw [e1] at e'; cases e'), fun q'' ns'' e' => (by rw [e1] at e'; cases e'; exact ⟨u, by rw [← eq]⟩)⟩
    rw [e1]
    have du : SqT K (upd (upd H2 u (.tup xs)) tt (.tup [.str "made", q, .ref u])) u ((xs.map idxI).map V.int) := by rw [← hints]; exact .inl (.inl (same_upd ht _ _ upd_same))
    refine .tup (.inl (.inl upd_same)) (.cons (.str _) (.cons ?_ (.cons (.tup du (dps_ints _)) .nil)))
    rw [eq]
    exact .int _
theorem ok_l_nine_refused (T : Ctx K mg) : FnOk P w K mg base CX0 8 T.f_l_nine_refused T.fd_l_nine_refused [] (fun vs _ Q _ => vs = [] ∧ ∀ H', Q (.bl true) H') := by
  refine T.F_l_nine_refused.ok sc_l_nine_refused (fun vs H Q E h => ?_) (fun cdv A outer s H vs Q E hr h => ?_)
  · obtain ⟨rfl, _⟩ := h
    rfl
  · obtain ⟨rfl, k⟩ := h
    refine ⟨_, (pss_cons (ps_try_as (i := 0) (Wout := fun _ _ _ _ => False) rfl rfl sc_l_nine_refused.nd rfl rfl ⟨rfl, by decide, Or.inl T.gc_BadNumber⟩ takes0
        (fun W pn xe tk po => (pss_one (ps_expr (StX.pe_makeR T.M_Votes (ok_Votes_init T) (hr.mono (by decide)) (by rfl) T.gc_Votes (passLenN (n := 1) tk rfl) (pa_cons pe_non (pa_cons (pe_un un_neg pe_int) (pa_cons (pe_un un_neg pe_int) (pa_cons (pe_un un_neg pe_int) (pa_cons (pe_un un_neg pe_int) (pa_cons (pe_un un_neg pe_int) (pa_cons (pe_un un_neg pe_int) (pa_cons (pe_un un_neg pe_int) (pa_cons (pe_un un_neg pe_int) (pa_cons (pe_un un_neg pe_int) pa_nil))))))))))))))
        (fun a oe cls d pn hz hf => (pss_one (ps_ret (pe_cmpR (opK (K := K) rfl rEqD (op_eqD hr.units)) (pe_tup (pa_cons (pe_xf T.xf_BadNumber T.n_BadNumber_what hz hf (pv 0)) (pa_cons (pe_xf T.xf_BadNumber T.n_BadNumber_value hz hf (pv 0)) pa_nil))) (pe_tup (pa_cons pe_str (pa_cons pe_int pa_nil))) (nomark _))))))
      (pss_one (ps_ret pe_bl))), ?_⟩
    have e20 : (20 : Nat) ≤ sizeLine := by decide
    refine ⟨_, rfl, _, rfl, _, rfl, _, rfl, _, rfl, _, rfl, _, rfl, _, rfl, _, rfl, fun x dx nx nd ne => ?_⟩
    refine ⟨[.ref x, .non], List.replicate 9 (.int (-1)), rfl, rfl, (by rw [List.length_replicate]; omega), fun p np => ?_⟩
    have s0 : Same H (upd (upd H dx (.own x)) x (.ins T.c_Votes dx [])) := fun b o e => by
      rw [upd_ne (ne_of_none e nx), upd_ne (ne_of_none e nd)]
      exact e
    have sp := s0.trans (same_upd (o := .tup (List.replicate 9 (.int (-1)))) np)
    have hx : upd (upd (upd H dx (.own x)) x (.ins T.c_Votes dx [])) p (.tup (List.replicate 9 (.int (-1)))) x = some (.ins T.c_Votes dx []) := (upd_ne (ne_of_none upd_same np)).trans upd_same
    have e9 : outOf .non (List.replicate 9 (.int (-1))) = .bad "copies" (.int 9) := rfl
    refine ⟨x, dx, .non, p, _, rfl, hx, .inl (.inl upd_same), rfl, fun y hy => by rw [List.eq_of_mem_replicate hy] <;> rfl, by simp, fun w z e => ?_, fun q' ns e => by rw [e9] at e; cases e⟩
    rw [e9] at e
    cases e
    intro d H' nd sm hx σ hσ
    obtain ⟨z0, rfl⟩ : ∃ z0, σ = [z0] := by
      match σ, hσ with
      | [z0], _ => exact ⟨z0, rfl⟩
    refine ⟨true, T.ex_BadNumber_BadNumber, fun _ q0 nq0 => ⟨.ref q0, rfl, rfl, rfl, d, _, _, rfl, hx, rfl, .ref q0, rfl, rfl, rfl, d, _, _, rfl, hx, rfl, (by show 2 ≤ sizeLine; decide), fun t1 h1 => ⟨(by show 2 ≤ sizeLine; decide), fun t2 h2 => ?_⟩⟩, fun z => (nomatch z)⟩
    have ft : Fit 2 (outD (.bad "copies" (.int 9))) := fit_out (o := .bad "copies" (.int 9)) ⟨rfl, by decide +kernel⟩
    refine ⟨_, _, .tup (.inl (.inl (same_upd h2 _ _ upd_same))) (.cons (.str _) (.cons (.int _) .nil)), .tup (.inl (.inl upd_same)) (.cons (.str _) (.cons (.int _) .nil)), ft.shaped (by decide), ft.shaped (by decide), ?_⟩
    have e := eq_self (ft.shaped (by decide))
    show Q (.bl (PyData.eqv (outD (.bad "copies" (.int 9))) (outD (.bad "copies" (.int 9))))) _
    rw [e]
    exact k _
theorem ok_l_row (T : Ctx K mg) : FnOk P w K mg base CX0 2 T.f_l_row T.fd_l_row ["_law_script", "_law_state"] (spRow K) := by
  refine T.F_l_row.ok sc_l_row (fun vs H Q E h => ?_) (fun cdv A outer s H vs Q E hr h => ?_)
  · obtain ⟨l, t, H0, rfl, _⟩ := h
    rfl
  · obtain ⟨l, t, H0, rfl, D, k⟩ := h
    refine ⟨_, (pss_cons (ps_set (i := 2) sc_l_row.nd rfl (Or.inl rfl) (pe_lst pa_nil))
      (pss_cons (ps_for PassesOwn.never rfl (pi_range1 (by rfl) T.m_range (pa_cons (pe_call (ok_l_draw T) (hr.mono (by decide)) (by rfl) T.g_l_draw T.F_l_draw.kp T.b_l_draw .nil pass0 (pa_cons (pv 0) (pa_cons (pv 1) (pa_cons pe_int pa_nil)))) pa_nil)) (pg_name (i := 3) sc_l_row.nd rfl (Or.inl rfl))
        (pss_one (ps_expr (pe_bm PySem.F.plainAttrs_list PySem.F.slot_list_append PySem.F.type_list_append mt_append (pv 2) (pa_cons (pe_ix ix_list (pe_lst (pa_cons (pe_call (ok_l_draw T) (hr.mono (by decide)) (by rfl) T.g_l_draw T.F_l_draw.kp T.b_l_draw .nil pass0 (pa_cons (pv 0) (pa_cons (pv 1) (pa_cons pe_int pa_nil)))) (pa_cons pe_int pa_nil))) (pe_callTy call_int1 (by rfl) T.m_int (by decide +kernel) (pa_cons (pe_cmpR op_eq (pe_call (ok_l_draw T) (hr.mono (by decide)) (by rfl) T.g_l_draw T.F_l_draw.kp T.b_l_draw .nil pass0 (pa_cons (pv 0) (pa_cons (pv 1) (pa_cons pe_int pa_nil)))) pe_int (nomark _)) pa_nil)) (fun _ _ => rfl)) pa_nil)))))
      (pss_cons (ps_for PassesOwn.never rfl (pi_range1 (by rfl) T.m_range (pa_cons (pe_call (ok_l_draw T) (hr.mono (by decide)) (by rfl) T.g_l_draw T.F_l_draw.kp T.b_l_draw .nil pass0 (pa_cons (pv 0) (pa_cons (pv 1) (pa_cons pe_int pa_nil)))) pa_nil)) (pg_name (i := 3) sc_l_row.nd rfl (Or.inl rfl))
        (pss_one (ps_if (pt_cmpR op_gt (pe_callB call_len_seq (by rfl) T.m_len (by decide +kernel) (pa_cons (pv 2) pa_nil)) pe_int (nomark _))
          (pss_cons (ps_set (i := 4) sc_l_row.nd rfl (Or.inl rfl) (pe_lst (pa_cons (pe_un un_neg pe_int) (pa_cons pe_int (pa_cons pe_bl (pa_cons pe_non (pa_cons (pe_op op_pow pe_int pe_int) (pa_cons pe_int pa_nil))))))))
          (pss_one (ps_asg (pe_ix ix_list (pv 4) (pe_call (ok_l_draw T) (hr.mono (by decide)) (by rfl) T.g_l_draw T.F_l_draw.kp T.b_l_draw .nil pass0 (pa_cons (pv 0) (pa_cons (pv 1) (pa_cons pe_int pa_nil)))) (fun _ _ => rfl)) (pg_sub (pv 2) (pe_call (ok_l_draw T) (hr.mono (by decide)) (by rfl) T.g_l_draw T.F_l_draw.kp T.b_l_draw .nil pass0 (pa_cons (pv 0) (pa_cons (pv 1) (pa_cons (pe_callB call_len_seq (by rfl) T.m_len (by decide +kernel) (pa_cons (pv 2) pa_nil)) pa_nil)))) set_list))))
          pss_nil)))
      (pss_one (ps_ret (pv 2)))))), ?_⟩
    refine ⟨(by show 0 ≤ sizeLine; decide), fun p np => ?_⟩
    have npt : p ≠ t := D.ne np
    have n0 : H0 p = none := D.same.free np
    have D1 : Drw K H0 l t (upd H p (.lst [])) := D.updN (H := H0) n0 npt
    refine ⟨_, rfl, _, rfl, l, t, 6, H0, rfl, D1, by decide, by decide, fun x H2 a1 a2 b2 D2 => ⟨x, rfl, by omega, by omega, ?_⟩⟩
    have hp2 : H2 p = some (.lst []) := (b2 p npt).trans upd_same
    have x2 : Exc t H H2 := (exc_upd np).trans b2.exc
    have put : ∀ {H3 : Hp} {ys : List V}, Exc t H H3 → Drw K H0 l t H3 → Exc t H (upd H3 p (.lst ys)) ∧ Drw K H0 l t (upd H3 p (.lst ys)) := fun {H3 ys} e D3 => ⟨fun b o nb h => by
      rw [upd_ne (ne_of_none h np)]
      exact e b o nb h, D3.updN (H := H0) n0 npt⟩
    refine for_range (n := x.toNat) (fun i σ' H' => Exc t H H' ∧ Drw K H0 l t H' ∧ (∃ xs, RowAt H' p xs ∧ xs.length ≤ i) ∧ ∃ v, σ' = [some (.ref l), some (.ref t), some (.ref p), v, none]) ⟨x2, D2, ⟨[], ⟨hp2, fun x hx => by simp at hx, by simp⟩, by simp⟩, _, rfl⟩ ?_ ?_
    · rintro i σ' H3 hi ⟨x3, D3, ⟨xs, ⟨hp3, ok3, l3⟩, li⟩, v, rfl⟩
      refine ⟨_, rfl, .inl ⟨rfl, _, SqL.of hp3⟩, _, rfl, _, rfl, l, t, 10, H0, rfl, D3, by decide, by decide, fun y H4 c1 c2 b4 D4 => ?_⟩
      have hp4 := (b4 p npt).trans hp3
      have x4 := x3.trans b4.exc
      refine ⟨(by show 2 ≤ sizeLine; decide), fun u nu => ?_⟩
      have nut : u ≠ t := D4.ne nu
      have nup : u ≠ p := fun z => by rw [z, hp4] at nu; cases nu
      have su := same_upd (o := .lst [V.int y, .int 1000]) nu
      refine ⟨_, rfl, _, rfl, l, t, 9, H0, rfl, D4.mono su, by decide, by decide, fun z H5 d1 d2 b5 D5 => ?_⟩
      have hp5 := (b5 p npt).trans (su _ _ hp4)
      have x5 := (x4.trans (exc_same su)).trans b5.exc
      have hu5 : H5 u = some (.lst [V.int y, .int 1000]) := (b5 u nut).trans upd_same
      have app : ∀ w : V, okE w = true → rAppend (.ref p) [w] H5 (fun _ H6 => Exc t H H6 ∧ Drw K H0 l t H6 ∧ (∃ xs, RowAt H6 p xs ∧ xs.length ≤ i + 1)) := fun w hw => by
        have e20 : (20 : Nat) ≤ sizeLine := by decide
        obtain ⟨q1, q2⟩ := put (ys := xs ++ [w]) x5 D5
        refine ⟨p, xs, w, rfl, rfl, hp5, by omega, q1, q2, xs ++ [w], ⟨upd_same, fun y' hy' => ?_, by rw [List.length_append, List.length_singleton]; omega⟩, by rw [List.length_append, List.length_singleton]; omega⟩
        rcases List.mem_append.mp hy' with h | h
        · exact ok3 y' h
        · rw [List.mem_singleton.mp h]
          exact hw
      refine ⟨rfl, .inr ⟨_, rfl, ?_⟩⟩
      by_cases zz : z = 0
      · rw [decide_eq_true (by rw [zz])]
        refine ⟨u, _, 1, _, rfl, rfl, SqL.of hu5, at_of (j := 1) rfl rfl, ?_⟩
        obtain ⟨p', xs', w', e1, e2, e3, e4, e5, e6, e7⟩ := app (.int 1000) rfl
        exact ⟨p', xs', w', e1, e2, e3, e4, e5, e6, e7, _, rfl⟩
      · rw [decide_eq_false (fun h => zz (by injection h))]
        refine ⟨u, _, 0, _, rfl, rfl, SqL.of hu5, at_of (j := 0) rfl rfl, ?_⟩
        obtain ⟨p', xs', w', e1, e2, e3, e4, e5, e6, e7⟩ := app (.int y) rfl
        exact ⟨p', xs', w', e1, e2, e3, e4, e5, e6, e7, _, rfl⟩
    rintro σ' H3 ⟨x3, D3, ⟨xs, R3, li⟩, v, rfl⟩
    refine ⟨_, rfl, _, rfl, l, t, 3, H0, rfl, D3, by decide, by decide, fun x' H4 a1 a2 b4 D4 => ⟨x', rfl, by omega, by omega, ?_⟩⟩
    refine for_range (n := x'.toNat) (fun i σ' H' => Exc t H H' ∧ Drw K H0 l t H' ∧ (∃ xs, RowAt H' p xs) ∧ ∃ v o, σ' = [some (.ref l), some (.ref t), some (.ref p), v, o]) ⟨x3.trans b4.exc, D4, ⟨xs, (b4 p npt).trans R3.1, R3.2⟩, _, _, rfl⟩ ?_ ?_
    · clear R3 x3 D3 b4 D4 D2 b2 D1 hp2
      rintro i σ' H5 hi ⟨x5, D5, ⟨xs, hp5, ok5, l5⟩, v, o, rfl⟩
      refine ⟨_, rfl, p, xs, rfl, .inl (SqL.of hp5), _, _, rfl, rfl, _, rfl, ite2 (fun c => ?_) fun c => ⟨x5, D5, ⟨xs, hp5, ok5, l5⟩, _, _, rfl⟩⟩
      have c := of_decide_eq_true c
      refine ⟨_, rfl, _, _, rfl, rfl, ⟨by decide, by decide, by decide⟩, (by show 6 ≤ sizeLine; decide), fun u nu => ?_⟩
      have nut : u ≠ t := D5.ne nu
      obtain ⟨es, ees⟩ : ∃ es, es = [V.int (-1), .int 1001, .bl true, .non, .int (10 ^ 20), .int 0] := ⟨_, rfl⟩
      have okes : ∀ x ∈ es, okE x = true := fun x hx => by
        rw [ees] at hx
        simp only [List.mem_cons, List.not_mem_nil, or_false] at hx
        rcases hx with rfl | rfl | rfl | rfl | rfl | rfl <;> rfl
      have le : es.length = 6 := by rw [ees] <;> rfl
      have su := same_upd (H := H5) (o := .lst es) nu
      have hu : upd H5 u (.lst es) u = some (.lst es) := upd_same
      show gName 4 (.ref u) _ (upd H5 u (.lst [V.int (-1), .int 1001, .bl true, .non, .int (10 ^ 20), .int 0])) _
      rw [← ees]
      refine ⟨_, rfl, _, rfl, _, rfl, l, t, 6, H0, rfl, D5.mono su, by decide, by decide, fun y H6 c1 c2 b6 D6 => ?_⟩
      have hp6 := (b6 p npt).trans (su _ _ hp5)
      have hu6 := (b6 u nut).trans hu
      have x6 := (x5.trans (exc_same su)).trans b6.exc
      obtain ⟨yn, rfl⟩ : ∃ yn : Nat, y = (yn : Int) := ⟨y.toNat, by omega⟩
      have hy : es[yn]? = some (es[yn]'(by omega)) := List.getElem?_eq_getElem (by omega)
      refine ⟨u, es, _, _, rfl, rfl, SqL.of hu6, atI_nat hy, ?_⟩
      have e20 : (20 : Nat) ≤ sizeLine := by decide
      refine ⟨_, rfl, _, rfl, _, rfl, _, rfl, p, xs, rfl, .inl (SqL.of hp6), l, t, (xs.length : Nat), H0, rfl, D6, by omega, by omega, fun z H7 d1 d2 b7 D7 => ?_⟩
      have hp7 := (b7 p npt).trans hp6
      have x7 := x6.trans b7.exc
      obtain ⟨zn, rfl⟩ : ∃ zn : Nat, z = (zn : Int) := ⟨z.toNat, by omega⟩
      obtain ⟨q1, q2⟩ := put (ys := xs.set zn (es[yn]'(by omega))) x7 D7
      refine ⟨p, xs, _, zn, rfl, rfl, hp7, ixN_nat (by omega), q1, q2, ⟨_, upd_same, fun w hw => ?_, by rw [List.length_set]; exact l5⟩, _, _, rfl⟩
      rcases List.mem_or_eq_of_mem_set hw with h | h
      · exact ok5 w h
      · rw [h]
        exact okes _ (List.mem_of_getElem? hy)
    rintro σ' H5 ⟨x5, D5, ⟨xs, R5⟩, v, o, rfl⟩
    exact ⟨_, rfl, k p xs H5 x5 D5 np R5⟩
theorem ok_law (T : Ctx K mg) : FnOk P w K mg base CX0 12 T.f_law T.fd_law ["_law_script"] (spLaw K) := by
  refine T.F_law.ok sc_law (fun vs H Q E h => ?_) (fun cdv A outer s H vs Q E hr h => ?_)
  · obtain ⟨l, ns, rfl, _⟩ := h
    rfl
  · obtain ⟨l, ns, rfl, hS, hlen, q⟩ := h
    refine ⟨_, (pss_cons (ps_set (i := 1) sc_law.nd rfl (Or.inl rfl) (pe_call (ok_l_start T) (hr.mono (by decide)) (by rfl) T.g_l_start T.F_l_start.kp T.b_l_start .nil pass0 (pa_cons (pv 0) pa_nil)))
      (pss_cons (ps_for PassesOwn.never rfl (pi_range1 (by rfl) T.m_range (pa_cons pe_int pa_nil)) (pg_name (i := 2) sc_law.nd rfl (Or.inl rfl))
        (pss_cons (ps_set (i := 3) sc_law.nd rfl (Or.inl rfl) (pe_call (ok_l_row T) (hr.mono (by decide)) (by rfl) T.g_l_row T.F_l_row.kp T.b_l_row .nil pass0 (pa_cons (pv 0) (pa_cons (pv 1) pa_nil))))
        (pss_cons (ps_set (i := 4) sc_law.nd rfl (Or.inl rfl) (pe_callB (cr_sumB rfl) (by rfl) T.m_sum (by decide +kernel) (pa_cons (pe_lc (own := [("_law_vote", 5)]) (g := gName 5) (tt := _) rfl sc_law.nd (pi_list (pv 3)) (blkOk_by (own := [("_law_vote", 5)]) (N := ["_law_script", "_law_state", "_law_k", "_law_row_here", "_law_high", "_law_vote", "_law_quota", "_law_due_here", "_law_made_here"]) (sc := defScope s_law) (by decide +kernel)) (fun _ _ _ _ _ => (pg_name (i := 5) sc_law.nd rfl (Or.inl rfl))) (fun _ _ _ _ _ => (pts_one (pt_cmpR op_notN (pv 5) pe_non (nomark _)))) (fun _ _ _ _ _ => (pv 5))) pa_nil)))
        (pss_one (ps_for PassesOwn.never rfl (pi_list (pe_lst (pa_cons pe_int (pa_cons pe_int (pa_cons (pv 4) (pa_cons (pe_op op_add (pv 4) pe_int) (pa_cons (pe_un un_neg pe_int) (pa_cons pe_bl (pa_cons pe_non (pa_cons (pe_op op_pow pe_int pe_int) pa_nil)))))))))) (pg_name (i := 6) sc_law.nd rfl (Or.inl rfl))
          (pss_cons (ps_set (i := 7) sc_law.nd rfl (Or.inl rfl) (pe_call (ok_l_due T) (hr.mono (by decide)) (by rfl) T.g_l_due T.F_l_due.kp T.b_l_due .nil pass0 (pa_cons (pv 6) (pa_cons (pv 3) pa_nil))))
          (pss_cons (ps_if (pt_cmpR (op_neD hr.units) (pe_call (ok_l_told T) (hr.mono (by decide)) (by rfl) T.g_l_told T.F_l_told.kp T.b_l_told .nil pass0 (pa_cons (pv 6) (pa_cons (pv 3) pa_nil))) (pv 7) (nomark _))
            (pss_one (ps_ret pe_bl))
            pss_nil)
          (pss_one (ps_if (pt_cmpR op_eq (pe_ix ix_tup (pv 7) pe_int (fun _ _ => rfl)) pe_str (nomark _))
            (pss_cons (ps_set (i := 8) sc_law.nd rfl (Or.inl rfl) (pe_call (ok_l_made T) (hr.mono (by decide)) (by rfl) T.g_l_made T.F_l_made.kp T.b_l_made .nil passL (pa_cons (pv 6) (pa_cons (pv 3) pa_nil))))
            (pss_cons (ps_if (pt_cmpR (op_ownNe T.oc_Votes T.me_Votes_eq.at_ T.me_Votes_eq.fn (ok_Votes_eq T) (hr.mono (by decide)) T.b_Votes_eq pass0) (pv 8) (pe_call (ok_l_made T) (hr.mono (by decide)) (by rfl) T.g_l_made T.F_l_made.kp T.b_l_made .nil passL (pa_cons (pv 6) (pa_cons (pe_callTy call_list_of (by rfl) T.m_list (by decide +kernel) (pa_cons (pv 3) pa_nil)) pa_nil))) (nomark _))
              (pss_one (ps_ret pe_bl))
              pss_nil)
            (Evl.pss_cut (ps_if (PW.pt (pw_and (pt_cmpR op_lt (pe_ix ix_list (pv 3) (pe_un un_neg pe_int) (fun _ _ => rfl)) pe_int (nomark _)) (pw_and1 (pt_cmpR (op_ownC (fun _ _ => rfl) T.me_Votes_eq.at_ T.me_Votes_eq.fn (ok_Votes_eq T) (hr.mono (by decide)) T.b_Votes_eq pass0) (pv 8) (pe_call (ok_l_made T) (hr.mono (by decide)) (by rfl) T.g_l_made T.F_l_made.kp T.b_l_made .nil passL (pa_cons (pv 6) (pa_cons (pe_op op_cat (pe_slice sl_list (pv 3) po_none (po_some (pe_un un_neg pe_int))) (pe_lst (pa_cons (pe_op op_add (pe_ix ix_list (pv 3) (pe_un un_neg pe_int) (fun _ _ => rfl)) pe_int) pa_nil))) pa_nil))) (nomark _)))))
              (pss_one (ps_ret pe_bl))
              pss_nil)
            (pss_one (ps_if (PW.pt (pw_or (PW.pt (pw_and (pt_cmpR op_gt (pv 6) pe_int (nomark _)) (pw_and1 (pt_cmpR (op_ownC (fun _ _ => rfl) T.me_Votes_eq.at_ T.me_Votes_eq.fn (ok_Votes_eq T) (hr.mono (by decide)) T.b_Votes_eq pass0) (pv 8) (pe_call (ok_l_made T) (hr.mono (by decide)) (by rfl) T.g_l_made T.F_l_made.kp T.b_l_made .nil passL (pa_cons (pe_op op_sub (pv 6) pe_int) (pa_cons (pv 3) pa_nil))) (nomark _))))) (pw_or1 (pt_cmpR (op_ownC (fun _ _ => rfl) T.me_Votes_eq.at_ T.me_Votes_eq.fn (ok_Votes_eq T) (hr.mono (by decide)) T.b_Votes_eq pass0) (pv 8) (pv 7) (nomark _)))))
              (pss_one (ps_ret pe_bl))
              pss_nil)))))
            pss_nil)))))))))
      (pss_one (ps_ret (pe_call0 (ok_l_nine_refused T) (hr.mono (by decide)) (by rfl) T.g_l_nine_refused T.F_l_nine_refused.kp T.b_l_nine_refused .nil pass0))))), ?_⟩
    refine ⟨_, rfl, l, ns, rfl, hS, fun t H1 nt D1 b1 => ?_⟩
    refine ⟨4, rfl, by decide, by decide, for_range (n := 4) (fun i σ' H' => Drw K H l t H' ∧ ∃ v2 v3 v4 v6 v7 v8, σ' = [some (.ref l), some (.ref t), v2, v3, v4, none, v6, v7, v8]) ⟨D1, _, _, _, _, _, _, rfl⟩ ?_ ?_⟩
    · clear D1 b1
      rintro kk σ' H2 hk ⟨D2, v2, v3, v4, v6, v7, v8, rfl⟩
      refine ⟨_, rfl, _, rfl, l, t, H, rfl, D2, fun p xs H3 e3 D3 np R3 => ?_⟩
      obtain ⟨hp3, okx, l5⟩ := R3
      refine ⟨_, rfl, p, rfl, ⟨_, SqL.of hp3⟩, fun D nD => ?_⟩
      refine lc_xsM (walk_list (a := p) (xs := xs)) (fun x => if x = .non then none else some x) (fun a y _ => y = a) (fun _ _ _ _ _ h => h) nD (fun H s => s.seq (SqL.of hp3)) (by omega) ?_ ?_
      · rintro i x H4 k N hx s4 q1 q2
        refine ⟨rfl, _, rfl, rfl, ?_⟩
        by_cases xn : x = .non
        · rw [if_pos xn] at q2
          rw [decide_eq_true xn]
          exact ⟨_, rfl, iteF (q2 _ (Same.refl _) rfl)⟩
        · rw [if_neg xn] at q1
          rw [decide_eq_false xn]
          exact ⟨_, rfl, iteT ⟨_, rfl, q1 _ _ _ (Same.refl _) rfl rfl⟩⟩
      intro H4 zs s4 hD pz
      have hz : zs = xs.filterMap fun x => if x = .non then none else some x := by
        exact paired_eq pz
      have hn : zs.map nV = (zs.map nI).map some := by
        rw [List.map_map]
        refine List.map_congr_left fun x hx => ?_
        rw [hz] at hx
        obtain ⟨y, hy, e⟩ := List.mem_filterMap.mp hx
        have := okx y hy
        split at e
        · cases e
        · cases e
          cases x <;> first | rfl | (rename_i h; exact absurd rfl h) | cases this
      refine ⟨D, zs, zs.map nI, rfl, SqL.of hD, hn, ?_⟩
      generalize (zs.map nI).sum = hg
      have D4 := D3.mono s4
      have hp4 := s4 _ _ hp3
      clear hz hn hD pz D2 e3 D3 hp3 np s4 nD
      refine ⟨_, rfl, _, rfl, _, _, rfl, rfl, _, rfl, _, _, rfl, rfl, ⟨by decide, by decide, by decide⟩, (by show 8 ≤ sizeLine; decide), fun u nu => ?_⟩
      obtain ⟨es, ees⟩ : ∃ es, es = [V.int 0, .int 1, .int hg, .int (hg + 1), .int (-1), .bl true, .non, .int (10 ^ 20)] := ⟨_, rfl⟩
      have okes : ∀ x ∈ es, okE x = true := fun x hx => by
        rw [ees] at hx
        simp only [List.mem_cons, List.not_mem_nil, or_false] at hx
        rcases hx with rfl | rfl | rfl | rfl | rfl | rfl | rfl | rfl <;> rfl
      have hu : upd H4 u (.lst [V.int 0, .int 1, .int hg, .int (hg + 1), .int (-1), .bl true, .non, .int (10 ^ 20)]) u = some (.lst es) := by rw [ees]; exact upd_same
      refine ⟨u, rfl, ⟨_, SqL.of upd_same⟩, for_list (K := K) (a := u) (xs := es) (fun i σ' H' => Drw K H l t H' ∧ H' p = some (.lst xs) ∧ H' u = some (.lst es) ∧ ∃ v6 v7 v8, σ' = [some (.ref l), some (.ref t), some (.int (0 + (kk : Int))), some (.ref p), some (.int hg), none, v6, v7, v8])
        ⟨D4.mono (same_upd nu), same_upd nu _ _ hp4, hu, _, _, _, rfl⟩ (fun i σ' H' _ h => SqL.of h.2.2.1) ?_ ?_⟩
      · clear D4 hp4 hu nu
        rintro i x σ' H5 hx ⟨D5, hp, hu, v6, v7, v8, rfl⟩
        have okq := okes x (List.mem_of_getElem? hx)
        have ft := fit_out (out_fit (okE_scal okq) fun y hy => okE_scal (okx y hy))
        refine ⟨_, rfl, _, rfl, x, p, xs, rfl, SqL.of hp, okq, okx, l5, fun r6 H6 s6 dp6 tp6 => ?_⟩
        refine ⟨_, rfl, _, rfl, x, p, xs, rfl, SqL.of (s6 _ _ hp), okq, okx, l5, fun r7 H7 s7 dp7 _ => ?_⟩
        have s67 := s6.trans s7
        refine ⟨_, rfl, _, _, dp7, dp_same s7 dp6, ft.shaped (by decide), ft.shaped (by decide), ?_⟩
        rw [ne_self (ft.shaped (by decide))]
        refine ⟨_, rfl, iteF ?_⟩
        obtain ⟨b6, ys6, rfl, hb6, kb, km⟩ := tp6
        have hb7 := s7 _ _ hb6
        have ok67 : ∀ {H'}, Same H7 H' → Drw K H l t H' ∧ H' p = some (.lst xs) ∧ H' u = some (.lst es) := fun s => ⟨D5.mono (s67.trans s), s _ _ (s67 _ _ hp), s _ _ (s67 _ _ hu)⟩
        cases eo : outOf x xs with
        | bad w z =>
          have e := kb w z eo
          subst e
          refine ⟨_, rfl, b6, _, _, _, rfl, rfl, .inl (.inl hb7), at_of (j := 0) rfl rfl, ?_⟩
          exact ⟨rfl, _, rfl, ite2 (fun c => absurd (of_decide_eq_true c) (bad_w eo)) fun _ => ⟨(ok67 (Same.refl _)).1, (ok67 (Same.refl _)).2.1, (ok67 (Same.refl _)).2.2, _, _, _, rfl⟩⟩
        | made q' ns =>
          obtain ⟨u7, e⟩ := km q' ns eo
          subst e
          refine ⟨_, rfl, b6, _, _, _, rfl, rfl, .inl (.inl hb7), at_of (j := 0) rfl rfl, rfl, _, rfl, ite2 (fun _ => ?_) fun c => absurd (decide_eq_true rfl) c⟩
          obtain ⟨rfl, ex, n1, n8, nk, q1, q2⟩ := made_inv eo
          have sx : ∀ y ∈ xs, scalV y = true := fun y hy => okE_scal (okx y hy)
          have hp7 := s67 _ _ hp
          have mk : ∀ {H' : Hp} {p' : Addr} {xs' : List V} {qq : Int} {ms : List Int} {Q' : VK} {E' : XK}, SqL K H' p' xs' → xs' = ms.map V.int → 1 ≤ ms.length → ms.length ≤ 5 → (∀ n ∈ ms, 0 ≤ n ∧ n ≤ 1000) → 1 ≤ qq → qq ≤ ms.sum → (∀ v H'', Same H' H'' → Vts K T.c_Votes H'' v qq ms → Q' v H'') → spMade K T.c_Votes T.c_BadNumber [.int qq, .ref p'] H' Q' E' := fun {H' p' xs' qq ms Q' E'} hS e m1 m5 mk q1 q2 j => by
            subst e
            have eo := made_of m1 (by omega) mk q1 q2
            refine ⟨.int qq, p', _, rfl, hS, rfl, fun y hy => ?_, by rw [List.length_map]; exact m5, fun w z e => (by rw [eo] at e; cases e), fun q'' ns'' e v H'' s G => ?_⟩
            · obtain ⟨i, _, rfl⟩ := List.mem_map.mp hy
              rfl
            · cases eo.symm.trans e
              exact j v H'' s G
          have l5' : ns.length ≤ 5 := by rw [ex, List.length_map] at l5; exact l5
          have ic := T.ic_Votes
          refine ⟨_, rfl, _, rfl, mk (SqL.of hp7) ex n1 l5' nk q1 q2 fun v8 H8 s8 G8 => ?_⟩
          refine ⟨_, rfl, _, rfl, _, rfl, p, xs, rfl, .inl (SqL.of (s8 _ _ hp7)), fun c gc => mk (SqL.of upd_same) ex n1 l5' nk q1 q2 fun v9 H9 s9 G9 => ?_⟩
          have s9' := (same_upd (o := .lst xs) gc).trans s9
          refine vt_ne ic (G8.same s9') G9 fun H10 s10 => ⟨_, rfl, iteF ?_⟩
          have t10 := s9'.trans s10
          have hp10 := t10 _ _ (s8 _ _ hp7)
          have G10 := G8.same t10
          have b10 := t10 _ _ (s8 _ _ hb7)
          obtain ⟨σ1, hσ1⟩ : ∃ σ1 : L2.St, σ1 = [some (.ref l), some (.ref t), some (.int (0 + (kk : Int))), some (.ref p), some (.int hg), none, some (.int q'), some (.ref b6), some v8] := ⟨_, rfl⟩
          refine ⟨fun σ' H' => σ' = σ1 ∧ Same H10 H', ?_, ?_⟩
          · obtain ⟨ms, kl, rfl⟩ : ∃ ms kl, ns = ms ++ [kl] := by
              rcases List.eq_nil_or_concat ns with e | ⟨ms, kl, e⟩
              · rw [e] at n1
                simp at n1
              · exact ⟨ms, kl, by rw [e]; simp⟩
            have ex : xs = ms.map V.int ++ [V.int kl] := by rw [ex, List.map_append] <;> rfl
            obtain ⟨k0, k1⟩ := nk kl (by simp)
            have ha := at_last (ms.map V.int) (V.int kl)
            refine ⟨_, rfl, _, rfl, p, _, _, _, rfl, rfl, SqL.of hp10, by rw [ex]; exact ha, _, _, rfl, rfl, _, rfl, ite2 (fun c => ?_) fun c => ⟨hσ1.symm, Same.refl _⟩⟩
            have c := of_decide_eq_true c
            refine ⟨_, rfl, _, rfl, _, rfl, _, rfl, _, rfl, p, xs, rfl, SqL.of hp10, fun u1 g1 => ?_⟩
            have ec : cutV xs none (some (-1)) = ms.map V.int := by rw [ex]; exact cut_l _ _
            rw [ec]
            have w1 := same_upd (o := .lst (ms.map V.int)) g1
            refine ⟨_, rfl, _, rfl, p, _, _, _, rfl, rfl, SqL.of (w1 _ _ hp10), by rw [ex]; exact ha, _, _, rfl, rfl, (by show 1 ≤ sizeLine; decide), fun u2 g2 => ?_⟩
            have w2 := w1.trans (same_upd (o := .lst [V.int (kl + 1)]) g2)
            have e100 : (100 : Nat) ≤ sizeLine := by decide
            rw [List.length_append, List.length_singleton] at l5'
            refine ⟨u1, u2, _, _, rfl, rfl, same_upd g2 _ _ upd_same, upd_same, by rw [List.length_map]; show _ + 1 ≤ _; omega, fun u3 g3 => ?_⟩
            have w3 := w2.trans (same_upd (o := .lst (ms.map V.int ++ [V.int (kl + 1)])) g3)
            have nk' : ∀ n ∈ ms ++ [kl + 1], 0 ≤ n ∧ n ≤ 1000 := fun n hn => by
              rcases List.mem_append.mp hn with h | h
              · exact nk n (List.mem_append_left _ h)
              · rw [List.mem_singleton.mp h]
                omega
            have q2' : q' ≤ (ms ++ [kl + 1]).sum := by
              rw [List.sum_append, List.sum_singleton] at q2 ⊢
              omega
            refine mk (ms := ms ++ [kl + 1]) (SqL.of upd_same) (by rw [List.map_append] <;> rfl) (by simp) (by rw [List.length_append, List.length_singleton]; omega) nk' q1 q2' fun v11 H11 s11 G11 => ?_
            have t11 := w3.trans s11
            refine vt_eqF ic (G10.same t11) G11 (.inr fun z => ?_) fun H12 s12 => ⟨_, rfl, iteF ⟨hσ1.symm, t11.trans s12⟩⟩
            have := List.append_cancel_left z
            injection this with z1
            omega
          rintro σ' H11 ⟨eσ, s11⟩
          rw [eσ, hσ1]
          clear eσ
          have G11 := G10.same s11
          have fin : ∀ {H12}, Same H11 H12 → Drw K H l t H12 ∧ H12 p = some (.lst xs) ∧ H12 u = some (.lst es) := fun s => ok67 (s8.trans (t10.trans (s11.trans s)))
          have last : ∀ {H12 : Hp} {Z : VK}, Same H11 H12 → (∀ H13, Same H12 H13 → Z (.bl false) H13) → rOwnC K T.c_Votes (spEqV K T.c_Votes) E0 v8 (.ref b6) H12 Z := fun {H12 Z} s z => by
            have tt : TyX K H12 (.ref b6) (.type "tuple") := .base (.tup (s _ _ (s11 _ _ b10)))
            exact ⟨(G11.same s).isC, ⟨_, tt, notFirst_of (sub_of_kit T.ki_tuple_Votes)⟩, v8, _, q', ns, rfl, G11.same s, .inr ⟨_, tt, T.ki_tuple_Votes, z _ (Same.refl _)⟩⟩
          refine ⟨_, rfl, _, _, rfl, rfl, _, rfl, ite2 (fun c => ?_) fun c => ?_⟩
          · have c := of_decide_eq_true c
            refine ⟨_, rfl, _, rfl, _, _, rfl, rfl, _, rfl, mk (SqL.of (fin (Same.refl _)).2.1) ex n1 l5' nk (by omega) (by omega) fun v12 H12 s12 G12 => ?_⟩
            refine vt_eqF ic (G11.same s12) G12 (.inl (by omega)) fun H13 s13 => ⟨_, rfl, iteF ?_⟩
            have t13 := s12.trans s13
            refine ⟨_, rfl, _, rfl, last t13 fun H14 s14 => ⟨_, rfl, iteF ?_⟩⟩
            obtain ⟨f1, f2, f3⟩ := fin (t13.trans s14)
            exact ⟨f1, f2, f3, _, _, _, rfl⟩
          · refine ⟨_, rfl, _, rfl, last (Same.refl _) fun H14 s14 => ⟨_, rfl, iteF ?_⟩⟩
            obtain ⟨f1, f2, f3⟩ := fin s14
            exact ⟨f1, f2, f3, _, _, _, rfl⟩
      rintro σ' H5 ⟨D5, _, _, v6, v7, v8, rfl⟩
      exact ⟨D5, _, _, _, _, _, _, rfl⟩
    rintro σ' H2 ⟨D2, v2, v3, v4, v6, v7, v8, rfl⟩
    exact ⟨rfl, q⟩
end
theorem all_mk {l : PySem.W.OpenLaw} {w : World} {K : PySem.W.Frag} {h : Heap} {mg : Str → Option Value} {fa ca_VoteError ca_BadNumber ca_Votes fa_BadNumber_init fa_is_integer fa_check_number fa_check_copies fa_Votes_init fa_Votes_eq fa_l_start fa_l_draw fa_l_made fa_l_told fa_l_due fa_l_nine_refused fa_l_row fa_law : Addr} (X : K.In h) (G : h.Ns mainGlobals mg) (hfa : mg "law" = some (.ref fa))
    {od_BadNumber_init an_BadNumber_init : Option Addr} {sl_BadNumber_init : Array (Option Value)} {oc_BadNumber_init kV_BadNumber_init dc_BadNumber_init pm_BadNumber_init cd_BadNumber_init ct_BadNumber_init : Value}
    {od_is_integer an_is_integer : Option Addr} {sl_is_integer : Array (Option Value)} {oc_is_integer kV_is_integer dc_is_integer pm_is_integer cd_is_integer ct_is_integer : Value}
    {od_check_number an_check_number : Option Addr} {sl_check_number : Array (Option Value)} {oc_check_number kV_check_number dc_check_number pm_check_number cd_check_number ct_check_number : Value}
    {od_check_copies an_check_copies : Option Addr} {sl_check_copies : Array (Option Value)} {oc_check_copies kV_check_copies dc_check_copies pm_check_copies cd_check_copies ct_check_copies : Value}
    {od_Votes_init an_Votes_init : Option Addr} {sl_Votes_init : Array (Option Value)} {oc_Votes_init kV_Votes_init dc_Votes_init pm_Votes_init cd_Votes_init ct_Votes_init : Value}
    {od_Votes_eq an_Votes_eq : Option Addr} {sl_Votes_eq : Array (Option Value)} {oc_Votes_eq kV_Votes_eq dc_Votes_eq pm_Votes_eq cd_Votes_eq ct_Votes_eq : Value}
    {od_l_start an_l_start : Option Addr} {sl_l_start : Array (Option Value)} {oc_l_start kV_l_start dc_l_start pm_l_start cd_l_start ct_l_start : Value}
    {od_l_draw an_l_draw : Option Addr} {sl_l_draw : Array (Option Value)} {oc_l_draw kV_l_draw dc_l_draw pm_l_draw cd_l_draw ct_l_draw : Value}
    {od_l_made an_l_made : Option Addr} {sl_l_made : Array (Option Value)} {oc_l_made kV_l_made dc_l_made pm_l_made cd_l_made ct_l_made : Value}
    {od_l_told an_l_told : Option Addr} {sl_l_told : Array (Option Value)} {oc_l_told kV_l_told dc_l_told pm_l_told cd_l_told ct_l_told : Value}
    {od_l_due an_l_due : Option Addr} {sl_l_due : Array (Option Value)} {oc_l_due kV_l_due dc_l_due pm_l_due cd_l_due ct_l_due : Value}
    {od_l_nine_refused an_l_nine_refused : Option Addr} {sl_l_nine_refused : Array (Option Value)} {oc_l_nine_refused kV_l_nine_refused dc_l_nine_refused pm_l_nine_refused cd_l_nine_refused ct_l_nine_refused : Value}
    {od_l_row an_l_row : Option Addr} {sl_l_row : Array (Option Value)} {oc_l_row kV_l_row dc_l_row pm_l_row cd_l_row ct_l_row : Value}
    {od_law an_law : Option Addr} {sl_law : Array (Option Value)} {oc_law kV_law dc_law pm_law cd_law ct_law : Value}
    {nm_BadNumber q_BadNumber : Str} {N_BadNumber : Addr} {bs_BadNumber bm_BadNumber : List Value} {sn_BadNumber : List Str} {sub_BadNumber : List Value} {ab_BadNumber : Bool} {col_BadNumber : Option Bool} {dd_BadNumber : Option Addr} {m0_BadNumber m1_BadNumber m2_BadNumber m3_BadNumber m5_BadNumber : Option Value}
    {gt_MOST_COPIES : Tok}
    {gt_MOST_VOTES : Tok}
    (aC_VoteError : PySem.W.nsIn K mainGlobals "VoteError" = some (some (.ref ca_VoteError)))
    (aC_BadNumber : PySem.W.nsIn K mainGlobals "BadNumber" = some (some (.ref ca_BadNumber)))
    (aC_Votes : PySem.W.nsIn K mainGlobals "Votes" = some (some (.ref ca_Votes)))
    (a_BadNumber_init : PySem.W.findIn K (.ref ca_BadNumber) "__init__" = some (some (.ref fa_BadNumber_init)))
    (l_BadNumber_init : K.lookup fa_BadNumber_init = some ⟨oc_BadNumber_init, od_BadNumber_init, .func (PySem.W.fnOf "__init__" "BadNumber.__init__" (defArgs s_BadNumber_init) (defBody s_BadNumber_init) (defScope s_BadNumber_init) .none kV_BadNumber_init dc_BadNumber_init pm_BadNumber_init an_BadNumber_init cd_BadNumber_init ct_BadNumber_init), sl_BadNumber_init⟩)
    (cc_BadNumber_init : PySem.W.codeIn K cd_BadNumber_init "BadNumber.__init__" = true)
    (kk_BadNumber_init : PySem.W.keepIn K (.ref fa_BadNumber_init) = true)
    (a_is_integer : PySem.W.nsIn K mainGlobals "is_integer" = some (some (.ref fa_is_integer)))
    (l_is_integer : K.lookup fa_is_integer = some ⟨oc_is_integer, od_is_integer, .func (PySem.W.fnOf "is_integer" "is_integer" (defArgs s_is_integer) (defBody s_is_integer) (defScope s_is_integer) .none kV_is_integer dc_is_integer pm_is_integer an_is_integer cd_is_integer ct_is_integer), sl_is_integer⟩)
    (cc_is_integer : PySem.W.codeIn K cd_is_integer "is_integer" = true)
    (kk_is_integer : PySem.W.keepIn K (.ref fa_is_integer) = true)
    (a_check_number : PySem.W.nsIn K mainGlobals "check_number" = some (some (.ref fa_check_number)))
    (l_check_number : K.lookup fa_check_number = some ⟨oc_check_number, od_check_number, .func (PySem.W.fnOf "check_number" "check_number" (defArgs s_check_number) (defBody s_check_number) (defScope s_check_number) .none kV_check_number dc_check_number pm_check_number an_check_number cd_check_number ct_check_number), sl_check_number⟩)
    (cc_check_number : PySem.W.codeIn K cd_check_number "check_number" = true)
    (kk_check_number : PySem.W.keepIn K (.ref fa_check_number) = true)
    (a_check_copies : PySem.W.nsIn K mainGlobals "check_copies" = some (some (.ref fa_check_copies)))
    (l_check_copies : K.lookup fa_check_copies = some ⟨oc_check_copies, od_check_copies, .func (PySem.W.fnOf "check_copies" "check_copies" (defArgs s_check_copies) (defBody s_check_copies) (defScope s_check_copies) .none kV_check_copies dc_check_copies pm_check_copies an_check_copies cd_check_copies ct_check_copies), sl_check_copies⟩)
    (cc_check_copies : PySem.W.codeIn K cd_check_copies "check_copies" = true)
    (kk_check_copies : PySem.W.keepIn K (.ref fa_check_copies) = true)
    (a_Votes_init : PySem.W.findIn K (.ref ca_Votes) "__init__" = some (some (.ref fa_Votes_init)))
    (i_Votes_init : PySem.W.isFn K (.ref fa_Votes_init) = true)
    (l_Votes_init : K.lookup fa_Votes_init = some ⟨oc_Votes_init, od_Votes_init, .func (PySem.W.fnOf "__init__" "Votes.__init__" (defArgs s_Votes_init) (defBody s_Votes_init) (defScope s_Votes_init) .none kV_Votes_init dc_Votes_init pm_Votes_init an_Votes_init cd_Votes_init ct_Votes_init), sl_Votes_init⟩)
    (cc_Votes_init : PySem.W.codeIn K cd_Votes_init "Votes.__init__" = true)
    (kk_Votes_init : PySem.W.keepIn K (.ref fa_Votes_init) = true)
    (a_Votes_eq : PySem.W.findIn K (.ref ca_Votes) "__eq__" = some (some (.ref fa_Votes_eq)))
    (i_Votes_eq : PySem.W.isFn K (.ref fa_Votes_eq) = true)
    (l_Votes_eq : K.lookup fa_Votes_eq = some ⟨oc_Votes_eq, od_Votes_eq, .func (PySem.W.fnOf "__eq__" "Votes.__eq__" (defArgs s_Votes_eq) (defBody s_Votes_eq) (defScope s_Votes_eq) .none kV_Votes_eq dc_Votes_eq pm_Votes_eq an_Votes_eq cd_Votes_eq ct_Votes_eq), sl_Votes_eq⟩)
    (cc_Votes_eq : PySem.W.codeIn K cd_Votes_eq "Votes.__eq__" = true)
    (kk_Votes_eq : PySem.W.keepIn K (.ref fa_Votes_eq) = true)
    (a_l_start : PySem.W.nsIn K mainGlobals "_law_start" = some (some (.ref fa_l_start)))
    (l_l_start : K.lookup fa_l_start = some ⟨oc_l_start, od_l_start, .func (PySem.W.fnOf "_law_start" "_law_start" (defArgs s_l_start) (defBody s_l_start) (defScope s_l_start) .none kV_l_start dc_l_start pm_l_start an_l_start cd_l_start ct_l_start), sl_l_start⟩)
    (cc_l_start : PySem.W.codeIn K cd_l_start "_law_start" = true)
    (kk_l_start : PySem.W.keepIn K (.ref fa_l_start) = true)
    (a_l_draw : PySem.W.nsIn K mainGlobals "_law_draw" = some (some (.ref fa_l_draw)))
    (l_l_draw : K.lookup fa_l_draw = some ⟨oc_l_draw, od_l_draw, .func (PySem.W.fnOf "_law_draw" "_law_draw" (defArgs s_l_draw) (defBody s_l_draw) (defScope s_l_draw) .none kV_l_draw dc_l_draw pm_l_draw an_l_draw cd_l_draw ct_l_draw), sl_l_draw⟩)
    (cc_l_draw : PySem.W.codeIn K cd_l_draw "_law_draw" = true)
    (kk_l_draw : PySem.W.keepIn K (.ref fa_l_draw) = true)
    (a_l_made : PySem.W.nsIn K mainGlobals "_law_made" = some (some (.ref fa_l_made)))
    (l_l_made : K.lookup fa_l_made = some ⟨oc_l_made, od_l_made, .func (PySem.W.fnOf "_law_made" "_law_made" (defArgs s_l_made) (defBody s_l_made) (defScope s_l_made) .none kV_l_made dc_l_made pm_l_made an_l_made cd_l_made ct_l_made), sl_l_made⟩)
    (cc_l_made : PySem.W.codeIn K cd_l_made "_law_made" = true)
    (kk_l_made : PySem.W.keepIn K (.ref fa_l_made) = true)
    (a_l_told : PySem.W.nsIn K mainGlobals "_law_told" = some (some (.ref fa_l_told)))
    (l_l_told : K.lookup fa_l_told = some ⟨oc_l_told, od_l_told, .func (PySem.W.fnOf "_law_told" "_law_told" (defArgs s_l_told) (defBody s_l_told) (defScope s_l_told) .none kV_l_told dc_l_told pm_l_told an_l_told cd_l_told ct_l_told), sl_l_told⟩)
    (cc_l_told : PySem.W.codeIn K cd_l_told "_law_told" = true)
    (kk_l_told : PySem.W.keepIn K (.ref fa_l_told) = true)
    (a_l_due : PySem.W.nsIn K mainGlobals "_law_due" = some (some (.ref fa_l_due)))
    (l_l_due : K.lookup fa_l_due = some ⟨oc_l_due, od_l_due, .func (PySem.W.fnOf "_law_due" "_law_due" (defArgs s_l_due) (defBody s_l_due) (defScope s_l_due) .none kV_l_due dc_l_due pm_l_due an_l_due cd_l_due ct_l_due), sl_l_due⟩)
    (cc_l_due : PySem.W.codeIn K cd_l_due "_law_due" = true)
    (kk_l_due : PySem.W.keepIn K (.ref fa_l_due) = true)
    (a_l_nine_refused : PySem.W.nsIn K mainGlobals "_law_nine_refused" = some (some (.ref fa_l_nine_refused)))
    (l_l_nine_refused : K.lookup fa_l_nine_refused = some ⟨oc_l_nine_refused, od_l_nine_refused, .func (PySem.W.fnOf "_law_nine_refused" "_law_nine_refused" (defArgs s_l_nine_refused) (defBody s_l_nine_refused) (defScope s_l_nine_refused) .none kV_l_nine_refused dc_l_nine_refused pm_l_nine_refused an_l_nine_refused cd_l_nine_refused ct_l_nine_refused), sl_l_nine_refused⟩)
    (cc_l_nine_refused : PySem.W.codeIn K cd_l_nine_refused "_law_nine_refused" = true)
    (kk_l_nine_refused : PySem.W.keepIn K (.ref fa_l_nine_refused) = true)
    (a_l_row : PySem.W.nsIn K mainGlobals "_law_row" = some (some (.ref fa_l_row)))
    (l_l_row : K.lookup fa_l_row = some ⟨oc_l_row, od_l_row, .func (PySem.W.fnOf "_law_row" "_law_row" (defArgs s_l_row) (defBody s_l_row) (defScope s_l_row) .none kV_l_row dc_l_row pm_l_row an_l_row cd_l_row ct_l_row), sl_l_row⟩)
    (cc_l_row : PySem.W.codeIn K cd_l_row "_law_row" = true)
    (kk_l_row : PySem.W.keepIn K (.ref fa_l_row) = true)
    (a_law : PySem.W.nsIn K mainGlobals "law" = some (some (.ref fa_law)))
    (l_law : K.lookup fa_law = some ⟨oc_law, od_law, .func (PySem.W.fnOf "law" "law" (defArgs s_law) (defBody s_law) (defScope s_law) .none kV_law dc_law pm_law an_law cd_law ct_law), sl_law⟩)
    (cc_law : PySem.W.codeIn K cd_law "law" = true)
    (kk_law : PySem.W.keepIn K (.ref fa_law) = true)
    (xL_BadNumber : K.lookup ca_BadNumber = some (excClassObj nm_BadNumber q_BadNumber ca_BadNumber N_BadNumber bs_BadNumber bm_BadNumber true sn_BadNumber sub_BadNumber ab_BadNumber col_BadNumber dd_BadNumber m0_BadNumber m1_BadNumber m2_BadNumber m3_BadNumber m5_BadNumber "ValueError.__new__"))
    (bm_ok_BadNumber : PySem.HandSPX.refsVE bm_BadNumber = true)
    (sa_BadNumber : PySem.W.findIn K (.ref ca_BadNumber) "__setattr__" = some (some (.builtin "object.__setattr__")))
    (eC_BadNumber : PySem.W.subIn K (.ref ca_BadNumber) (.type "BaseException") = some true)
    (tC_BadNumber : PySem.W.typeIn K (.ref ca_BadNumber) = some (.type "type"))
    (kC_BadNumber : PySem.W.keepIn K (.ref ca_BadNumber) = true)
    (tI_BadNumber : PySem.W.typeIn K (.ref fa_BadNumber_init) = some (.type "function"))
    (ga_BadNumber : PySem.W.findIn K (.ref ca_BadNumber) "__getattribute__" = some (some (.builtin "BaseException.__getattribute__")))
    (gg_BadNumber : PySem.W.findIn K (.ref ca_BadNumber) "__getattr__" = some none)
    (hd_BadNumber : PySem.W.hasDictIn K ca_BadNumber = true)
    (ic_BadNumber : PySem.W.isClsIn K ca_BadNumber = true)
    (cc_BadNumber : PySem.W.findIn K (.ref ca_BadNumber) "__class__" = some (some (.builtin "object.__class__")))
    (cm_BadNumber : PySem.W.mroIn K ca_BadNumber (.type "object") = some true)
    (n_BadNumber_what : PySem.W.findIn K (.ref ca_BadNumber) "what" = some none)
    (n_BadNumber_value : PySem.W.findIn K (.ref ca_BadNumber) "value" = some none)
    (cn_ : PySem.W.specialIn K (.builtin "object.__class__") "__get__" = some (some (.builtin "getset_descriptor.__get__")))
    (ct_ : PySem.W.takesIn K (.builtin "object.__class__") = some true)
    (pg_Votes : PySem.W.plainGet K ca_Votes Str.empty = true)
    (hd_Votes : PySem.W.hasDictIn K ca_Votes = true)
    (po_Votes : PySem.W.plainOver K ca_Votes = true)
    (sa_Votes : PySem.W.findIn K (.ref ca_Votes) "__setattr__" = some (some (.builtin "object.__setattr__")))
    (mk_Votes : PySem.W.makesIn K ca_Votes = true)
    (kc_Votes : PySem.W.keepIn K (.ref ca_Votes) = true)
    (sf_Votes : PySem.W.selfFirst K ca_Votes = true)
    (ni_Votes : PySem.W.subIn K (.ref ca_Votes) (.type "int") = some false)
    (in_Votes : PySem.W.subIn K (.type "int") (.ref ca_Votes) = some false)
    (ne_Votes : PySem.W.findIn K (.ref ca_Votes) "__ne__" = some (some (.builtin "object.__ne__")))
    (cc_Votes : PySem.W.findIn K (.ref ca_Votes) "__class__" = some (some (.builtin "object.__class__")))
    (cm_Votes : PySem.W.mroIn K ca_Votes (.type "object") = some true)
    (n_Votes_quota : PySem.W.findIn K (.ref ca_Votes) "quota" = some none)
    (n_Votes_votes : PySem.W.findIn K (.ref ca_Votes) "votes" = some none)
    (ki_Votes_Votes : PySem.W.kitOne K (.ref ca_Votes) (.ref ca_Votes) = some true)
    (ki_tuple_Votes : PySem.W.kitOne K (.type "tuple") (.ref ca_Votes) = some false)
    (sb_BadNumber_BadNumber : PySem.W.subIn K (.ref ca_BadNumber) (.ref ca_BadNumber) = some true)
    (gk_MOST_COPIES : PySem.W.nsIn K mainGlobals "MOST_COPIES" = some (some (.int 8 gt_MOST_COPIES)))
    (gk_MOST_VOTES : PySem.W.nsIn K mainGlobals "MOST_VOTES" = some (some (.int 1000 gt_MOST_VOTES)))
    (mb_abs : PySem.W.nsIn K mainGlobals "abs" = some none)
    (mb_bool : PySem.W.nsIn K mainGlobals "bool" = some none)
    (mb_int : PySem.W.nsIn K mainGlobals "int" = some none)
    (mb_isinstance : PySem.W.nsIn K mainGlobals "isinstance" = some none)
    (mb_len : PySem.W.nsIn K mainGlobals "len" = some none)
    (mb_list : PySem.W.nsIn K mainGlobals "list" = some none)
    (mb_range : PySem.W.nsIn K mainGlobals "range" = some none)
    (mb_sum : PySem.W.nsIn K mainGlobals "sum" = some none)
    (mb_tuple : PySem.W.nsIn K mainGlobals "tuple" = some none) :
    ∃ fd : FuncData, (∀ (s : Shared) (v : Value), BindsTo s fd ⟨[v], []⟩ [("_law_script", v)]) ∧ ∀ base : Heap, K.In base → base.Ns mainGlobals mg → FnOk l.prog w K mg base CX0 12 fa fd ["_law_script"] (spLaw K) := by
  have e := hfa.symm.trans (PySem.W.mg_of X G a_law)
  cases e
  have FF_BadNumber_init := fun_mk (st := s_BadNumber_init) l_BadNumber_init cc_BadNumber_init kk_BadNumber_init
  have bb_BadNumber_init := FF_BadNumber_init.binds (ps := ["self", "what", "value"]) fun _ _ _ _ _ _ us hl => match us, hl with | [_, _, _], _ => rfl
  have FF_is_integer := fun_mk (st := s_is_integer) l_is_integer cc_is_integer kk_is_integer
  have bb_is_integer := FF_is_integer.binds (ps := ["value"]) fun _ _ _ _ _ _ us hl => match us, hl with | [_], _ => rfl
  have FF_check_number := fun_mk (st := s_check_number) l_check_number cc_check_number kk_check_number
  have bb_check_number := FF_check_number.binds (ps := ["what", "value", "low", "high"]) fun _ _ _ _ _ _ us hl => match us, hl with | [_, _, _, _], _ => rfl
  have FF_check_copies := fun_mk (st := s_check_copies) l_check_copies cc_check_copies kk_check_copies
  have bb_check_copies := FF_check_copies.binds (ps := ["copies"]) fun _ _ _ _ _ _ us hl => match us, hl with | [_], _ => rfl
  have FF_Votes_init := fun_mk (st := s_Votes_init) l_Votes_init cc_Votes_init kk_Votes_init
  have FF_Votes_eq := fun_mk (st := s_Votes_eq) l_Votes_eq cc_Votes_eq kk_Votes_eq
  have bb_Votes_eq := FF_Votes_eq.binds (ps := ["self", "other"]) fun _ _ _ _ _ _ us hl => match us, hl with | [_, _], _ => rfl
  have FF_l_start := fun_mk (st := s_l_start) l_l_start cc_l_start kk_l_start
  have bb_l_start := FF_l_start.binds (ps := ["_law_script"]) fun _ _ _ _ _ _ us hl => match us, hl with | [_], _ => rfl
  have FF_l_draw := fun_mk (st := s_l_draw) l_l_draw cc_l_draw kk_l_draw
  have bb_l_draw := FF_l_draw.binds (ps := ["_law_script", "_law_state", "_law_limit"]) fun _ _ _ _ _ _ us hl => match us, hl with | [_, _, _], _ => rfl
  have FF_l_made := fun_mk (st := s_l_made) l_l_made cc_l_made kk_l_made
  have bb_l_made := FF_l_made.binds (ps := ["_law_quota", "_law_row_here"]) fun _ _ _ _ _ _ us hl => match us, hl with | [_, _], _ => rfl
  have FF_l_told := fun_mk (st := s_l_told) l_l_told cc_l_told kk_l_told
  have bb_l_told := FF_l_told.binds (ps := ["_law_quota", "_law_row_here"]) fun _ _ _ _ _ _ us hl => match us, hl with | [_, _], _ => rfl
  have FF_l_due := fun_mk (st := s_l_due) l_l_due cc_l_due kk_l_due
  have bb_l_due := FF_l_due.binds (ps := ["_law_quota", "_law_row_here"]) fun _ _ _ _ _ _ us hl => match us, hl with | [_, _], _ => rfl
  have FF_l_nine_refused := fun_mk (st := s_l_nine_refused) l_l_nine_refused cc_l_nine_refused kk_l_nine_refused
  have bb_l_nine_refused := FF_l_nine_refused.binds (ps := []) fun _ _ _ _ _ _ us hl => match us, hl with | [], _ => rfl
  have FF_l_row := fun_mk (st := s_l_row) l_l_row cc_l_row kk_l_row
  have bb_l_row := FF_l_row.binds (ps := ["_law_script", "_law_state"]) fun _ _ _ _ _ _ us hl => match us, hl with | [_, _], _ => rfl
  have FF_law := fun_mk (st := s_law) l_law cc_law kk_law
  have bb_law := FF_law.binds (ps := ["_law_script"]) fun _ _ _ _ _ _ us hl => match us, hl with | [_], _ => rfl
  exact ⟨PySem.W.fnOf "law" "law" (defArgs s_law) (defBody s_law) (defScope s_law) .none kV_law dc_law pm_law an_law cd_law ct_law, fun s v => .of_eq rfl, fun base _ _ => ok_law (T := {
    c_VoteError := ca_VoteError,
    gc_VoteError := PySem.W.mg_of X G aC_VoteError,
    c_BadNumber := ca_BadNumber,
    gc_BadNumber := PySem.W.mg_of X G aC_BadNumber,
    c_Votes := ca_Votes,
    gc_Votes := PySem.W.mg_of X G aC_Votes,
    f_BadNumber_init := fa_BadNumber_init,
    fd_BadNumber_init := _,
    F_BadNumber_init := FF_BadNumber_init,
    b_BadNumber_init := bb_BadNumber_init,
    f_is_integer := fa_is_integer,
    fd_is_integer := _,
    F_is_integer := FF_is_integer,
    b_is_integer := bb_is_integer,
    g_is_integer := PySem.W.mg_of X G a_is_integer,
    f_check_number := fa_check_number,
    fd_check_number := _,
    F_check_number := FF_check_number,
    b_check_number := bb_check_number,
    g_check_number := PySem.W.mg_of X G a_check_number,
    f_check_copies := fa_check_copies,
    fd_check_copies := _,
    F_check_copies := FF_check_copies,
    b_check_copies := bb_check_copies,
    g_check_copies := PySem.W.mg_of X G a_check_copies,
    f_Votes_init := fa_Votes_init,
    fd_Votes_init := _,
    F_Votes_init := FF_Votes_init,
    f_Votes_eq := fa_Votes_eq,
    fd_Votes_eq := _,
    F_Votes_eq := FF_Votes_eq,
    b_Votes_eq := bb_Votes_eq,
    me_Votes_eq := ⟨a_Votes_eq, i_Votes_eq, kk_Votes_eq⟩,
    f_l_start := fa_l_start,
    fd_l_start := _,
    F_l_start := FF_l_start,
    b_l_start := bb_l_start,
    g_l_start := PySem.W.mg_of X G a_l_start,
    f_l_draw := fa_l_draw,
    fd_l_draw := _,
    F_l_draw := FF_l_draw,
    b_l_draw := bb_l_draw,
    g_l_draw := PySem.W.mg_of X G a_l_draw,
    f_l_made := fa_l_made,
    fd_l_made := _,
    F_l_made := FF_l_made,
    b_l_made := bb_l_made,
    g_l_made := PySem.W.mg_of X G a_l_made,
    f_l_told := fa_l_told,
    fd_l_told := _,
    F_l_told := FF_l_told,
    b_l_told := bb_l_told,
    g_l_told := PySem.W.mg_of X G a_l_told,
    f_l_due := fa_l_due,
    fd_l_due := _,
    F_l_due := FF_l_due,
    b_l_due := bb_l_due,
    g_l_due := PySem.W.mg_of X G a_l_due,
    f_l_nine_refused := fa_l_nine_refused,
    fd_l_nine_refused := _,
    F_l_nine_refused := FF_l_nine_refused,
    b_l_nine_refused := bb_l_nine_refused,
    g_l_nine_refused := PySem.W.mg_of X G a_l_nine_refused,
    f_l_row := fa_l_row,
    fd_l_row := _,
    F_l_row := FF_l_row,
    b_l_row := bb_l_row,
    g_l_row := PySem.W.mg_of X G a_l_row,
    f_law := fa,
    fd_law := _,
    F_law := FF_law,
    b_law := bb_law,
    g_law := PySem.W.mg_of X G a_law,
    ox_BadNumber := ⟨⟨_, _, _, _, _, _, _, _, _, _, _, _, _, _, _, xL_BadNumber, bm_ok_BadNumber⟩, sa_BadNumber, eC_BadNumber, tC_BadNumber, kC_BadNumber⟩,
    xn_BadNumber := a_BadNumber_init,
    xt_BadNumber := tI_BadNumber,
    xf_BadNumber := ⟨ga_BadNumber, gg_BadNumber, eC_BadNumber, hd_BadNumber⟩,
    xi_BadNumber := ⟨ic_BadNumber, ga_BadNumber, gg_BadNumber, eC_BadNumber, cc_BadNumber, cn_, ct_, cm_BadNumber⟩,
    n_BadNumber_what := n_BadNumber_what,
    n_BadNumber_value := n_BadNumber_value,
    oc_Votes := ⟨sf_Votes, PySem.W.ksp_first sf_Votes, ni_Votes, in_Votes, ne_Votes, cm_Votes⟩,
    ic_Votes := ⟨⟨pg_Votes, hd_Votes, po_Votes, sa_Votes⟩, cc_Votes, cn_, ct_, cm_Votes⟩,
    cl_Votes := ⟨pg_Votes, hd_Votes, po_Votes, sa_Votes⟩,
    M_Votes := ⟨mk_Votes, a_Votes_init, i_Votes_init, kc_Votes⟩,
    n_Votes_quota := n_Votes_quota,
    n_Votes_votes := n_Votes_votes,
    ki_Votes_Votes := ki_Votes_Votes,
    ki_tuple_Votes := ki_tuple_Votes,
    ex_BadNumber_BadNumber := exm_own eC_BadNumber ic_BadNumber tC_BadNumber sb_BadNumber_BadNumber,
    gt_MOST_COPIES := gt_MOST_COPIES,
    gk_MOST_COPIES := PySem.W.mg_of X G gk_MOST_COPIES,
    gt_MOST_VOTES := gt_MOST_VOTES,
    gk_MOST_VOTES := PySem.W.mg_of X G gk_MOST_VOTES,
    m_abs := PySem.W.mg_none_of X G mb_abs,
    m_bool := PySem.W.mg_none_of X G mb_bool,
    m_int := PySem.W.mg_none_of X G mb_int,
    m_isinstance := PySem.W.mg_none_of X G mb_isinstance,
    m_len := PySem.W.mg_none_of X G mb_len,
    m_list := PySem.W.mg_none_of X G mb_list,
    m_range := PySem.W.mg_none_of X G mb_range,
    m_sum := PySem.W.mg_none_of X G mb_sum,
    m_tuple := PySem.W.mg_none_of X G mb_tuple })⟩
theorem walk {l : PySem.W.OpenLaw} {q : Program} {loose : List Str} {XP : (Str → Option Value) → Heap → Prop} {YP : World → Heap → Prop} {d : DefRec} {K : Params → PySem.W.Frag} (hn : l.most = some 63) (hdf : d.params.defaults = [])
    (hY : ∀ (w : World) (h : Heap), YP w h → (K w.params).In h)
    (F : ∀ (w : World) (mg : Str → Option Value) (fa : Addr) (h : Heap), (K w.params).In h → h.Ns mainGlobals mg → mg d.name = some (.ref fa) →
      ∃ fd : FuncData, (∀ (s : Shared) (u : Value), BindsTo s fd ⟨[u], []⟩ [("_law_script", u)]) ∧ ∀ base : Heap, (K w.params).In base → base.Ns mainGlobals mg → FnOk l.prog w (K w.params) mg base CX0 12 fa fd ["_law_script"] (spLaw (K w.params))) :
    PySem.W.WalkO q loose XP YP l.row.toRowW d [] (fun f vs => PySem.call f vs) :=
  L2.walk_of (n := 63) (k := 12) (x := "_law_script") (CX := fun _ => CX0) (sp := fun w => spLaw (K w.params)) hn (by decide) hdf ⟨rfl, by decide, by decide⟩ hY F (fun _ _ a ns hl _ hS => ⟨a, ns, rfl, hS, hl, fun _ => rfl⟩) fun _ _ _ _ _ z => z
end Cv
open PySem PySem.W PyProof.Rows
set_option maxRecDepth 100000 in
set_option maxHeartbeats 0 in
theorem PySem.Challenge.cw_copyvotes_k31_votes_made_holds : PySem.Challenge.rw_copyvotes_k31_votes_made.Holds := by
  w_on; o_law; k_head; (case hw => w_witness2)
  k_fill
  refine Cv.walk (l := PySem.Challenge.rw_copyvotes_k31_votes_made) rfl rfl (fun w h Y => PySem.W.kIn_of Y) ?F
  case F =>
    intro w mg fa h KX G hmg
    refine' Cv.all_mk KX G hmg ?aC_VoteError ?aC_BadNumber ?aC_Votes ?a_BadNumber_init ?l_BadNumber_init ?cc_BadNumber_init ?kk_BadNumber_init ?a_is_integer ?l_is_integer ?cc_is_integer ?kk_is_integer ?a_check_number ?l_check_number ?cc_check_number ?kk_check_number ?a_check_copies ?l_check_copies ?cc_check_copies ?kk_check_copies ?a_Votes_init ?i_Votes_init ?l_Votes_init ?cc_Votes_init ?kk_Votes_init ?a_Votes_eq ?i_Votes_eq ?l_Votes_eq ?cc_Votes_eq ?kk_Votes_eq ?a_l_start ?l_l_start ?cc_l_start ?kk_l_start ?a_l_draw ?l_l_draw ?cc_l_draw ?kk_l_draw ?a_l_made ?l_l_made ?cc_l_made ?kk_l_made ?a_l_told ?l_l_told ?cc_l_told ?kk_l_told ?a_l_due ?l_l_due ?cc_l_due ?kk_l_due ?a_l_nine_refused ?l_l_nine_refused ?cc_l_nine_refused ?kk_l_nine_refused ?a_l_row ?l_l_row ?cc_l_row ?kk_l_row ?a_law ?l_law ?cc_law ?kk_law ?xL_BadNumber ?bm_ok_BadNumber ?sa_BadNumber ?eC_BadNumber ?tC_BadNumber ?kC_BadNumber ?tI_BadNumber ?ga_BadNumber ?gg_BadNumber ?hd_BadNumber ?ic_BadNumber ?cc_BadNumber ?cm_BadNumber ?n_BadNumber_what ?n_BadNumber_value ?cn_ ?ct_ ?pg_Votes ?hd_Votes ?po_Votes ?sa_Votes ?mk_Votes ?kc_Votes ?sf_Votes ?ni_Votes ?in_Votes ?ne_Votes ?cc_Votes ?cm_Votes ?n_Votes_quota ?n_Votes_votes ?ki_Votes_Votes ?ki_tuple_Votes ?sb_BadNumber_BadNumber ?gk_MOST_COPIES ?gk_MOST_VOTES ?mb_abs ?mb_bool ?mb_int ?mb_isinstance ?mb_len ?mb_list ?mb_range ?mb_sum ?mb_tuple
    (case aC_VoteError => k_is)
    (case aC_BadNumber => k_is)
    (case aC_Votes => k_is)
    (case a_BadNumber_init => k_is)
    (case l_BadNumber_init => k_is)
    (case cc_BadNumber_init => k_is)
    (case kk_BadNumber_init => k_is)
    (case a_is_integer => k_is)
    (case l_is_integer => k_is)
    (case cc_is_integer => k_is)
    (case kk_is_integer => k_is)
    (case a_check_number => k_is)
    (case l_check_number => k_is)
    (case cc_check_number => k_is)
    (case kk_check_number => k_is)
    (case a_check_copies => k_is)
    (case l_check_copies => k_is)
    (case cc_check_copies => k_is)
    (case kk_check_copies => k_is)
    (case a_Votes_init => k_is)
    (case i_Votes_init => k_is)
    (case l_Votes_init => k_is)
    (case cc_Votes_init => k_is)
    (case kk_Votes_init => k_is)
    (case a_Votes_eq => k_is)
    (case i_Votes_eq => k_is)
    (case l_Votes_eq => k_is)
    (case cc_Votes_eq => k_is)
    (case kk_Votes_eq => k_is)
    (case a_l_start => k_is)
    (case l_l_start => k_is)
    (case cc_l_start => k_is)
    (case kk_l_start => k_is)
    (case a_l_draw => k_is)
    (case l_l_draw => k_is)
    (case cc_l_draw => k_is)
    (case kk_l_draw => k_is)
    (case a_l_made => k_is)
    (case l_l_made => k_is)
    (case cc_l_made => k_is)
    (case kk_l_made => k_is)
    (case a_l_told => k_is)
    (case l_l_told => k_is)
    (case cc_l_told => k_is)
    (case kk_l_told => k_is)
    (case a_l_due => k_is)
    (case l_l_due => k_is)
    (case cc_l_due => k_is)
    (case kk_l_due => k_is)
    (case a_l_nine_refused => k_is)
    (case l_l_nine_refused => k_is)
    (case cc_l_nine_refused => k_is)
    (case kk_l_nine_refused => k_is)
    (case a_l_row => k_is)
    (case l_l_row => k_is)
    (case cc_l_row => k_is)
    (case kk_l_row => k_is)
    (case a_law => k_is)
    (case l_law => k_is)
    (case cc_law => k_is)
    (case kk_law => k_is)
    (case xL_BadNumber => k_is)
    (case bm_ok_BadNumber => decide +kernel)
    (case sa_BadNumber => k_is)
    (case eC_BadNumber => k_is)
    (case tC_BadNumber => k_is)
    (case kC_BadNumber => k_is)
    (case tI_BadNumber => k_is)
    (case ga_BadNumber => k_is)
    (case gg_BadNumber => k_is)
    (case hd_BadNumber => k_is)
    (case ic_BadNumber => k_is)
    (case cc_BadNumber => k_is)
    (case cm_BadNumber => k_is)
    (case n_BadNumber_what => k_is)
    (case n_BadNumber_value => k_is)
    (case cn_ => k_is)
    (case ct_ => k_is)
    (case pg_Votes => k_is)
    (case hd_Votes => k_is)
    (case po_Votes => k_is)
    (case sa_Votes => k_is)
    (case mk_Votes => k_is)
    (case kc_Votes => k_is)
    (case sf_Votes => k_is)
    (case ni_Votes => k_is)
    (case in_Votes => k_is)
    (case ne_Votes => k_is)
    (case cc_Votes => k_is)
    (case cm_Votes => k_is)
    (case n_Votes_quota => k_is)
    (case n_Votes_votes => k_is)
    (case ki_Votes_Votes => kit_is)
    (case ki_tuple_Votes => kit_is)
    (case sb_BadNumber_BadNumber => k_is)
    (case gk_MOST_COPIES => k_is)
    (case gk_MOST_VOTES => k_is)
    (case mb_abs => k_is)
    (case mb_bool => k_is)
    (case mb_int => k_is)
    (case mb_isinstance => k_is)
    (case mb_len => k_is)
    (case mb_list => k_is)
    (case mb_range => k_is)
    (case mb_sum => k_is)
    (case mb_tuple => k_is)

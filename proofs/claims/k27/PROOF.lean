import PyProof.Rows.All
import Wide.All
import OpenK.AllK
import Wide.FinOn
import KE.RegKIsAll
import KE.KExcIs
import KE.KOpsOwn
import KE.KCallOwn
import HandS.ForSpec
import HandS.ExcInit
import HandS.ExcField
import HandS.IsInst
import HandS.Style
import HandS.Evl
import HandS.OwnEq
import HandS.Wide
import HandS.Defaults
import HandS.Comp
import HandS.Text
import HandS.StrMore
import HandS.Walk
import PySem.Challenge.RW_copyvotes_k27_kinds_of_errors
set_option Elab.async false
set_option linter.all false
set_option maxRecDepth 100000
set_option maxHeartbeats 4000000

namespace Cv
open PySem PySem.Spec PyProof.Rows L2
def topS (i : Nat) : Stmt := PySem.Challenge.pw_copyvotes_k27_kinds_of_errors.main.body.getD i (.Pass ⟨0, 0, 0, 0⟩)
abbrev s_BadNumber_init : Stmt := inClass (topS 2) 0
theorem sc_BadNumber_init : FnScope ["self", "what", "value"] ["self", "what", "value"] (defScope s_BadNumber_init) := ⟨rfl, rfl, rfl, by decide +kernel, rfl, by decide +kernel, by decide +kernel⟩
abbrev s_BadLot_init : Stmt := inClass (topS 3) 0
theorem sc_BadLot_init : FnScope ["self", "place"] ["self", "place"] (defScope s_BadLot_init) := ⟨rfl, rfl, rfl, by decide +kernel, rfl, by decide +kernel, by decide +kernel⟩
abbrev s_NoMeeting_init : Stmt := inClass (topS 4) 0
theorem sc_NoMeeting_init : FnScope ["self", "read", "write"] ["self", "read", "write"] (defScope s_NoMeeting_init) := ⟨rfl, rfl, rfl, by decide +kernel, rfl, by decide +kernel, by decide +kernel⟩
abbrev s_BadTrade_init : Stmt := inClass (topS 5) 0
theorem sc_BadTrade_init : FnScope ["self", "place", "reason"] ["self", "place", "reason"] (defScope s_BadTrade_init) := ⟨rfl, rfl, rfl, by decide +kernel, rfl, by decide +kernel, by decide +kernel⟩
abbrev s_BadFlow_init : Stmt := inClass (topS 6) 0
theorem sc_BadFlow_init : FnScope ["self", "lot", "member"] ["self", "lot", "member"] (defScope s_BadFlow_init) := ⟨rfl, rfl, rfl, by decide +kernel, rfl, by decide +kernel, by decide +kernel⟩
abbrev s_BadText_init : Stmt := inClass (topS 7) 0
theorem sc_BadText_init : FnScope ["self", "line"] ["self", "line"] (defScope s_BadText_init) := ⟨rfl, rfl, rfl, by decide +kernel, rfl, by decide +kernel, by decide +kernel⟩
abbrev s_BadDeed_init : Stmt := inClass (topS 8) 0
theorem sc_BadDeed_init : FnScope ["self", "place"] ["self", "place"] (defScope s_BadDeed_init) := ⟨rfl, rfl, rfl, by decide +kernel, rfl, by decide +kernel, by decide +kernel⟩
abbrev s_TooMany_init : Stmt := inClass (topS 9) 0
theorem sc_TooMany_init : FnScope ["self", "limit"] ["self", "limit"] (defScope s_TooMany_init) := ⟨rfl, rfl, rfl, by decide +kernel, rfl, by decide +kernel, by decide +kernel⟩
abbrev s_l_start : Stmt := topS 13
theorem sc_l_start : FnScope ["_law_script", "_law_first"] ["_law_script"] (defScope s_l_start) := ⟨rfl, rfl, rfl, by decide +kernel, rfl, by decide +kernel, by decide +kernel⟩
abbrev s_l_draw : Stmt := topS 14
theorem sc_l_draw : FnScope ["_law_script", "_law_state", "_law_limit", "_law_number", "_law_cell", "_law_mixed"] ["_law_script", "_law_state", "_law_limit"] (defScope s_l_draw) := ⟨rfl, rfl, rfl, by decide +kernel, rfl, by decide +kernel, by decide +kernel⟩
abbrev s_l_kinds : Stmt := topS 15
theorem sc_l_kinds : FnScope ["_law_fell", "_law_kinds_here"] ["_law_fell"] (defScope s_l_kinds) := ⟨rfl, rfl, rfl, by decide +kernel, rfl, by decide +kernel, by decide +kernel⟩
abbrev s_l_throw : Stmt := topS 16
theorem sc_l_throw : FnScope ["_law_kind", "_law_values_here"] ["_law_kind", "_law_values_here"] (defScope s_l_throw) := ⟨rfl, rfl, rfl, by decide +kernel, rfl, by decide +kernel, by decide +kernel⟩
abbrev s_l_caught : Stmt := topS 17
theorem sc_l_caught : FnScope ["_law_kind", "_law_values_here", "_law_fell", "e"] ["_law_kind", "_law_values_here"] (defScope s_l_caught) := ⟨rfl, rfl, rfl, by decide +kernel, rfl, by decide +kernel, by decide +kernel⟩
abbrev s_l_holds : Stmt := topS 18
theorem sc_l_holds : FnScope ["_law_fell", "_law_kind", "_law_values_here", "_law_kinds_here", "_law_at"] ["_law_fell", "_law_kind", "_law_values_here"] (defScope s_l_holds) := ⟨rfl, rfl, rfl, by decide +kernel, rfl, by decide +kernel, by decide +kernel⟩
abbrev s_l_values : Stmt := topS 19
theorem sc_l_values : FnScope ["_law_script", "_law_state", "_law_letters", "_law_words", "_law_k", "_law_j", "_law_first", "_law_second"] ["_law_script", "_law_state"] (defScope s_l_values) := ⟨rfl, rfl, rfl, by decide +kernel, rfl, by decide +kernel, by decide +kernel⟩
abbrev s_law : Stmt := topS 20
theorem sc_law : FnScope ["_law_script", "_law_state", "_law_kind", "_law_first", "_law_second", "_law_one", "_law_two"] ["_law_script"] (defScope s_law) := ⟨rfl, rfl, rfl, by decide +kernel, rfl, by decide +kernel, by decide +kernel⟩
/-! ## What every law's text wants: heaps, exceptions, the draws -/
theorem same_upd {H : Hp} {p : Addr} {o : HO} (h : H p = none) : Same H (upd H p o) := fun b x e => by
  rw [upd_ne (ne_of_none e h)]
  exact e
theorem same_upd2 {H H' : Hp} {p : Addr} {o : HO} (e : Same H H') (h : H p = none) : Same H (upd H' p o) := fun b x k => by
  rw [upd_ne (ne_of_none k h)]
  exact e b x k
/-- an except clause that names an own class -/
theorem exm_own {K : PySem.W.Frag} {cls : Value} {S : Addr} {b : Bool} (h1 : PySem.W.subIn K (.ref S) (.type "BaseException") = some true) (h2 : PySem.W.isClsIn K S = true) (h3 : PySem.W.typeIn K (.ref S) = some (.type "type")) (h4 : PySem.W.subIn K cls (.ref S) = some b) :
    PySem.W.exmOne K cls (.ref S) = some b := by
  have e1 : (PySem.W.subIn K (.ref S) (.type "BaseException") == some true) = true := by rw [h1] <;> rfl
  have e2 : ((PySem.W.clsIn K S).isSome && PySem.W.typeIn K (.ref S) == some (.type "type")) = true := by
    have h2' : (PySem.W.clsIn K S).isSome = true := h2
    rw [h2', h3] <;> rfl
  show (if (PySem.W.subIn K (.ref S) (.type "BaseException") == some true) = true then (if ((PySem.W.clsIn K S).isSome && PySem.W.typeIn K (.ref S) == some (.type "type")) = true then PySem.W.subIn K cls (.ref S) else none) else none) = some b
  rw [if_pos e1, if_pos e2]
  exact h4
/-- what isinstance asks of an own exception class -/
structure XiC (K : PySem.W.Frag) (C : Addr) : Prop where
  cl : PySem.W.isClsIn K C = true
  ga : PySem.W.findIn K (.ref C) "__getattribute__" = some (some (.builtin "BaseException.__getattribute__"))
  gg : PySem.W.findIn K (.ref C) "__getattr__" = some none
  sb : PySem.W.subIn K (.ref C) (.type "BaseException") = some true
  ha : PySem.W.findIn K (.ref C) "__class__" = some (some (.builtin "object.__class__"))
  hn : PySem.W.specialIn K (.builtin "object.__class__") "__get__" = some (some (.builtin "getset_descriptor.__get__"))
  ht : PySem.W.takesIn K (.builtin "object.__class__") = some true
  hm : PySem.W.mroIn K C (.type "object") = some true
/-- isinstance(e, c) within the suite that holds e, an error with its own dict -/
def rIsX (K : PySem.W.Frag) (a C : Addr) (cls : Value) (d : Option Addr) : List V → Hp → VK → Prop := fun xs H Q => ∃ (c : V) (cv : Value) (b : Bool) (dd : Addr) (fs : List (Str × V)), xs = [.ref a, c] ∧ cls = .ref C ∧ d = some dd ∧ H dd = some (.xd fs) ∧ ClsV c cv ∧ PySem.W.kitOne K (.ref C) cv = some b ∧ Q (.bl b) H
theorem call_isX {X : Cx} {a C : Addr} {oe : Obj} {cls : Value} {d : Option Addr} {pn : List (Addr × Obj)} (T : XiC X.K C) (hz : Zc cls d oe) (hf : ∃ vs, oe.data = .fields vs) : CallR (X.suite a ((a, oe) :: pn)) (.builtin "isinstance") (rIsX X.K a C cls d) := by
  intro pins s σ H xs us Q I r h
  obtain ⟨c, cv, b, dd, fs, rfl, rfl, rfl, ea, hcv, e, q⟩ := h
  obtain ⟨u1, u2, rfl, r1, r2⟩ := vals2 r
  cases (show u1 = Value.ref a from r1)
  have ec := hcv.eq r2
  subst ec
  obtain ⟨ha, _⟩ := I.pin (a, oe) (List.mem_append_left _ List.mem_cons_self)
  obtain ⟨vs, hd⟩ := hf
  have hx : ObjOk X.prog X.w H s.heap dd (.xd fs) := I.hok dd _ ea
  obtain ⟨mA, hns, hr⟩ := hx
  obtain ⟨od, ho, hl⟩ := lookIn_ns hns
  have J : PySem.W.InstAt s.heap a oe C (some od) := ⟨ha, hz.1, by unfold PySem.W.notCls; rw [hd] <;> rfl, by rw [hz.2]; exact ho⟩
  exact PySem.W.kia_one (PySem.W.kitx_exc T.cl T.ga T.gg T.sb T.ha T.hn T.ht T.hm) I.kIn J e (fun z => nomatch z) fun tk => ⟨.bl b, H, I.kept (t' := tk) fun _ _ z => z, rfl, q⟩
/-! ### the state of the draws -/
def St4 (H : Hp) (t : Addr) : Prop := ∃ a b c d : Int, H t = some (.lst [.int a, .int b, .int c, .int d])
/-- H0: the heap of old, t: the state's list, l: the script -/
structure Drw (K : PySem.W.Frag) (H0 : Hp) (l t : Addr) (H : Hp) : Prop where
  scr : ∃ ns : List Int, SqL K H0 l (ns.map V.int)
  new : H0 t = none
  same : Same H0 H
  st : St4 H t
theorem Drw.sc {K : PySem.W.Frag} {H0 H : Hp} {l t : Addr} (D : Drw K H0 l t H) : ∃ ns : List Int, SqL K H l (ns.map V.int) := by
  obtain ⟨ns, h⟩ := D.scr
  exact ⟨ns, D.same.seq h⟩
theorem Drw.upd {K : PySem.W.Frag} {H0 H : Hp} {l t : Addr} {a b c d : Int} (D : Drw K H0 l t H) : Drw K H0 l t (upd H t (.lst [.int a, .int b, .int c, .int d])) :=
  ⟨D.scr, D.new, same_upd2 D.same D.new, ⟨a, b, c, d, upd_same⟩⟩
theorem Drw.mono {K : PySem.W.Frag} {H0 H H' : Hp} {l t : Addr} (D : Drw K H0 l t H) (e : Same H H') : Drw K H0 l t H' := by
  obtain ⟨a, b, c, d, h⟩ := D.st
  exact ⟨D.scr, D.new, D.same.trans e, ⟨a, b, c, d, e _ _ h⟩⟩
/-- all but what stands at t -/
def But (t : Addr) (H H' : Hp) : Prop := ∀ b, b ≠ t → H' b = H b
theorem But.refl {t : Addr} {H : Hp} : But t H H := fun _ _ => rfl
theorem But.trans {t : Addr} {H H1 H2 : Hp} (a : But t H H1) (b : But t H1 H2) : But t H H2 := fun c h => (b c h).trans (a c h)
theorem But.upd {t : Addr} {H H1 : Hp} {o : HO} (a : But t H H1) : But t H (upd H1 t o) := fun c h => (upd_ne h).trans (a c h)
def spStart (K : PySem.W.Frag) : Sp := fun vs H Q _ => ∃ (l : Addr) (ns : List Int), vs = [.ref l] ∧ SqL K H l (ns.map V.int) ∧ ∀ t H', H t = none → Drw K H l t H' → But t H H' → Q (.ref t) H'
def spDraw (K : PySem.W.Frag) : Sp := fun vs H Q _ => ∃ (l t : Addr) (m : Int) (H0 : Hp), vs = [.ref l, .ref t, .int m] ∧ Drw K H0 l t H ∧ 0 < m ∧ m < 1073741824 ∧ ∀ (v : Int) H', 0 ≤ v → v < m → But t H H' → Drw K H0 l t H' → Q (.int v) H'
theorem at0 {a b c d : V} : atI [a, b, c, d] 0 = some a := rfl
theorem at1 {a b c d : V} : atI [a, b, c, d] 1 = some b := rfl
theorem at2 {a b c d : V} : atI [a, b, c, d] 2 = some c := rfl
theorem at3 {a b c d : V} : atI [a, b, c, d] 3 = some d := rfl
/-- the plain steps of a reading -/
local macro_rules | `(tactic| walk_at "rd") => `(tactic| repeat (first | refine ⟨_, rfl, ?_⟩ | refine ⟨_, _, rfl, rfl, ?_⟩ | refine ⟨⟨by decide, by decide⟩, ?_⟩ | refine ⟨⟨by decide, by decide, by decide⟩, ?_⟩ | refine ⟨show (0 : Int) < _ by decide, ?_⟩))
/-! ### data, errors, numbers -/
theorem Same.seqT {K : PySem.W.Frag} {H H' : Hp} {a : Addr} {xs : List V} (e : Same H H') (h : SqT K H a xs) : SqT K H' a xs := by
  rcases h with (h | ⟨o, h⟩) | h
  · exact .inl (.inl (e _ _ h))
  · exact .inl (.inr ⟨o, e _ _ h⟩)
  · exact .inr h
mutual
theorem dp_same {K : PySem.W.Frag} {H H' : Hp} (e : Same H H') : ∀ {v : V} {d : PyData}, Dp K H v d → Dp K H' v d
  | _, _, .non => .non
  | _, _, .bl b => .bl b
  | _, _, .int i => .int i
  | _, _, .str x => .str x
  | _, _, .lst h a => .lst (e.seq h) (dps_same e a)
  | _, _, .tup h a => .tup (Same.seqT e h) (dps_same e a)
theorem dps_same {K : PySem.W.Frag} {H H' : Hp} (e : Same H H') : ∀ {vs : List V} {ds : List PyData}, DpAll K H vs ds → DpAll K H' vs ds
  | _, _, .nil => .nil
  | _, _, .cons h a => .cons (dp_same e h) (dps_same e a)
end
theorem ne_self {d : PyData} (h : SeqAt.shaped d = true) : (!PyData.eqv d d) = false := by
  rw [SeqAt.eqv_refl d (SeqAt.canLay_of_shaped h)] <;> rfl
theorem eq_self {d : PyData} (h : SeqAt.shaped d = true) : PyData.eqv d d = true := SeqAt.eqv_refl d (SeqAt.canLay_of_shaped h)
/-- an error of two fields, being made -/
def spX2 (C : Addr) (f1 f2 : Str) : Sp := fun vs H Q _ => ∃ (a : Addr) (x y : V), vs = [.ref a, x, y] ∧ H a = some (exo a C none) ∧
  ∀ d, H d = none → d ≠ a → Q .non (upd (upd (upd H d (exd d [(f1, x)])) a (exo a C (some d))) d (exd d [(f2, y), (f1, x)]))
theorem mk2 {C : Addr} {f1 f2 : Str} {H1 : Hp} {x y : V} {Q : XK} (h : ∀ d H', H1 d = none → Same H1 H' → H' d = some (.xd [(f2, y), (f1, x)]) → Q (.ref C) (some d) H') :
    ([x, y] : List V).length ≤ 1000 ∧ ∀ a, H1 a = none → spX2 C f1 f2 (.ref a :: ([x, y] ++ [])) (upd H1 a (exo a C none)) (fun v H2 => v = .non ∧ ∃ (d : Addr) (fs : List (Str × V)), H2 a = some (exo a C (some d)) ∧ H2 d = some (exd d fs) ∧ H1 d = none ∧ Q (.ref C) (some d) (upd (del H2 a) d (.xd fs))) (fun _ _ _ => False) := by
  refine ⟨by show 2 ≤ 1000; decide, fun a ha => ⟨a, x, y, rfl, upd_same, fun d hd hda => ⟨rfl, d, _, ?_, upd_same, ?_, ?_⟩⟩⟩
  · rw [upd_ne (Ne.symm hda), upd_same]
  · rw [upd_ne hda] at hd
    exact hd
  · have hd1 : H1 d = none := by
      rw [upd_ne hda] at hd
      exact hd
    refine h d _ hd1 (fun b o e => ?_) upd_same
    have hba : b ≠ a := ne_of_none e ha
    have hbd : b ≠ d := ne_of_none e hd1
    rw [upd_ne hbd, del_ne hba, upd_ne hbd, upd_ne hba, upd_ne hbd, upd_ne hba]
    exact e
/-- what is an integer -/
def isInt : V → Bool
  | .int _ => true
  | _ => false
/-- a value that isinstance can ask -/
def Kn (K : PySem.W.Frag) (H : Hp) (x : V) : Prop := ∃ t b1 b2, TyX K H x t ∧ PySem.W.kitOne K t (.type "int") = some b1 ∧ (b1 = true → PySem.W.kitOne K t (.type "bool") = some b2) ∧ (b1 && !b2) = isInt x
theorem kn_int {K : PySem.W.Frag} {H : Hp} (i : Int) : Kn K H (.int i) := ⟨_, true, false, .base (.int i), kit_ty (by decide +kernel), fun _ => kit_ty (by decide +kernel), rfl⟩
theorem kn_bl {K : PySem.W.Frag} {H : Hp} (b : Bool) : Kn K H (.bl b) := ⟨_, true, true, .base (.bl b), kit_ty (by decide +kernel), fun _ => kit_ty (by decide +kernel), rfl⟩
theorem kn_non {K : PySem.W.Frag} {H : Hp} : Kn K H .non := ⟨_, false, false, .base .non, kit_ty (by decide +kernel), fun z => (nomatch z), rfl⟩
theorem kn_str {K : PySem.W.Frag} {H : Hp} (x : Str) : Kn K H (.str x) := ⟨_, false, false, .base (.str x), kit_ty (by decide +kernel), fun z => (nomatch z), rfl⟩
theorem kn_tup {K : PySem.W.Frag} {H : Hp} {a : Addr} {xs : List V} (e : H a = some (.tup xs)) : Kn K H (.ref a) := ⟨_, false, false, .base (.tup e), kit_ty (by decide +kernel), fun z => (nomatch z), rfl⟩
def spIsInt (K : PySem.W.Frag) : Sp := fun vs H Q _ => ∃ x, vs = [x] ∧ Kn K H x ∧ Q (.bl (isInt x)) H
def oV : Option Int → V
  | none => .non
  | some i => .int i
/-- within the bounds -/
def good (x : V) (lo hi : Option Int) : Bool := match x with
  | .int i => lo.all (fun l => decide (l ≤ i)) && hi.all (fun h => decide (i ≤ h))
  | _ => false
def spCheck (K : PySem.W.Frag) (C : Addr) : Sp := fun vs H Q E => ∃ (w : Str) (x : V) (lo hi : Option Int), vs = [.str w, x, oV lo, oV hi] ∧ Kn K H x ∧ (good x lo hi = true → Q x H) ∧
  (good x lo hi = false → ∀ d H', H d = none → Same H H' → H' d = some (.xd [("value", x), ("what", .str w)]) → E (.ref C) (some d) H')
/-- subscripts whose written part is named (within a comprehension) -/
theorem ixK_list {X : Cx} {K : PySem.W.Frag} (h : X.K = K) : IxR X (rIxL K) := h ▸ ix_list
theorem ixK_tup {X : Cx} {K : PySem.W.Frag} (h : X.K = K) : IxR X (rIxT K) := h ▸ ix_tup
/-- a field, the written part named (within a try) -/
theorem pe_fldK {X : Cx} {K : PySem.W.Frag} {e : Expr} {f : Str} {pos : Pos} {ta : TE} (h : X.K = K) (he : PE X e ta) (hb : attributeBase e f X.env (eval e X.env) = eval e X.env) : PE X (.Attribute e f pos) (tFld K ta f) := h ▸ pe_fld he hb
/-! ### a caught exception, kept behind its suite -/
/-- at p: an exception of the class k, its dict at dd -/
def Kept (k : Value) (dd : Option Addr) (p : Addr) : HO := .ext fun hp => ∃ (ob : Obj) (fv : Array Value), hp.get? p = some ob ∧ Zc k dd ob ∧ ob.data = .fields fv
theorem kept_obj {P : Program} {w : World} {H : Hp} {hp : Heap} {p : Addr} {k : Value} {dd : Option Addr} {ob : Obj} {fv : Array Value} (h1 : hp.get? p = some ob) (h2 : Zc k dd ob) (h3 : ob.data = .fields fv) :
    ObjOk P w H hp p (Kept k dd p) := by
  refine ⟨⟨ob, fv, h1, h2, h3⟩, ⟨ob, h1⟩, ?_⟩
  rintro _ _ ⟨o1, f1, g1, g2⟩ same
  exact ⟨o1, f1, same _ g1, g2⟩
theorem kept_at {P : Program} {w : World} {H : Hp} {hp : Heap} {p : Addr} {k : Value} {dd : Option Addr} (all : HOk P w H hp) (h : H p = some (Kept k dd p)) : ∃ (ob : Obj) (fv : Array Value), hp.get? p = some ob ∧ Zc k dd ob ∧ ob.data = .fields fv := by
  have z : ObjOk P w H hp p (.ext fun hp => ∃ (ob : Obj) (fv : Array Value), hp.get? p = some ob ∧ Zc k dd ob ∧ ob.data = .fields fv) := all p _ h
  exact z.1
/-- an object of no one's that came after the entry is tracked from here on -/
theorem inv_keep {X : Cx} {pins : List (Addr × Obj)} {σ : L2.St} {H : Hp} {s : Shared} {p : Addr} {φ : Heap → Prop} (I : Inv X pins σ H s) (new0 : X.s_0.heap.get? p = none) (hp : H p = none)
    (ob : ObjOk X.prog X.w (upd H p (.ext φ)) s.heap p (.ext φ)) (nL : X.env.locals ≠ p) (nC : ∀ x c, X.env.cells.lookup x = some c → c ≠ p) (nP : ∀ q ∈ X.pn ++ pins, q.1 ≠ p) : Inv X pins σ (upd H p (.ext φ)) s := by
  have n0 : ∀ b o, X.s_0.heap.get? b = some o → b ≠ p := by
    intro b o e z
    rw [z, new0] at e
    cases e
  have nT : ∀ b o, H b = some o → b ≠ p := fun b o e => ne_of_none e hp
  constructor
  case ok => exact I.ok
  case os => exact I.os
  case bare => exact I.bare
  case loc => exact I.loc
  case cell => exact I.cell
  case len => exact I.len
  case free => rw [upd_ne nL]; exact I.free
  case freeC => intro x c e; rw [upd_ne (nC x c e)]; exact I.freeC x c e
  case pin =>
    intro q hq
    obtain ⟨p1, p2, p3⟩ := I.pin q hq
    exact ⟨p1, by rw [upd_ne (nP q hq)]; exact p2, p3⟩
  case base =>
    constructor
    case keep => exact I.base.keep
    case slot => exact I.base.slot
    case there => exact I.base.there
    case free => intro b o e1 e2 e3; rw [upd_ne (n0 b o e1)]; exact I.base.free b o e1 e2 e3
    case tups => intro b xs e; have q := I.base.tups b xs e; rw [upd_ne (nT b _ q)]; exact q
    case frzs => intro b o u e; have q := I.base.frzs b o u e; rw [upd_ne (nT b _ q)]; exact q
    case tbls => intro b ps e; obtain ⟨m, q⟩ := I.base.tbls b ps e; exact ⟨m, by rw [upd_ne (nT b _ q)]; exact q⟩
  case hok =>
    intro b u e
    by_cases hb : b = p
    · subst hb
      rw [upd_same] at e
      cases e
      exact ob
    · rw [upd_ne hb] at e
      exact (I.hok b u e).stay (fun _ _ _ z => z) (fun c q => by rw [upd_ne (nT c _ q)]; exact q) fun c xs q => by rw [upd_ne (nT c _ q)]; exact q
/-- the wish of 'except c as n: ..' whose exception is kept (its own suite raises nothing, and no break is in it) -/
def wKp (K : PySem.W.Frag) (cv : Value) (ix : Nat) (TS1 : Addr → Value → Option Addr → TS) (D : Ends) : WX := fun k dd σ H => PySem.W.exmOne K k cv = some true ∧
  ∀ p, H p = none → TS1 p k dd { nx := fun σ1 H1 => D.nx (σ1.set ix none) (upd H1 p (Kept k dd p)), rt := fun _ _ => False, bk := fun _ _ => False, ct := fun _ _ => False } (σ.set ix (some (.ref p))) H
section
variable {X : Cx} {y nm : Str} {cv : Value} {ix : Nat} {bd su : List Stmt} {b1 : Stmt} {p1 p2 p3 : Pos} {TB : WX → TS} {TS1 : Addr → Value → Option Addr → TS}
theorem ps_try_keep (h0 : X.ex = []) (h1 : X.stack = X.env :: X.outer) (h2 : X.env.frame = some X.env.locals) (h3 : X.N.Nodup) (h4 : X.N[ix]? = some nm) (h5 : X.env.kindOf nm = some .local) (h6 : Names X y cv)
    (HB : ∀ (V1 : WX) (pl : List (Addr × Obj)) (z : Value → Shared → Prop), Takes (X.tr pl z) V1 → PassesOwn (model X.prog X.w) X.A X.env z → PSs (X.tr pl z) bd (TB V1))
    (HS : ∀ (p : Addr) (ob : Obj) (k : Value) (dd : Option Addr) (pl : List (Addr × Obj)), Zc k dd ob → (∃ fv, ob.data = .fields fv) → PSs (X.suite p ((p, ob) :: pl)) (b1 :: su) (TS1 p k dd)) :
    PS X (.Try bd [.ExceptHandler (some (.Name y p1)) (some nm) (b1 :: su) p2] [] [] p3) (fun D σ H => TB (wKp X.K cv ix TS1 D) D σ H) := by
  constructor
  intro pins s σ H D I h
  have okX := I.ok
  have frames : X.A.frames = some (X.env :: X.outer) := by rw [okX.frames, h1]
  refine wpAny_Try_except ?_
  refine wpAny_mono ((HB (wKp X.K cv ix TS1 D) (X.pn ++ pins) _ (fun u s' got => ?caught) PassesOwn.looking).run [] s σ H D (I.toTry _) h) (fun f s1 z => ?fine) fun _ _ z => z
  case fine =>
    cases f with
    | next => obtain ⟨σ1, H1, J, q⟩ := z; exact wpAny_execs_nil ⟨σ1, H1, J.ofTry okX, q⟩
    | brk => obtain ⟨σ1, H1, J, q⟩ := z; exact ⟨σ1, H1, J.ofTry okX, q⟩
    | cont => obtain ⟨σ1, H1, J, q⟩ := z; exact ⟨σ1, H1, J.ofTry okX, q⟩
    | ret u => obtain ⟨v, σ1, H1, J, r, q⟩ := z; exact ⟨v, σ1, H1, J.ofTry okX, r, q⟩
  case caught =>
    obtain ⟨p, B, s2, pins2, σ1, H1, k, dd, rfl, J0, old, up0, air, hp, sameOs, bare, match1, wish⟩ := got
    have J := J0.ofTry okX
    have air' : Sky B (X.env :: X.outer) p (Zc k dd) X.env.locals s'.heap := by rw [← h1]; exact air
    show wpAny (model X.prog X.w) X.A (noteFrame (.ref p) X.env) _ _ _
    refine Sky.land Zc.steady frames h2 air' ?_
    intro g1 fly1 up1
    have J1 : Inv X pins σ1 H1 { s' with heap := g1 } := J.landed old fly1.1 (up0.trans up1) sameOs bare
    obtain ⟨ob1, fv1, at1, z1, d1⟩ := fly1.there
    -- p is no frame, and was nothing before the body
    have noFrame : p ∉ frs (X.env :: X.outer) := by
      intro m
      obtain ⟨_, o, e, no⟩ := fly1.2.2.1.mem m
      rw [at1] at e
      cases e
      exact no _ d1
    have noL : p ≠ X.env.locals := by
      intro z
      refine noFrame (List.mem_filterMap.mpr ⟨X.env, List.mem_cons_self, ?_⟩)
      rw [h2, z]
    have noFs : p ∉ X.fs := by
      intro m
      obtain ⟨e, he, q⟩ := List.mem_filterMap.mp m
      exact noFrame (List.mem_filterMap.mpr ⟨e, List.mem_cons_of_mem _ he, q⟩)
    have new2 : s2.heap.get? p = none := by
      cases e : s2.heap.get? p with
      | none => rfl
      | some o =>
        have := old p o e (by show p ∉ frs X.stack; rw [h1]; exact noFrame)
        rw [fly1.2.1] at this
        cases this
    have new0 : X.s_0.heap.get? p = none := by
      cases e : X.s_0.heap.get? p with
      | none => rfl
      | some o =>
        obtain ⟨o', e'⟩ := J.base.there p o e (by rw [h0]; exact fun z => nomatch z)
        rw [new2] at e'
        cases e'
    have S1 := J1.suite at1 d1 hp noL noFs
    refine wpAny_handleBy_cons (codeAny_handlers_test ?_) (by intro q; cases q)
    have typ : PySem.W.Looks (model X.prog X.w) g1 (typeOf (.ref p)) k := fun A Q E s k2 q => wpAny_typeOf_ref (k2 _ _ at1) (by rw [z1.1]; exact q)
    have matches1 := PySem.W.exm_one (M := model X.prog X.w) J1.kIn typ match1
    have name1 : ∀ {Q : Value → Shared → Prop} {E : Value → Shared → Prop}, Q cv { s' with heap := g1 } → wpAny (model X.prog X.w) (X.A.mark (some (.ref p))) (eval (.Name y p1) X.env) Q E { s' with heap := g1 } := by
      intro Q E q
      obtain ⟨hg, db, hm | ⟨hm, hv, nn⟩⟩ := h6
      · exact ld_glob (X := X.suite p ((p, ob1) :: (X.pn ++ pins))) S1 hg hm q db
      · exact ld_blt (X := X.suite p ((p, ob1) :: (X.pn ++ pins))) S1 hg hm hv q nn db
    refine name1 (matches1.here ?_)
    refine codeAny_handlers_suite_as ?_
    refine HandSPX.lands_againZ fly1 ?_
    intro g2 fly2 up2
    have J2 : Inv X pins σ1 H1 { s' with heap := g2 } := J.landed old fly2.1 ((up0.trans up1).trans up2) sameOs bare
    obtain ⟨ob2, fv2, at2, z2, d2⟩ := fly2.there
    have S2 := J2.suite at2 d2 hp noL noFs
    refine store_ok (X := X.suite p ((p, ob2) :: (X.pn ++ pins))) (v := .ref p) S2 h3 h4 (.inl h5) rfl (fun s5 S5 => ?_) (.inr h5)
    refine wpAny_mono ((HS p ob2 k dd (X.pn ++ pins) z2 ⟨_, d2⟩).run [] s5 _ H1 _ S5 (wish p hp)) (fun f s6 z => ?_) fun _ _ z => z.elim
    cases f with
    | next =>
      obtain ⟨σ6, H6, S6, q6⟩ := z
      have J6 : Inv X ((p, ob2) :: pins) σ6 H6 s6 := by
        constructor
        case ok => exact okX
        case os => exact S6.os
        case bare => exact S6.bare
        case base => exact S6.base
        case loc => exact S6.loc
        case cell => exact S6.cell
        case free => exact S6.free
        case freeC => exact S6.freeC
        case hok => exact S6.hok
        case len => exact S6.len
        case pin =>
          intro q hq
          refine S6.pin q (List.mem_append_left _ ?_)
          rcases List.mem_append.mp hq with m | m
          · exact List.mem_cons_of_mem _ (List.mem_append_left _ m)
          · rcases List.mem_cons.mp m with m | m
            · rw [m]
              exact List.mem_cons_self
            · exact List.mem_cons_of_mem _ (List.mem_append_right _ m)
      refine gone_ok J6 h3 h4 h5 ?_
      intro s7 J7
      obtain ⟨at7, hp7, _⟩ := J7.pin (p, ob2) (List.mem_append_right _ List.mem_cons_self)
      have J8 : Inv X pins (σ6.set ix none) H6 s7 := J7.pins_of fun q hq => J7.pin q (List.mem_append_right X.pn (List.mem_cons_of_mem _ hq))
      refine ⟨_, _, inv_keep J8 new0 hp7 (kept_obj at7 z2 d2) (Ne.symm noL) (fun x c e z => ?_) (fun q hq z => ?_), q6⟩
      · obtain ⟨_, o, e2, _⟩ := J.cell x c e
        rw [z, new2] at e2
        cases e2
      · have e2 := (J.pin q hq).1
        rw [z, new2] at e2
        cases e2
    | brk => obtain ⟨_, _, _, q⟩ := z; exact q.elim
    | cont => obtain ⟨_, _, _, q⟩ := z; exact q.elim
    | ret u => obtain ⟨_, _, _, _, _, q⟩ := z; exact q.elim
end
section
variable {X : Cx} {e : Expr} {te : TE} {pos : Pos} {n : Str}
/-- e.f, e an exception that is kept: the dict's own -/
def tKf (K : PySem.W.Frag) (f : Str) (te : TE) : TE := fun σ H Q => te σ H fun x H1 => ∃ (p C dd : Addr) (fs : List (Str × V)) (v : V), x = .ref p ∧ H1 p = some (Kept (.ref C) (some dd) p) ∧ H1 dd = some (.xd fs) ∧ XfC K C ∧ PySem.W.findIn K (.ref C) f = some none ∧ fs.lookup f = some v ∧ Q v H1
theorem pe_kf (he : PE X e te) (hb : attributeBase e n X.env (eval e X.env) = eval e X.env := by rfl) : PE X (.Attribute e n pos) (tKf X.K n te) := by
  constructor
  intro pins s σ H Q I h
  refine attr_of hb (thn (he.run pins s σ H _ I h) ?_)
  rintro u s1 ⟨x, H1, I1, rx, p, C, dd, fs, v, rfl, kp, kd, T, no, l, q⟩
  cases (show u = Value.ref p from rx)
  obtain ⟨ob, fv, g1, g2, g3⟩ := kept_at I1.hok kp
  have dok : ObjOk X.prog X.w H1 s1.heap dd (.xd fs) := I1.hok dd _ kd
  obtain ⟨mA, ns, rel⟩ := dok
  obtain ⟨od, hod, look⟩ := lookIn_ns ns
  have rn : RelO (some v) (mA n) := by rw [← l]; exact rel n
  obtain ⟨w, hw, rw1⟩ := RelO.some_of rn
  have at1 : PySem.W.InstAt s1.heap p ob C (some od) := ⟨g1, g2.1, by unfold PySem.W.notCls; rw [g3] <;> rfl, by rw [g2.2]; exact hod⟩
  refine HandSPX.exc_get I1.kIn at1 T.ga T.gg T.exC (PySem.W.findObj_own T.hdC no rfl (by rw [look, hw])) (handed_of rw1) ?_
  exact ⟨v, H1, I1.tok _, rw1, q⟩
/-- isinstance(x, c), x an exception that is kept -/
def rIsK (K : PySem.W.Frag) : List V → Hp → VK → Prop := fun xs H Q => ∃ (p C : Addr) (dd : Option Addr) (c : V) (cv : Value) (b : Bool), xs = [.ref p, c] ∧ H p = some (Kept (.ref C) dd p) ∧ (∀ d, dd = some d → ∃ fs, H d = some (.xd fs)) ∧
  XiC K C ∧ ClsV c cv ∧ PySem.W.kitOne K (.ref C) cv = some b ∧ Q (.bl b) H
theorem call_isK : CallR X (.builtin "isinstance") (rIsK X.K) := by
  intro pins s σ H xs us Q I r h
  obtain ⟨p, C, dd, c, cv, b, rfl, kp, kd, T, hc, e, q⟩ := h
  obtain ⟨u1, u2, rfl, r1, r2⟩ := vals2 r
  cases (show u1 = Value.ref p from r1)
  cases hc.eq r2
  obtain ⟨ob, fv, g1, g2, g3⟩ := kept_at I.hok kp
  have nc : PySem.W.notCls ob = true := by unfold PySem.W.notCls; rw [g3] <;> rfl
  have fin : ∀ {od : Option Obj}, PySem.W.InstAt s.heap p ob C od → wpAny (model X.prog X.w) X.A (call (.builtin "isinstance") [.ref p, cv]) (EP X pins σ Q) X.xe s := fun {od} at1 =>
    PySem.W.kia_one (PySem.W.kitx_exc T.cl T.ga T.gg T.sb T.ha T.hn T.ht T.hm) I.kIn at1 e (fun z => nomatch z) fun tk => ⟨.bl b, H, I.kept (t' := tk) fun _ _ z => z, rfl, q⟩
  cases dd with
  | none => exact fin (od := none) ⟨g1, g2.1, nc, by rw [g2.2] <;> trivial⟩
  | some d =>
    obtain ⟨fs, hd⟩ := kd d rfl
    have dok : ObjOk X.prog X.w H s.heap d (.xd fs) := I.hok d _ hd
    obtain ⟨mA, ns, rel⟩ := dok
    obtain ⟨od, hod, look⟩ := lookIn_ns ns
    exact fin (od := some od) ⟨g1, g2.1, nc, by rw [g2.2]; exact hod⟩
end
/-! ### own exceptions of one field, and of none -/
def spX1 (C : Addr) (f1 : Str) : Sp := fun vs H Q _ => ∃ (a : Addr) (x : V), vs = [.ref a, x] ∧ H a = some (exo a C none) ∧ ∀ d, H d = none → d ≠ a → Q .non (upd (upd H d (exd d [(f1, x)])) a (exo a C (some d)))
theorem mk1 {C : Addr} {f1 : Str} {H1 : Hp} {x : V} {Q : XK} (h : ∀ d H', H1 d = none → Same H1 H' → H' d = some (.xd [(f1, x)]) → Q (.ref C) (some d) H') :
    ([x] : List V).length ≤ 1000 ∧ ∀ a, H1 a = none → spX1 C f1 (.ref a :: ([x] ++ [])) (upd H1 a (exo a C none)) (fun v H2 => v = .non ∧ ∃ (d : Addr) (fs : List (Str × V)), H2 a = some (exo a C (some d)) ∧ H2 d = some (exd d fs) ∧ H1 d = none ∧ Q (.ref C) (some d) (upd (del H2 a) d (.xd fs))) (fun _ _ _ => False) := by
  refine ⟨by show 1 ≤ 1000; decide, fun a ha => ⟨a, x, rfl, upd_same, fun d hd hda => ⟨rfl, d, _, upd_same, (upd_ne hda).trans upd_same, ?_, ?_⟩⟩⟩
  · rw [upd_ne hda] at hd
    exact hd
  · have hd1 : H1 d = none := by
      rw [upd_ne hda] at hd
      exact hd
    refine h d _ hd1 (fun b o e => ?_) upd_same
    have hba : b ≠ a := ne_of_none e ha
    have hbd : b ≠ d := ne_of_none e hd1
    rw [upd_ne hbd, del_ne hba, upd_ne hba, upd_ne hbd, upd_ne hba]
    exact e
abbrev VEb : List Value := [.type "ValueError", .type "Exception", .type "BaseException", .type "object"]
/-- what the written part says of a class without an own __init__ -/
structure Ex0C (K : PySem.W.Frag) (C : Addr) : Prop where
  q : PySem.W.excIn K C VEb "ValueError.__new__" = true
  kC : PySem.W.keepIn K (.ref C) = true
  exC : PySem.W.subIn K (.ref C) (.type "BaseException") = some true
  tyC : PySem.W.typeIn K (.ref C) = some (.type "type")
/-- C() -/
theorem pmk_own0 {X : Cx} {C : Addr} {x : Str} {p pos : Pos} (T : Ex0C X.K C) (gC : X.mg x = some (.ref C)) (hg : Gl X x) (hdb : (x == ("__debug__" : Str)) = false := by decide) : PMk X (.Call (.Name x p) [] [] pos) (fun _ H Q => Q (.ref C) none H) := by
  intro pins s σ H Q I h
  refine wpAny_Call_Name_kw (ld_glob I hg gC ?_ hdb)
  refine PySem.W.callWith_K0 I.kIn T.kC ?_
  show wpAny _ _ (call (.ref C) []) _ _ _
  obtain ⟨bm, N, nm, qn, bs, hdct, sn, sub, ab, col, dd, k0, k1, k2, k3, k5, mN, hC, hN, hni, tail⟩ := exc_obj I.kIn T.q
  refine wpAny_call_exc_subT PySem.F.excBase_ValueError tail hC hN hni ?_ (Nat.zero_le _)
  intro h' e made
  exact mk_of I made (raises_own T.exC T.tyC) h (I.hok.gone made.new)
/-- what the top has left -/
structure Ctx (K : PySem.W.Frag) (mg : Str → Option Value) where
  c_VoteError : Addr
  gc_VoteError : mg "VoteError" = some (.ref c_VoteError)
  c_BadNumber : Addr
  gc_BadNumber : mg "BadNumber" = some (.ref c_BadNumber)
  c_BadLot : Addr
  gc_BadLot : mg "BadLot" = some (.ref c_BadLot)
  c_NoMeeting : Addr
  gc_NoMeeting : mg "NoMeeting" = some (.ref c_NoMeeting)
  c_BadTrade : Addr
  gc_BadTrade : mg "BadTrade" = some (.ref c_BadTrade)
  c_BadFlow : Addr
  gc_BadFlow : mg "BadFlow" = some (.ref c_BadFlow)
  c_BadText : Addr
  gc_BadText : mg "BadText" = some (.ref c_BadText)
  c_BadDeed : Addr
  gc_BadDeed : mg "BadDeed" = some (.ref c_BadDeed)
  c_TooMany : Addr
  gc_TooMany : mg "TooMany" = some (.ref c_TooMany)
  c_Unlike : Addr
  gc_Unlike : mg "Unlike" = some (.ref c_Unlike)
  c_NothingToUndo : Addr
  gc_NothingToUndo : mg "NothingToUndo" = some (.ref c_NothingToUndo)
  f_BadNumber_init : Addr
  fd_BadNumber_init : FuncData
  F_BadNumber_init : Fun K "__init__" "BadNumber.__init__" s_BadNumber_init f_BadNumber_init fd_BadNumber_init
  b_BadNumber_init : Binds K fd_BadNumber_init ["self", "what", "value"] []
  f_BadLot_init : Addr
  fd_BadLot_init : FuncData
  F_BadLot_init : Fun K "__init__" "BadLot.__init__" s_BadLot_init f_BadLot_init fd_BadLot_init
  b_BadLot_init : Binds K fd_BadLot_init ["self", "place"] []
  f_NoMeeting_init : Addr
  fd_NoMeeting_init : FuncData
  F_NoMeeting_init : Fun K "__init__" "NoMeeting.__init__" s_NoMeeting_init f_NoMeeting_init fd_NoMeeting_init
  b_NoMeeting_init : Binds K fd_NoMeeting_init ["self", "read", "write"] []
  f_BadTrade_init : Addr
  fd_BadTrade_init : FuncData
  F_BadTrade_init : Fun K "__init__" "BadTrade.__init__" s_BadTrade_init f_BadTrade_init fd_BadTrade_init
  b_BadTrade_init : Binds K fd_BadTrade_init ["self", "place", "reason"] []
  f_BadFlow_init : Addr
  fd_BadFlow_init : FuncData
  F_BadFlow_init : Fun K "__init__" "BadFlow.__init__" s_BadFlow_init f_BadFlow_init fd_BadFlow_init
  b_BadFlow_init : Binds K fd_BadFlow_init ["self", "lot", "member"] []
  f_BadText_init : Addr
  fd_BadText_init : FuncData
  F_BadText_init : Fun K "__init__" "BadText.__init__" s_BadText_init f_BadText_init fd_BadText_init
  b_BadText_init : Binds K fd_BadText_init ["self", "line"] []
  f_BadDeed_init : Addr
  fd_BadDeed_init : FuncData
  F_BadDeed_init : Fun K "__init__" "BadDeed.__init__" s_BadDeed_init f_BadDeed_init fd_BadDeed_init
  b_BadDeed_init : Binds K fd_BadDeed_init ["self", "place"] []
  f_TooMany_init : Addr
  fd_TooMany_init : FuncData
  F_TooMany_init : Fun K "__init__" "TooMany.__init__" s_TooMany_init f_TooMany_init fd_TooMany_init
  b_TooMany_init : Binds K fd_TooMany_init ["self", "limit"] []
  f_l_start : Addr
  fd_l_start : FuncData
  F_l_start : Fun K "_law_start" "_law_start" s_l_start f_l_start fd_l_start
  b_l_start : Binds K fd_l_start ["_law_script"] []
  g_l_start : mg "_law_start" = some (.ref f_l_start)
  f_l_draw : Addr
  fd_l_draw : FuncData
  F_l_draw : Fun K "_law_draw" "_law_draw" s_l_draw f_l_draw fd_l_draw
  b_l_draw : Binds K fd_l_draw ["_law_script", "_law_state", "_law_limit"] []
  g_l_draw : mg "_law_draw" = some (.ref f_l_draw)
  f_l_kinds : Addr
  fd_l_kinds : FuncData
  F_l_kinds : Fun K "_law_kinds" "_law_kinds" s_l_kinds f_l_kinds fd_l_kinds
  b_l_kinds : Binds K fd_l_kinds ["_law_fell"] []
  g_l_kinds : mg "_law_kinds" = some (.ref f_l_kinds)
  f_l_throw : Addr
  fd_l_throw : FuncData
  F_l_throw : Fun K "_law_throw" "_law_throw" s_l_throw f_l_throw fd_l_throw
  b_l_throw : Binds K fd_l_throw ["_law_kind", "_law_values_here"] []
  g_l_throw : mg "_law_throw" = some (.ref f_l_throw)
  f_l_caught : Addr
  fd_l_caught : FuncData
  F_l_caught : Fun K "_law_caught" "_law_caught" s_l_caught f_l_caught fd_l_caught
  b_l_caught : Binds K fd_l_caught ["_law_kind", "_law_values_here"] []
  g_l_caught : mg "_law_caught" = some (.ref f_l_caught)
  f_l_holds : Addr
  fd_l_holds : FuncData
  F_l_holds : Fun K "_law_holds" "_law_holds" s_l_holds f_l_holds fd_l_holds
  b_l_holds : Binds K fd_l_holds ["_law_fell", "_law_kind", "_law_values_here"] []
  g_l_holds : mg "_law_holds" = some (.ref f_l_holds)
  f_l_values : Addr
  fd_l_values : FuncData
  F_l_values : Fun K "_law_values" "_law_values" s_l_values f_l_values fd_l_values
  b_l_values : Binds K fd_l_values ["_law_script", "_law_state"] []
  g_l_values : mg "_law_values" = some (.ref f_l_values)
  f_law : Addr
  fd_law : FuncData
  F_law : Fun K "law" "law" s_law f_law fd_law
  b_law : Binds K fd_law ["_law_script"] []
  g_law : mg "law" = some (.ref f_law)
  ox_BadNumber : OexC K c_BadNumber
  xn_BadNumber : PySem.W.findIn K (.ref c_BadNumber) "__init__" = some (some (.ref f_BadNumber_init))
  xt_BadNumber : PySem.W.typeIn K (.ref f_BadNumber_init) = some (.type "function")
  xf_BadNumber : XfC K c_BadNumber
  xi_BadNumber : XiC K c_BadNumber
  n_BadNumber_what : PySem.W.findIn K (.ref c_BadNumber) "what" = some none
  n_BadNumber_value : PySem.W.findIn K (.ref c_BadNumber) "value" = some none
  ox_BadLot : OexC K c_BadLot
  xn_BadLot : PySem.W.findIn K (.ref c_BadLot) "__init__" = some (some (.ref f_BadLot_init))
  xt_BadLot : PySem.W.typeIn K (.ref f_BadLot_init) = some (.type "function")
  xf_BadLot : XfC K c_BadLot
  xi_BadLot : XiC K c_BadLot
  n_BadLot_place : PySem.W.findIn K (.ref c_BadLot) "place" = some none
  ox_NoMeeting : OexC K c_NoMeeting
  xn_NoMeeting : PySem.W.findIn K (.ref c_NoMeeting) "__init__" = some (some (.ref f_NoMeeting_init))
  xt_NoMeeting : PySem.W.typeIn K (.ref f_NoMeeting_init) = some (.type "function")
  xf_NoMeeting : XfC K c_NoMeeting
  xi_NoMeeting : XiC K c_NoMeeting
  n_NoMeeting_read : PySem.W.findIn K (.ref c_NoMeeting) "read" = some none
  n_NoMeeting_write : PySem.W.findIn K (.ref c_NoMeeting) "write" = some none
  ox_BadTrade : OexC K c_BadTrade
  xn_BadTrade : PySem.W.findIn K (.ref c_BadTrade) "__init__" = some (some (.ref f_BadTrade_init))
  xt_BadTrade : PySem.W.typeIn K (.ref f_BadTrade_init) = some (.type "function")
  xf_BadTrade : XfC K c_BadTrade
  xi_BadTrade : XiC K c_BadTrade
  n_BadTrade_place : PySem.W.findIn K (.ref c_BadTrade) "place" = some none
  n_BadTrade_reason : PySem.W.findIn K (.ref c_BadTrade) "reason" = some none
  ox_BadFlow : OexC K c_BadFlow
  xn_BadFlow : PySem.W.findIn K (.ref c_BadFlow) "__init__" = some (some (.ref f_BadFlow_init))
  xt_BadFlow : PySem.W.typeIn K (.ref f_BadFlow_init) = some (.type "function")
  xf_BadFlow : XfC K c_BadFlow
  xi_BadFlow : XiC K c_BadFlow
  n_BadFlow_lot : PySem.W.findIn K (.ref c_BadFlow) "lot" = some none
  n_BadFlow_member : PySem.W.findIn K (.ref c_BadFlow) "member" = some none
  ox_BadText : OexC K c_BadText
  xn_BadText : PySem.W.findIn K (.ref c_BadText) "__init__" = some (some (.ref f_BadText_init))
  xt_BadText : PySem.W.typeIn K (.ref f_BadText_init) = some (.type "function")
  xf_BadText : XfC K c_BadText
  xi_BadText : XiC K c_BadText
  n_BadText_line : PySem.W.findIn K (.ref c_BadText) "line" = some none
  ox_BadDeed : OexC K c_BadDeed
  xn_BadDeed : PySem.W.findIn K (.ref c_BadDeed) "__init__" = some (some (.ref f_BadDeed_init))
  xt_BadDeed : PySem.W.typeIn K (.ref f_BadDeed_init) = some (.type "function")
  xf_BadDeed : XfC K c_BadDeed
  xi_BadDeed : XiC K c_BadDeed
  n_BadDeed_place : PySem.W.findIn K (.ref c_BadDeed) "place" = some none
  ox_TooMany : OexC K c_TooMany
  xn_TooMany : PySem.W.findIn K (.ref c_TooMany) "__init__" = some (some (.ref f_TooMany_init))
  xt_TooMany : PySem.W.typeIn K (.ref f_TooMany_init) = some (.type "function")
  xf_TooMany : XfC K c_TooMany
  xi_TooMany : XiC K c_TooMany
  n_TooMany_limit : PySem.W.findIn K (.ref c_TooMany) "limit" = some none
  e0_Unlike : Ex0C K c_Unlike
  xi_Unlike : XiC K c_Unlike
  e0_NothingToUndo : Ex0C K c_NothingToUndo
  xi_NothingToUndo : XiC K c_NothingToUndo
  ki_BadNumber_BadNumber : PySem.W.kitOne K (.ref c_BadNumber) (.ref c_BadNumber) = some true
  ki_BadNumber_BadLot : PySem.W.kitOne K (.ref c_BadNumber) (.ref c_BadLot) = some false
  ki_BadNumber_NoMeeting : PySem.W.kitOne K (.ref c_BadNumber) (.ref c_NoMeeting) = some false
  ki_BadNumber_BadTrade : PySem.W.kitOne K (.ref c_BadNumber) (.ref c_BadTrade) = some false
  ki_BadNumber_BadFlow : PySem.W.kitOne K (.ref c_BadNumber) (.ref c_BadFlow) = some false
  ki_BadNumber_BadText : PySem.W.kitOne K (.ref c_BadNumber) (.ref c_BadText) = some false
  ki_BadNumber_BadDeed : PySem.W.kitOne K (.ref c_BadNumber) (.ref c_BadDeed) = some false
  ki_BadNumber_TooMany : PySem.W.kitOne K (.ref c_BadNumber) (.ref c_TooMany) = some false
  ki_BadNumber_Unlike : PySem.W.kitOne K (.ref c_BadNumber) (.ref c_Unlike) = some false
  ki_BadNumber_NothingToUndo : PySem.W.kitOne K (.ref c_BadNumber) (.ref c_NothingToUndo) = some false
  ki_BadNumber_VoteError : PySem.W.kitOne K (.ref c_BadNumber) (.ref c_VoteError) = some true
  ki_BadNumber_ValueError : PySem.W.kitOne K (.ref c_BadNumber) (.type "ValueError") = some true
  ki_BadLot_BadNumber : PySem.W.kitOne K (.ref c_BadLot) (.ref c_BadNumber) = some false
  ki_BadLot_BadLot : PySem.W.kitOne K (.ref c_BadLot) (.ref c_BadLot) = some true
  ki_BadLot_NoMeeting : PySem.W.kitOne K (.ref c_BadLot) (.ref c_NoMeeting) = some false
  ki_BadLot_BadTrade : PySem.W.kitOne K (.ref c_BadLot) (.ref c_BadTrade) = some false
  ki_BadLot_BadFlow : PySem.W.kitOne K (.ref c_BadLot) (.ref c_BadFlow) = some false
  ki_BadLot_BadText : PySem.W.kitOne K (.ref c_BadLot) (.ref c_BadText) = some false
  ki_BadLot_BadDeed : PySem.W.kitOne K (.ref c_BadLot) (.ref c_BadDeed) = some false
  ki_BadLot_TooMany : PySem.W.kitOne K (.ref c_BadLot) (.ref c_TooMany) = some false
  ki_BadLot_Unlike : PySem.W.kitOne K (.ref c_BadLot) (.ref c_Unlike) = some false
  ki_BadLot_NothingToUndo : PySem.W.kitOne K (.ref c_BadLot) (.ref c_NothingToUndo) = some false
  ki_BadLot_VoteError : PySem.W.kitOne K (.ref c_BadLot) (.ref c_VoteError) = some true
  ki_BadLot_ValueError : PySem.W.kitOne K (.ref c_BadLot) (.type "ValueError") = some true
  ki_NoMeeting_BadNumber : PySem.W.kitOne K (.ref c_NoMeeting) (.ref c_BadNumber) = some false
  ki_NoMeeting_BadLot : PySem.W.kitOne K (.ref c_NoMeeting) (.ref c_BadLot) = some false
  ki_NoMeeting_NoMeeting : PySem.W.kitOne K (.ref c_NoMeeting) (.ref c_NoMeeting) = some true
  ki_NoMeeting_BadTrade : PySem.W.kitOne K (.ref c_NoMeeting) (.ref c_BadTrade) = some false
  ki_NoMeeting_BadFlow : PySem.W.kitOne K (.ref c_NoMeeting) (.ref c_BadFlow) = some false
  ki_NoMeeting_BadText : PySem.W.kitOne K (.ref c_NoMeeting) (.ref c_BadText) = some false
  ki_NoMeeting_BadDeed : PySem.W.kitOne K (.ref c_NoMeeting) (.ref c_BadDeed) = some false
  ki_NoMeeting_TooMany : PySem.W.kitOne K (.ref c_NoMeeting) (.ref c_TooMany) = some false
  ki_NoMeeting_Unlike : PySem.W.kitOne K (.ref c_NoMeeting) (.ref c_Unlike) = some false
  ki_NoMeeting_NothingToUndo : PySem.W.kitOne K (.ref c_NoMeeting) (.ref c_NothingToUndo) = some false
  ki_NoMeeting_VoteError : PySem.W.kitOne K (.ref c_NoMeeting) (.ref c_VoteError) = some true
  ki_NoMeeting_ValueError : PySem.W.kitOne K (.ref c_NoMeeting) (.type "ValueError") = some true
  ki_BadTrade_BadNumber : PySem.W.kitOne K (.ref c_BadTrade) (.ref c_BadNumber) = some false
  ki_BadTrade_BadLot : PySem.W.kitOne K (.ref c_BadTrade) (.ref c_BadLot) = some false
  ki_BadTrade_NoMeeting : PySem.W.kitOne K (.ref c_BadTrade) (.ref c_NoMeeting) = some false
  ki_BadTrade_BadTrade : PySem.W.kitOne K (.ref c_BadTrade) (.ref c_BadTrade) = some true
  ki_BadTrade_BadFlow : PySem.W.kitOne K (.ref c_BadTrade) (.ref c_BadFlow) = some false
  ki_BadTrade_BadText : PySem.W.kitOne K (.ref c_BadTrade) (.ref c_BadText) = some false
  ki_BadTrade_BadDeed : PySem.W.kitOne K (.ref c_BadTrade) (.ref c_BadDeed) = some false
  ki_BadTrade_TooMany : PySem.W.kitOne K (.ref c_BadTrade) (.ref c_TooMany) = some false
  ki_BadTrade_Unlike : PySem.W.kitOne K (.ref c_BadTrade) (.ref c_Unlike) = some false
  ki_BadTrade_NothingToUndo : PySem.W.kitOne K (.ref c_BadTrade) (.ref c_NothingToUndo) = some false
  ki_BadTrade_VoteError : PySem.W.kitOne K (.ref c_BadTrade) (.ref c_VoteError) = some true
  ki_BadTrade_ValueError : PySem.W.kitOne K (.ref c_BadTrade) (.type "ValueError") = some true
  ki_BadFlow_BadNumber : PySem.W.kitOne K (.ref c_BadFlow) (.ref c_BadNumber) = some false
  ki_BadFlow_BadLot : PySem.W.kitOne K (.ref c_BadFlow) (.ref c_BadLot) = some false
  ki_BadFlow_NoMeeting : PySem.W.kitOne K (.ref c_BadFlow) (.ref c_NoMeeting) = some false
  ki_BadFlow_BadTrade : PySem.W.kitOne K (.ref c_BadFlow) (.ref c_BadTrade) = some false
  ki_BadFlow_BadFlow : PySem.W.kitOne K (.ref c_BadFlow) (.ref c_BadFlow) = some true
  ki_BadFlow_BadText : PySem.W.kitOne K (.ref c_BadFlow) (.ref c_BadText) = some false
  ki_BadFlow_BadDeed : PySem.W.kitOne K (.ref c_BadFlow) (.ref c_BadDeed) = some false
  ki_BadFlow_TooMany : PySem.W.kitOne K (.ref c_BadFlow) (.ref c_TooMany) = some false
  ki_BadFlow_Unlike : PySem.W.kitOne K (.ref c_BadFlow) (.ref c_Unlike) = some false
  ki_BadFlow_NothingToUndo : PySem.W.kitOne K (.ref c_BadFlow) (.ref c_NothingToUndo) = some false
  ki_BadFlow_VoteError : PySem.W.kitOne K (.ref c_BadFlow) (.ref c_VoteError) = some true
  ki_BadFlow_ValueError : PySem.W.kitOne K (.ref c_BadFlow) (.type "ValueError") = some true
  ki_BadText_BadNumber : PySem.W.kitOne K (.ref c_BadText) (.ref c_BadNumber) = some false
  ki_BadText_BadLot : PySem.W.kitOne K (.ref c_BadText) (.ref c_BadLot) = some false
  ki_BadText_NoMeeting : PySem.W.kitOne K (.ref c_BadText) (.ref c_NoMeeting) = some false
  ki_BadText_BadTrade : PySem.W.kitOne K (.ref c_BadText) (.ref c_BadTrade) = some false
  ki_BadText_BadFlow : PySem.W.kitOne K (.ref c_BadText) (.ref c_BadFlow) = some false
  ki_BadText_BadText : PySem.W.kitOne K (.ref c_BadText) (.ref c_BadText) = some true
  ki_BadText_BadDeed : PySem.W.kitOne K (.ref c_BadText) (.ref c_BadDeed) = some false
  ki_BadText_TooMany : PySem.W.kitOne K (.ref c_BadText) (.ref c_TooMany) = some false
  ki_BadText_Unlike : PySem.W.kitOne K (.ref c_BadText) (.ref c_Unlike) = some false
  ki_BadText_NothingToUndo : PySem.W.kitOne K (.ref c_BadText) (.ref c_NothingToUndo) = some false
  ki_BadText_VoteError : PySem.W.kitOne K (.ref c_BadText) (.ref c_VoteError) = some true
  ki_BadText_ValueError : PySem.W.kitOne K (.ref c_BadText) (.type "ValueError") = some true
  ki_BadDeed_BadNumber : PySem.W.kitOne K (.ref c_BadDeed) (.ref c_BadNumber) = some false
  ki_BadDeed_BadLot : PySem.W.kitOne K (.ref c_BadDeed) (.ref c_BadLot) = some false
  ki_BadDeed_NoMeeting : PySem.W.kitOne K (.ref c_BadDeed) (.ref c_NoMeeting) = some false
  ki_BadDeed_BadTrade : PySem.W.kitOne K (.ref c_BadDeed) (.ref c_BadTrade) = some false
  ki_BadDeed_BadFlow : PySem.W.kitOne K (.ref c_BadDeed) (.ref c_BadFlow) = some false
  ki_BadDeed_BadText : PySem.W.kitOne K (.ref c_BadDeed) (.ref c_BadText) = some false
  ki_BadDeed_BadDeed : PySem.W.kitOne K (.ref c_BadDeed) (.ref c_BadDeed) = some true
  ki_BadDeed_TooMany : PySem.W.kitOne K (.ref c_BadDeed) (.ref c_TooMany) = some false
  ki_BadDeed_Unlike : PySem.W.kitOne K (.ref c_BadDeed) (.ref c_Unlike) = some false
  ki_BadDeed_NothingToUndo : PySem.W.kitOne K (.ref c_BadDeed) (.ref c_NothingToUndo) = some false
  ki_BadDeed_VoteError : PySem.W.kitOne K (.ref c_BadDeed) (.ref c_VoteError) = some true
  ki_BadDeed_ValueError : PySem.W.kitOne K (.ref c_BadDeed) (.type "ValueError") = some true
  ki_TooMany_BadNumber : PySem.W.kitOne K (.ref c_TooMany) (.ref c_BadNumber) = some false
  ki_TooMany_BadLot : PySem.W.kitOne K (.ref c_TooMany) (.ref c_BadLot) = some false
  ki_TooMany_NoMeeting : PySem.W.kitOne K (.ref c_TooMany) (.ref c_NoMeeting) = some false
  ki_TooMany_BadTrade : PySem.W.kitOne K (.ref c_TooMany) (.ref c_BadTrade) = some false
  ki_TooMany_BadFlow : PySem.W.kitOne K (.ref c_TooMany) (.ref c_BadFlow) = some false
  ki_TooMany_BadText : PySem.W.kitOne K (.ref c_TooMany) (.ref c_BadText) = some false
  ki_TooMany_BadDeed : PySem.W.kitOne K (.ref c_TooMany) (.ref c_BadDeed) = some false
  ki_TooMany_TooMany : PySem.W.kitOne K (.ref c_TooMany) (.ref c_TooMany) = some true
  ki_TooMany_Unlike : PySem.W.kitOne K (.ref c_TooMany) (.ref c_Unlike) = some false
  ki_TooMany_NothingToUndo : PySem.W.kitOne K (.ref c_TooMany) (.ref c_NothingToUndo) = some false
  ki_TooMany_VoteError : PySem.W.kitOne K (.ref c_TooMany) (.ref c_VoteError) = some true
  ki_TooMany_ValueError : PySem.W.kitOne K (.ref c_TooMany) (.type "ValueError") = some true
  ki_Unlike_BadNumber : PySem.W.kitOne K (.ref c_Unlike) (.ref c_BadNumber) = some false
  ki_Unlike_BadLot : PySem.W.kitOne K (.ref c_Unlike) (.ref c_BadLot) = some false
  ki_Unlike_NoMeeting : PySem.W.kitOne K (.ref c_Unlike) (.ref c_NoMeeting) = some false
  ki_Unlike_BadTrade : PySem.W.kitOne K (.ref c_Unlike) (.ref c_BadTrade) = some false
  ki_Unlike_BadFlow : PySem.W.kitOne K (.ref c_Unlike) (.ref c_BadFlow) = some false
  ki_Unlike_BadText : PySem.W.kitOne K (.ref c_Unlike) (.ref c_BadText) = some false
  ki_Unlike_BadDeed : PySem.W.kitOne K (.ref c_Unlike) (.ref c_BadDeed) = some false
  ki_Unlike_TooMany : PySem.W.kitOne K (.ref c_Unlike) (.ref c_TooMany) = some false
  ki_Unlike_Unlike : PySem.W.kitOne K (.ref c_Unlike) (.ref c_Unlike) = some true
  ki_Unlike_NothingToUndo : PySem.W.kitOne K (.ref c_Unlike) (.ref c_NothingToUndo) = some false
  ki_Unlike_VoteError : PySem.W.kitOne K (.ref c_Unlike) (.ref c_VoteError) = some true
  ki_Unlike_ValueError : PySem.W.kitOne K (.ref c_Unlike) (.type "ValueError") = some true
  ki_NothingToUndo_BadNumber : PySem.W.kitOne K (.ref c_NothingToUndo) (.ref c_BadNumber) = some false
  ki_NothingToUndo_BadLot : PySem.W.kitOne K (.ref c_NothingToUndo) (.ref c_BadLot) = some false
  ki_NothingToUndo_NoMeeting : PySem.W.kitOne K (.ref c_NothingToUndo) (.ref c_NoMeeting) = some false
  ki_NothingToUndo_BadTrade : PySem.W.kitOne K (.ref c_NothingToUndo) (.ref c_BadTrade) = some false
  ki_NothingToUndo_BadFlow : PySem.W.kitOne K (.ref c_NothingToUndo) (.ref c_BadFlow) = some false
  ki_NothingToUndo_BadText : PySem.W.kitOne K (.ref c_NothingToUndo) (.ref c_BadText) = some false
  ki_NothingToUndo_BadDeed : PySem.W.kitOne K (.ref c_NothingToUndo) (.ref c_BadDeed) = some false
  ki_NothingToUndo_TooMany : PySem.W.kitOne K (.ref c_NothingToUndo) (.ref c_TooMany) = some false
  ki_NothingToUndo_Unlike : PySem.W.kitOne K (.ref c_NothingToUndo) (.ref c_Unlike) = some false
  ki_NothingToUndo_NothingToUndo : PySem.W.kitOne K (.ref c_NothingToUndo) (.ref c_NothingToUndo) = some true
  ki_NothingToUndo_VoteError : PySem.W.kitOne K (.ref c_NothingToUndo) (.ref c_VoteError) = some true
  ki_NothingToUndo_ValueError : PySem.W.kitOne K (.ref c_NothingToUndo) (.type "ValueError") = some true
  ex_BadNumber_VoteError : PySem.W.exmOne K (.ref c_BadNumber) (.ref c_VoteError) = some true
  ex_BadLot_VoteError : PySem.W.exmOne K (.ref c_BadLot) (.ref c_VoteError) = some true
  ex_NoMeeting_VoteError : PySem.W.exmOne K (.ref c_NoMeeting) (.ref c_VoteError) = some true
  ex_BadTrade_VoteError : PySem.W.exmOne K (.ref c_BadTrade) (.ref c_VoteError) = some true
  ex_BadFlow_VoteError : PySem.W.exmOne K (.ref c_BadFlow) (.ref c_VoteError) = some true
  ex_BadText_VoteError : PySem.W.exmOne K (.ref c_BadText) (.ref c_VoteError) = some true
  ex_BadDeed_VoteError : PySem.W.exmOne K (.ref c_BadDeed) (.ref c_VoteError) = some true
  ex_TooMany_VoteError : PySem.W.exmOne K (.ref c_TooMany) (.ref c_VoteError) = some true
  ex_Unlike_VoteError : PySem.W.exmOne K (.ref c_Unlike) (.ref c_VoteError) = some true
  ex_NothingToUndo_VoteError : PySem.W.exmOne K (.ref c_NothingToUndo) (.ref c_VoteError) = some true
  m_ValueError : mg "ValueError" = none
  m_abs : mg "abs" = none
  m_int : mg "int" = none
  m_isinstance : mg "isinstance" = none
  m_len : mg "len" = none
  m_range : mg "range" = none

section
variable {P : Program} {w : World} {K : PySem.W.Frag} {mg : Str → Option Value} {base : Heap}
theorem ok_l_start (T : Ctx K mg) : FnOk P w K mg base CX0 1 T.f_l_start T.fd_l_start ["_law_script"] (spStart K) := by
  refine T.F_l_start.ok sc_l_start (fun vs H Q E h => ?_) (fun cdv A outer s H vs Q E hr h => ?_)
  · obtain ⟨l, ns, rfl, _⟩ := h
    rfl
  · obtain ⟨l, ns, rfl, hS, q⟩ := h
    refine ⟨_, (pss_cons (ps_set (i := 1) sc_l_start.nd rfl (Or.inl rfl) pe_int)
      (Evl.pss_cut (ps_if (pt_cmpR op_gt (pe_callB call_len_seq (by rfl) T.m_len (by decide +kernel) (pa_cons (pv 0) pa_nil)) pe_int (nomark _))
        (pss_one (ps_set (i := 1) sc_l_start.nd rfl (Or.inl rfl) (pe_ix ix_list (pv 0) pe_int (fun _ _ => rfl))))
        pss_nil)
      (pss_one (ps_ret (pe_lst (pa_cons (pe_callB call_abs (by rfl) T.m_abs (by decide +kernel) (pa_cons (pe_callTy call_int1 (by rfl) T.m_int (by decide +kernel) (pa_cons (pv 1) pa_nil)) pa_nil)) (pa_cons (pe_callTy call_int1 (by rfl) T.m_int (by decide +kernel) (pa_cons (pe_cmpR op_ge (pe_callB call_abs (by rfl) T.m_abs (by decide +kernel) (pa_cons (pe_callTy call_int1 (by rfl) T.m_int (by decide +kernel) (pa_cons (pv 1) pa_nil)) pa_nil)) (pe_op op_pow pe_int pe_int) (nomark _)) pa_nil)) (pa_cons pe_int (pa_cons pe_int pa_nil))))))))), ?_⟩
    refine ⟨fun σ' H' => H' = H ∧ ∃ z : Int, σ' = [some (.ref l), some (.int z)], ?_, ?_⟩
    · refine ⟨_, rfl, l, _, rfl, .inl hS, _, _, rfl, rfl, _, rfl, ?_⟩
      refine ite2 (fun hc => ?_) fun hc => ⟨rfl, 0, rfl⟩
      have hn : 0 < ns.length := by
        have := of_decide_eq_true hc
        rw [List.length_map] at this
        omega
      refine ⟨_, rfl, l, _, _, .int ns[0], rfl, rfl, hS, at_of (j := 0) rfl (by rw [List.getElem?_map, List.getElem?_eq_getElem hn]; rfl), ?_⟩
      exact ⟨rfl, _, rfl⟩
    · rintro σ' H' ⟨rfl, z, rfl⟩
      refine ⟨_, rfl, .inl ⟨_, rfl, _, rfl, ?_⟩⟩
      refine ⟨_, rfl, .inl ⟨_, rfl, _, rfl, _, _, rfl, rfl, ⟨by decide, by decide, by decide⟩, _, _, rfl, rfl, .inr ⟨_, rfl, ?_⟩⟩⟩
      refine ⟨by show 4 ≤ sizeLine; decide, fun t ht => ?_⟩
      exact q t _ ht ⟨⟨ns, hS⟩, ht, same_upd ht, ⟨_, _, _, _, upd_same⟩⟩ (But.refl.upd)
theorem ok_l_draw (T : Ctx K mg) : FnOk P w K mg base CX0 1 T.f_l_draw T.fd_l_draw ["_law_script", "_law_state", "_law_limit"] (spDraw K) := by
  refine T.F_l_draw.ok sc_l_draw (fun vs H Q E h => ?_) (fun cdv A outer s H vs Q E hr h => ?_)
  · obtain ⟨l, t, m, H0, rfl, _⟩ := h
    rfl
  · obtain ⟨l, t, m, H0, rfl, D, hm, hm2, q⟩ := h
    obtain ⟨a, b, c, d, ht⟩ := D.st
    have fin : ∀ (z : Int) H', But t H H' → Drw K H0 l t H' → Q (.int (z.fmod m)) H' := fun z H' e1 D' =>
      q _ _ (Int.fmod_nonneg_of_pos _ hm) (Int.fmod_lt_of_pos _ hm) e1 D'
    refine ⟨_, (pss_cons (ps_asg (pe_op op_add (pe_ix ix_list (pv 1) pe_int (fun _ _ => rfl)) pe_int) (pg_sub (pv 1) pe_int set_list))
      (Evl.pss_cut (ps_if (PW.pt (pw_and (pt_cmpR op_eq (pe_ix ix_list (pv 1) pe_int (fun _ _ => rfl)) pe_int (nomark _)) (pw_and1 (pt_cmpR op_gt (pe_ix ix_list (pv 1) pe_int (fun _ _ => rfl)) pe_int (nomark _)))))
        (pss_cons (ps_set (i := 3) sc_l_draw.nd rfl (Or.inl rfl) (pe_op op_modN (pe_callTy call_int1 (by rfl) T.m_int (by decide +kernel) (pa_cons (pe_ix ix_list (pv 1) pe_int (fun _ _ => rfl)) pa_nil)) (pv 2)))
        (pss_cons (ps_asg (pe_op op_fdivN (pe_ix ix_list (pv 1) pe_int (fun _ _ => rfl)) (pv 2)) (pg_sub (pv 1) pe_int set_list))
        (pss_one (ps_ret (pv 3)))))
        pss_nil)
      (pss_cons (ps_asg pe_int (pg_sub (pv 1) pe_int set_list))
      (pss_cons (ps_set (i := 4) sc_l_draw.nd rfl (Or.inl rfl) pe_int)
      (Evl.pss_cut (ps_if (pt_cmpR op_gt (pe_callB call_len_seq (by rfl) T.m_len (by decide +kernel) (pa_cons (pv 0) pa_nil)) pe_int (nomark _))
        (pss_one (ps_set (i := 4) sc_l_draw.nd rfl (Or.inl rfl) (pe_ix ix_list (pv 0) (pe_op op_modN (pe_callTy call_int1 (by rfl) T.m_int (by decide +kernel) (pa_cons (pe_ix ix_list (pv 1) pe_int (fun _ _ => rfl)) pa_nil)) (pe_callB call_len_seq (by rfl) T.m_len (by decide +kernel) (pa_cons (pv 0) pa_nil))) (fun _ _ => rfl))))
        pss_nil)
      (pss_cons (ps_asg (pe_op op_add (pe_ix ix_list (pv 1) pe_int (fun _ _ => rfl)) pe_int) (pg_sub (pv 1) pe_int set_list))
      (pss_cons (ps_set (i := 5) sc_l_draw.nd rfl (Or.inl rfl) (pe_op op_mul (pe_op op_mod (pe_callTy call_int1 (by rfl) T.m_int (by decide +kernel) (pa_cons (pe_ix ix_list (pv 1) pe_int (fun _ _ => rfl)) pa_nil)) pe_int) pe_int))
      (pss_cons (ps_set (i := 5) sc_l_draw.nd rfl (Or.inl rfl) (pe_op op_add (pe_op op_add (pe_op op_add (pv 5) (pe_op op_mod (pe_callTy call_int1 (by rfl) T.m_int (by decide +kernel) (pa_cons (pv 4) pa_nil)) pe_int)) (pe_op op_mul pe_int (pe_ix ix_list (pv 1) pe_int (fun _ _ => rfl)))) pe_int))
      (pss_cons (ps_asg (pe_op op_mod (pe_callTy call_int1 (by rfl) T.m_int (by decide +kernel) (pa_cons (pv 5) pa_nil)) pe_int) (pg_sub (pv 1) pe_int set_list))
      (pss_cons (ps_set (i := 5) sc_l_draw.nd rfl (Or.inl rfl) (pe_op op_mod (pe_callTy call_int1 (by rfl) T.m_int (by decide +kernel) (pa_cons (pe_op op_add (pe_op op_mul (pe_ix ix_list (pv 1) pe_int (fun _ _ => rfl)) pe_int) (pe_ix ix_list (pv 1) pe_int (fun _ _ => rfl))) pa_nil)) pe_int))
      (pss_one (ps_ret (pe_op op_modN (pe_callTy call_int1 (by rfl) T.m_int (by decide +kernel) (pa_cons (pe_op op_fdiv (pv 5) pe_int) pa_nil)) (pv 2)))))))))))))), ?_⟩
    -- state[3] = state[3] + 1
    refine ⟨_, rfl, t, _, _, _, rfl, rfl, SqL.of ht, at3, _, _, rfl, rfl, _, rfl, t, _, _, 3, rfl, rfl, ht, rfl, ?_⟩
    -- the first way
    refine ⟨fun σ' H' => σ' = [some (.ref l), some (.ref t), some (.int m), none, none, none] ∧ H' = upd H t (.lst [.int a, .int b, .int c, .int (d + 1)]), ?_, ?_⟩
    · refine ⟨_, rfl, t, _, _, _, rfl, rfl, SqL.of upd_same, at1, rfl, _, rfl, ?_⟩
      refine ite2 (fun hc => ?_) fun hc => iteF ⟨rfl, rfl⟩
      refine ⟨_, rfl, t, _, _, _, rfl, rfl, SqL.of upd_same, at0, _, _, rfl, rfl, _, rfl, ?_⟩
      refine ite2 (fun hc => ?_) fun hc => ⟨rfl, rfl⟩
      refine ⟨_, rfl, t, _, _, _, rfl, rfl, SqL.of upd_same, at0, .inl ⟨_, rfl, _, rfl, _, _, rfl, rfl, by omega, ?_⟩⟩
      refine ⟨_, rfl, t, _, _, _, rfl, rfl, SqL.of upd_same, at0, _, rfl, _, _, rfl, rfl, ⟨by omega, by omega⟩, _, rfl, t, _, _, 0, rfl, rfl, upd_same, rfl, ?_⟩
      exact ⟨_, rfl, fin _ _ (But.refl.upd.upd) (D.upd.upd)⟩
    · rintro σ' H' ⟨rfl, rfl⟩
      -- state[1] = 0; cell = 0
      refine ⟨_, rfl, t, _, _, 1, rfl, rfl, upd_same, rfl, ?_⟩
      have e1 : upd (upd H t (.lst [.int a, .int b, .int c, .int (d + 1)])) t (.lst ([V.int a, .int b, .int c, .int (d + 1)].set 1 (.int 0))) = upd H t (.lst [.int a, .int 0, .int c, .int (d + 1)]) := upd_upd
      rw [e1]
      have D1 : Drw K H0 l t (upd H t (.lst [.int a, .int 0, .int c, .int (d + 1)])) := D.upd
      obtain ⟨ns, hS⟩ := D1.sc
      refine ⟨fun σ' H' => H' = upd H t (.lst [.int a, .int 0, .int c, .int (d + 1)]) ∧ ∃ z : Int, σ' = [some (.ref l), some (.ref t), some (.int m), none, some (.int z), none], ?_, ?_⟩
      · refine ⟨_, rfl, l, _, rfl, .inl hS, _, _, rfl, rfl, _, rfl, ?_⟩
        refine ite2 (fun hc => ?_) fun hc => ⟨rfl, 0, rfl⟩
        have hn : 0 < ns.length := by
          have := of_decide_eq_true hc
          rw [List.length_map] at this
          omega
        have hn' : (0 : Int) < (((ns.map V.int).length : Nat) : Int) := by
          rw [List.length_map]
          omega
        have h0 := Int.fmod_nonneg_of_pos c hn'
        have h1 := Int.fmod_lt_of_pos c hn'
        rw [List.length_map] at h1
        have hj : (c.fmod ((ns.map V.int).length : Nat)).toNat < ns.length := by
          rw [List.length_map] at h0 ⊢
          omega
        refine ⟨_, rfl, _, rfl, t, _, _, _, rfl, rfl, SqL.of upd_same, at2, .inl ⟨_, rfl, _, rfl, l, _, rfl, .inl hS, _, _, rfl, rfl, by omega, ?_⟩⟩
        refine ⟨l, _, _, .int ns[(c.fmod ((ns.map V.int).length : Nat)).toNat], rfl, rfl, hS, at_of (j := (c.fmod ((ns.map V.int).length : Nat)).toNat) (by omega) (by rw [List.getElem?_map, List.getElem?_eq_getElem hj]; rfl), ?_⟩
        exact ⟨rfl, _, rfl⟩
      · rintro σ' H' ⟨rfl, z, rfl⟩
        -- state[2] = state[2] + 1
        refine ⟨_, rfl, t, _, _, _, rfl, rfl, SqL.of upd_same, at2, _, _, rfl, rfl, _, rfl, t, _, _, 2, rfl, rfl, upd_same, rfl, ?_⟩
        have e2 : upd (upd H t (.lst [.int a, .int 0, .int c, .int (d + 1)])) t (.lst ([V.int a, .int 0, .int c, .int (d + 1)].set 2 (.int (c + 1)))) = upd H t (.lst [.int a, .int 0, .int (c + 1), .int (d + 1)]) := upd_upd
        rw [e2]
        have hb := Int.emod_nonneg a (b := 2147483647) (by decide)
        have hb2 := Int.emod_lt_of_pos a (b := 2147483647) (by decide)
        refine ⟨_, rfl, t, _, _, _, rfl, rfl, SqL.of upd_same, at0, .inl ⟨_, rfl, _, _, rfl, rfl, (show (0 : Int) < 2147483647 by decide), _, _, rfl, rfl, .inl ⟨by omega, by omega⟩, ?_⟩⟩
        refine ⟨_, rfl, _, rfl, .inl ⟨_, rfl, _, _, rfl, rfl, (show (0 : Int) < 2147483629 by decide), _, _, rfl, rfl, _, rfl, t, _, _, _, rfl, rfl, SqL.of upd_same, at3, _, _, rfl, rfl, .inl ⟨by decide, by decide⟩, _, _, rfl, rfl, _, _, rfl, rfl, ?_⟩⟩
        refine ⟨_, rfl, .inl ⟨_, rfl, _, _, rfl, rfl, (show (0 : Int) < 2147483647 by decide), _, rfl, t, _, _, 0, rfl, rfl, upd_same, rfl, ?_⟩⟩
        generalize hw : (a % 2147483647 * 48271 + z % 2147483629 + 7 * (d + 1) + 11) = w'
        have e3 : upd (upd H t (.lst [.int a, .int 0, .int (c + 1), .int (d + 1)])) t (.lst ([V.int a, .int 0, .int (c + 1), .int (d + 1)].set 0 (.int (w' % 2147483647)))) = upd H t (.lst [.int (w' % 2147483647), .int 0, .int (c + 1), .int (d + 1)]) := upd_upd
        rw [e3]
        have hc := Int.emod_nonneg w' (b := 2147483647) (by decide)
        have hc2 := Int.emod_lt_of_pos w' (b := 2147483647) (by decide)
        refine ⟨_, rfl, t, _, _, _, rfl, rfl, SqL.of upd_same, at0, _, _, rfl, rfl, .inl ⟨by omega, by omega⟩, _, rfl, t, _, _, _, rfl, rfl, SqL.of upd_same, at3, _, _, rfl, rfl, .inl ⟨_, rfl, _, _, rfl, rfl, (show (0 : Int) < 2147483629 by decide), ?_⟩⟩
        refine ⟨_, rfl, _, _, rfl, rfl, ⟨by decide, by decide⟩, .inl ⟨_, rfl, _, rfl, _, _, rfl, rfl, by omega, ?_⟩⟩
        exact fin _ _ But.refl.upd D.upd
end

open TL (tl)
def spLaw (K : PySem.W.Frag) : Sp := fun vs H Q _ => ∃ (a : Addr) (ns : List Int), vs = [.ref a] ∧ SqL K H a (ns.map V.int) ∧ ns.length ≤ 63 ∧ ∀ H', Q (.bl true) H'
def fieldsOf (k : Nat) (v : Nat → V) : Option (List (Str × V)) := match k with
  | 0 => some [("value", v 1), ("what", v 0)]
  | 1 => some [("place", v 1)]
  | 2 => some [("write", v 4), ("read", v 3)]
  | 3 => some [("reason", v 2), ("place", v 1)]
  | 4 => some [("member", v 1), ("lot", v 3)]
  | 5 => some [("line", v 1)]
  | 6 => some [("place", v 1)]
  | 7 => some [("limit", v 1)]
  | _ => none
section
variable {P : Program} {w : World} {K : PySem.W.Frag} {mg : Str → Option Value} {base : Heap}
def clsOf (T : Ctx K mg) (k : Nat) : Addr := match k with
  | 0 => T.c_BadNumber
  | 1 => T.c_BadLot
  | 2 => T.c_NoMeeting
  | 3 => T.c_BadTrade
  | 4 => T.c_BadFlow
  | 5 => T.c_BadText
  | 6 => T.c_BadDeed
  | 7 => T.c_TooMany
  | 8 => T.c_Unlike
  | _ => T.c_NothingToUndo
theorem ok_BadNumber_init (T : Ctx K mg) : FnOk P w K mg base CX0 1 T.f_BadNumber_init T.fd_BadNumber_init ["self", "what", "value"] (spX2 T.c_BadNumber "what" "value") := by
  refine T.F_BadNumber_init.ok sc_BadNumber_init (fun vs H Q E h => ?_) (fun cdv A outer s H vs Q E hr h => ?_)
  · obtain ⟨a, x, y, rfl, _⟩ := h
    rfl
  · obtain ⟨a, x, y, rfl, ha, q⟩ := h
    refine ⟨_, (pss_cons (ps_ost (pv 0) (pv 1))
      (pss_one (ps_ost (pv 0) (pv 2)))), ?_⟩
    refine ⟨_, rfl, _, rfl, a, T.c_BadNumber, rfl, T.ox_BadNumber, T.n_BadNumber_what, .inl ⟨ha, fun d hd hda => ?_⟩⟩
    refine ⟨_, rfl, _, rfl, a, T.c_BadNumber, rfl, T.ox_BadNumber, T.n_BadNumber_value, .inr ⟨d, [("what", x)], upd_same, ?_, by show 1 ≤ 900; decide, ?_⟩⟩
    · rw [upd_ne hda, upd_same]
    · exact q d hd hda
theorem ok_BadLot_init (T : Ctx K mg) : FnOk P w K mg base CX0 1 T.f_BadLot_init T.fd_BadLot_init ["self", "place"] (spX1 T.c_BadLot "place") := by
  refine T.F_BadLot_init.ok sc_BadLot_init (fun vs H Q E h => ?_) (fun cdv A outer s H vs Q E hr h => ?_)
  · obtain ⟨a, x, rfl, _⟩ := h
    rfl
  · obtain ⟨a, x, rfl, ha, q⟩ := h
    refine ⟨_, (pss_one (ps_ost (pv 0) (pv 1))), ?_⟩
    exact ⟨_, rfl, _, rfl, a, T.c_BadLot, rfl, T.ox_BadLot, T.n_BadLot_place, .inl ⟨ha, fun d hd hda => q d hd hda⟩⟩
theorem ok_NoMeeting_init (T : Ctx K mg) : FnOk P w K mg base CX0 1 T.f_NoMeeting_init T.fd_NoMeeting_init ["self", "read", "write"] (spX2 T.c_NoMeeting "read" "write") := by
  refine T.F_NoMeeting_init.ok sc_NoMeeting_init (fun vs H Q E h => ?_) (fun cdv A outer s H vs Q E hr h => ?_)
  · obtain ⟨a, x, y, rfl, _⟩ := h
    rfl
  · obtain ⟨a, x, y, rfl, ha, q⟩ := h
    refine ⟨_, (pss_cons (ps_ost (pv 0) (pv 1))
      (pss_one (ps_ost (pv 0) (pv 2)))), ?_⟩
    refine ⟨_, rfl, _, rfl, a, T.c_NoMeeting, rfl, T.ox_NoMeeting, T.n_NoMeeting_read, .inl ⟨ha, fun d hd hda => ?_⟩⟩
    refine ⟨_, rfl, _, rfl, a, T.c_NoMeeting, rfl, T.ox_NoMeeting, T.n_NoMeeting_write, .inr ⟨d, [("read", x)], upd_same, ?_, by show 1 ≤ 900; decide, ?_⟩⟩
    · rw [upd_ne hda, upd_same]
    · exact q d hd hda
theorem ok_BadTrade_init (T : Ctx K mg) : FnOk P w K mg base CX0 1 T.f_BadTrade_init T.fd_BadTrade_init ["self", "place", "reason"] (spX2 T.c_BadTrade "place" "reason") := by
  refine T.F_BadTrade_init.ok sc_BadTrade_init (fun vs H Q E h => ?_) (fun cdv A outer s H vs Q E hr h => ?_)
  · obtain ⟨a, x, y, rfl, _⟩ := h
    rfl
  · obtain ⟨a, x, y, rfl, ha, q⟩ := h
    refine ⟨_, (pss_cons (ps_ost (pv 0) (pv 1))
      (pss_one (ps_ost (pv 0) (pv 2)))), ?_⟩
    refine ⟨_, rfl, _, rfl, a, T.c_BadTrade, rfl, T.ox_BadTrade, T.n_BadTrade_place, .inl ⟨ha, fun d hd hda => ?_⟩⟩
    refine ⟨_, rfl, _, rfl, a, T.c_BadTrade, rfl, T.ox_BadTrade, T.n_BadTrade_reason, .inr ⟨d, [("place", x)], upd_same, ?_, by show 1 ≤ 900; decide, ?_⟩⟩
    · rw [upd_ne hda, upd_same]
    · exact q d hd hda
theorem ok_BadFlow_init (T : Ctx K mg) : FnOk P w K mg base CX0 1 T.f_BadFlow_init T.fd_BadFlow_init ["self", "lot", "member"] (spX2 T.c_BadFlow "lot" "member") := by
  refine T.F_BadFlow_init.ok sc_BadFlow_init (fun vs H Q E h => ?_) (fun cdv A outer s H vs Q E hr h => ?_)
  · obtain ⟨a, x, y, rfl, _⟩ := h
    rfl
  · obtain ⟨a, x, y, rfl, ha, q⟩ := h
    refine ⟨_, (pss_cons (ps_ost (pv 0) (pv 1))
      (pss_one (ps_ost (pv 0) (pv 2)))), ?_⟩
    refine ⟨_, rfl, _, rfl, a, T.c_BadFlow, rfl, T.ox_BadFlow, T.n_BadFlow_lot, .inl ⟨ha, fun d hd hda => ?_⟩⟩
    refine ⟨_, rfl, _, rfl, a, T.c_BadFlow, rfl, T.ox_BadFlow, T.n_BadFlow_member, .inr ⟨d, [("lot", x)], upd_same, ?_, by show 1 ≤ 900; decide, ?_⟩⟩
    · rw [upd_ne hda, upd_same]
    · exact q d hd hda
theorem ok_BadText_init (T : Ctx K mg) : FnOk P w K mg base CX0 1 T.f_BadText_init T.fd_BadText_init ["self", "line"] (spX1 T.c_BadText "line") := by
  refine T.F_BadText_init.ok sc_BadText_init (fun vs H Q E h => ?_) (fun cdv A outer s H vs Q E hr h => ?_)
  · obtain ⟨a, x, rfl, _⟩ := h
    rfl
  · obtain ⟨a, x, rfl, ha, q⟩ := h
    refine ⟨_, (pss_one (ps_ost (pv 0) (pv 1))), ?_⟩
    exact ⟨_, rfl, _, rfl, a, T.c_BadText, rfl, T.ox_BadText, T.n_BadText_line, .inl ⟨ha, fun d hd hda => q d hd hda⟩⟩
theorem ok_BadDeed_init (T : Ctx K mg) : FnOk P w K mg base CX0 1 T.f_BadDeed_init T.fd_BadDeed_init ["self", "place"] (spX1 T.c_BadDeed "place") := by
  refine T.F_BadDeed_init.ok sc_BadDeed_init (fun vs H Q E h => ?_) (fun cdv A outer s H vs Q E hr h => ?_)
  · obtain ⟨a, x, rfl, _⟩ := h
    rfl
  · obtain ⟨a, x, rfl, ha, q⟩ := h
    refine ⟨_, (pss_one (ps_ost (pv 0) (pv 1))), ?_⟩
    exact ⟨_, rfl, _, rfl, a, T.c_BadDeed, rfl, T.ox_BadDeed, T.n_BadDeed_place, .inl ⟨ha, fun d hd hda => q d hd hda⟩⟩
theorem ok_TooMany_init (T : Ctx K mg) : FnOk P w K mg base CX0 1 T.f_TooMany_init T.fd_TooMany_init ["self", "limit"] (spX1 T.c_TooMany "limit") := by
  refine T.F_TooMany_init.ok sc_TooMany_init (fun vs H Q E h => ?_) (fun cdv A outer s H vs Q E hr h => ?_)
  · obtain ⟨a, x, rfl, _⟩ := h
    rfl
  · obtain ⟨a, x, rfl, ha, q⟩ := h
    refine ⟨_, (pss_one (ps_ost (pv 0) (pv 1))), ?_⟩
    exact ⟨_, rfl, _, rfl, a, T.c_TooMany, rfl, T.ox_TooMany, T.n_TooMany_limit, .inl ⟨ha, fun d hd hda => q d hd hda⟩⟩
/-- the values at va -/
def At5 (H : Hp) (va : Addr) (v : Nat → V) : Prop := H va = some (.tup [v 0, v 1, v 2, v 3, v 4])
def spThrow (T : Ctx K mg) : Sp := fun vs H Q E => ∃ (k : Nat) (va : Addr) (v : Nat → V), vs = [.int (k : Nat), .ref va] ∧ k < 10 ∧ At5 H va v ∧
  (∀ fs, fieldsOf k v = some fs → ∀ d H', H d = none → Same H H' → H' d = some (.xd fs) → E (.ref (clsOf T k)) (some d) H') ∧ (fieldsOf k v = none → E (.ref (clsOf T k)) none H)
theorem ok_l_throw (T : Ctx K mg) : FnOk P w K mg base (L2.CX P w) 3 T.f_l_throw T.fd_l_throw ["_law_kind", "_law_values_here"] (spThrow T) := by
  refine T.F_l_throw.okX sc_l_throw (fun vs H Q E h => ?_) (fun cdv A outer s H vs Q E hr h => ?_)
  · obtain ⟨k, va, v, rfl, _⟩ := h
    rfl
  · obtain ⟨k, va, v, rfl, hk, hv, h1, h2⟩ := h
    refine ⟨_, (pss_cons (ps_if (pt_cmpR op_eq (pv 0) pe_int (nomark _))
        (pss_one (ps_raise rfl (takes_of rfl rfl rfl rfl) (pmk_oex T.ox_BadNumber T.xn_BadNumber T.xt_BadNumber (ok_BadNumber_init T) (hr.mono (by decide)) T.b_BadNumber_init .nil pass0 (by rfl) T.gc_BadNumber (pa_cons (pe_ix ix_tup (pv 1) pe_int (fun _ _ => rfl)) (pa_cons (pe_ix ix_tup (pv 1) pe_int (fun _ _ => rfl)) pa_nil)))))
        pss_nil)
      (pss_cons (ps_if (pt_cmpR op_eq (pv 0) pe_int (nomark _))
        (pss_one (ps_raise rfl (takes_of rfl rfl rfl rfl) (pmk_oex T.ox_BadLot T.xn_BadLot T.xt_BadLot (ok_BadLot_init T) (hr.mono (by decide)) T.b_BadLot_init .nil pass0 (by rfl) T.gc_BadLot (pa_cons (pe_ix ix_tup (pv 1) pe_int (fun _ _ => rfl)) pa_nil))))
        pss_nil)
      (pss_cons (ps_if (pt_cmpR op_eq (pv 0) pe_int (nomark _))
        (pss_one (ps_raise rfl (takes_of rfl rfl rfl rfl) (pmk_oex T.ox_NoMeeting T.xn_NoMeeting T.xt_NoMeeting (ok_NoMeeting_init T) (hr.mono (by decide)) T.b_NoMeeting_init .nil pass0 (by rfl) T.gc_NoMeeting (pa_cons (pe_ix ix_tup (pv 1) pe_int (fun _ _ => rfl)) (pa_cons (pe_ix ix_tup (pv 1) pe_int (fun _ _ => rfl)) pa_nil)))))
        pss_nil)
      (pss_cons (ps_if (pt_cmpR op_eq (pv 0) pe_int (nomark _))
        (pss_one (ps_raise rfl (takes_of rfl rfl rfl rfl) (pmk_oex T.ox_BadTrade T.xn_BadTrade T.xt_BadTrade (ok_BadTrade_init T) (hr.mono (by decide)) T.b_BadTrade_init .nil pass0 (by rfl) T.gc_BadTrade (pa_cons (pe_ix ix_tup (pv 1) pe_int (fun _ _ => rfl)) (pa_cons (pe_ix ix_tup (pv 1) pe_int (fun _ _ => rfl)) pa_nil)))))
        pss_nil)
      (pss_cons (ps_if (pt_cmpR op_eq (pv 0) pe_int (nomark _))
        (pss_one (ps_raise rfl (takes_of rfl rfl rfl rfl) (pmk_oex T.ox_BadFlow T.xn_BadFlow T.xt_BadFlow (ok_BadFlow_init T) (hr.mono (by decide)) T.b_BadFlow_init .nil pass0 (by rfl) T.gc_BadFlow (pa_cons (pe_ix ix_tup (pv 1) pe_int (fun _ _ => rfl)) (pa_cons (pe_ix ix_tup (pv 1) pe_int (fun _ _ => rfl)) pa_nil)))))
        pss_nil)
      (pss_cons (ps_if (pt_cmpR op_eq (pv 0) pe_int (nomark _))
        (pss_one (ps_raise rfl (takes_of rfl rfl rfl rfl) (pmk_oex T.ox_BadText T.xn_BadText T.xt_BadText (ok_BadText_init T) (hr.mono (by decide)) T.b_BadText_init .nil pass0 (by rfl) T.gc_BadText (pa_cons (pe_ix ix_tup (pv 1) pe_int (fun _ _ => rfl)) pa_nil))))
        pss_nil)
      (pss_cons (ps_if (pt_cmpR op_eq (pv 0) pe_int (nomark _))
        (pss_one (ps_raise rfl (takes_of rfl rfl rfl rfl) (pmk_oex T.ox_BadDeed T.xn_BadDeed T.xt_BadDeed (ok_BadDeed_init T) (hr.mono (by decide)) T.b_BadDeed_init .nil pass0 (by rfl) T.gc_BadDeed (pa_cons (pe_ix ix_tup (pv 1) pe_int (fun _ _ => rfl)) pa_nil))))
        pss_nil)
      (pss_cons (ps_if (pt_cmpR op_eq (pv 0) pe_int (nomark _))
        (pss_one (ps_raise rfl (takes_of rfl rfl rfl rfl) (pmk_oex T.ox_TooMany T.xn_TooMany T.xt_TooMany (ok_TooMany_init T) (hr.mono (by decide)) T.b_TooMany_init .nil pass0 (by rfl) T.gc_TooMany (pa_cons (pe_ix ix_tup (pv 1) pe_int (fun _ _ => rfl)) pa_nil))))
        pss_nil)
      (pss_cons (ps_if (pt_cmpR op_eq (pv 0) pe_int (nomark _))
        (pss_one (ps_raise rfl (takes_of rfl rfl rfl rfl) (pmk_own0 T.e0_Unlike T.gc_Unlike (by rfl))))
        pss_nil)
      (pss_one (ps_raise rfl (takes_of rfl rfl rfl rfl) (pmk_own0 T.e0_NothingToUndo T.gc_NothingToUndo (by rfl))))))))))))), ?_⟩
    have hv' : H va = some (.tup [v 0, v 1, v 2, v 3, v 4]) := hv
    have cases10 : k = 0 ∨ k = 1 ∨ k = 2 ∨ k = 3 ∨ k = 4 ∨ k = 5 ∨ k = 6 ∨ k = 7 ∨ k = 8 ∨ k = 9 := by omega
    rcases cases10 with rfl | rfl | rfl | rfl | rfl | rfl | rfl | rfl | rfl | rfl
    · exact ⟨_, rfl, rfl, _, rfl, iteT ⟨_, rfl, va, _, _, _, rfl, rfl, .inl (.inl hv'), (rfl : atI [v 0, v 1, v 2, v 3, v 4] 0 = some (v 0)), _, rfl, va, _, _, _, rfl, rfl, .inl (.inl hv'), (rfl : atI [v 0, v 1, v 2, v 3, v 4] 1 = some (v 1)), mk2 (h1 _ rfl)⟩⟩
    · exact ⟨_, rfl, rfl, _, rfl, iteF ⟨_, rfl, rfl, _, rfl, iteT ⟨_, rfl, va, _, _, _, rfl, rfl, .inl (.inl hv'), (rfl : atI [v 0, v 1, v 2, v 3, v 4] 1 = some (v 1)), mk1 (h1 _ rfl)⟩⟩⟩
    · exact ⟨_, rfl, rfl, _, rfl, iteF ⟨_, rfl, rfl, _, rfl, iteF ⟨_, rfl, rfl, _, rfl, iteT ⟨_, rfl, va, _, _, _, rfl, rfl, .inl (.inl hv'), (rfl : atI [v 0, v 1, v 2, v 3, v 4] 3 = some (v 3)), _, rfl, va, _, _, _, rfl, rfl, .inl (.inl hv'), (rfl : atI [v 0, v 1, v 2, v 3, v 4] 4 = some (v 4)), mk2 (h1 _ rfl)⟩⟩⟩⟩
    · exact ⟨_, rfl, rfl, _, rfl, iteF ⟨_, rfl, rfl, _, rfl, iteF ⟨_, rfl, rfl, _, rfl, iteF ⟨_, rfl, rfl, _, rfl, iteT ⟨_, rfl, va, _, _, _, rfl, rfl, .inl (.inl hv'), (rfl : atI [v 0, v 1, v 2, v 3, v 4] 1 = some (v 1)), _, rfl, va, _, _, _, rfl, rfl, .inl (.inl hv'), (rfl : atI [v 0, v 1, v 2, v 3, v 4] 2 = some (v 2)), mk2 (h1 _ rfl)⟩⟩⟩⟩⟩
    · exact ⟨_, rfl, rfl, _, rfl, iteF ⟨_, rfl, rfl, _, rfl, iteF ⟨_, rfl, rfl, _, rfl, iteF ⟨_, rfl, rfl, _, rfl, iteF ⟨_, rfl, rfl, _, rfl, iteT ⟨_, rfl, va, _, _, _, rfl, rfl, .inl (.inl hv'), (rfl : atI [v 0, v 1, v 2, v 3, v 4] 3 = some (v 3)), _, rfl, va, _, _, _, rfl, rfl, .inl (.inl hv'), (rfl : atI [v 0, v 1, v 2, v 3, v 4] 1 = some (v 1)), mk2 (h1 _ rfl)⟩⟩⟩⟩⟩⟩
    · exact ⟨_, rfl, rfl, _, rfl, iteF ⟨_, rfl, rfl, _, rfl, iteF ⟨_, rfl, rfl, _, rfl, iteF ⟨_, rfl, rfl, _, rfl, iteF ⟨_, rfl, rfl, _, rfl, iteF ⟨_, rfl, rfl, _, rfl, iteT ⟨_, rfl, va, _, _, _, rfl, rfl, .inl (.inl hv'), (rfl : atI [v 0, v 1, v 2, v 3, v 4] 1 = some (v 1)), mk1 (h1 _ rfl)⟩⟩⟩⟩⟩⟩⟩
    · exact ⟨_, rfl, rfl, _, rfl, iteF ⟨_, rfl, rfl, _, rfl, iteF ⟨_, rfl, rfl, _, rfl, iteF ⟨_, rfl, rfl, _, rfl, iteF ⟨_, rfl, rfl, _, rfl, iteF ⟨_, rfl, rfl, _, rfl, iteF ⟨_, rfl, rfl, _, rfl, iteT ⟨_, rfl, va, _, _, _, rfl, rfl, .inl (.inl hv'), (rfl : atI [v 0, v 1, v 2, v 3, v 4] 1 = some (v 1)), mk1 (h1 _ rfl)⟩⟩⟩⟩⟩⟩⟩⟩
    · exact ⟨_, rfl, rfl, _, rfl, iteF ⟨_, rfl, rfl, _, rfl, iteF ⟨_, rfl, rfl, _, rfl, iteF ⟨_, rfl, rfl, _, rfl, iteF ⟨_, rfl, rfl, _, rfl, iteF ⟨_, rfl, rfl, _, rfl, iteF ⟨_, rfl, rfl, _, rfl, iteF ⟨_, rfl, rfl, _, rfl, iteT ⟨_, rfl, va, _, _, _, rfl, rfl, .inl (.inl hv'), (rfl : atI [v 0, v 1, v 2, v 3, v 4] 1 = some (v 1)), mk1 (h1 _ rfl)⟩⟩⟩⟩⟩⟩⟩⟩⟩
    · exact ⟨_, rfl, rfl, _, rfl, iteF ⟨_, rfl, rfl, _, rfl, iteF ⟨_, rfl, rfl, _, rfl, iteF ⟨_, rfl, rfl, _, rfl, iteF ⟨_, rfl, rfl, _, rfl, iteF ⟨_, rfl, rfl, _, rfl, iteF ⟨_, rfl, rfl, _, rfl, iteF ⟨_, rfl, rfl, _, rfl, iteF ⟨_, rfl, rfl, _, rfl, iteT (h2 rfl)⟩⟩⟩⟩⟩⟩⟩⟩⟩
    · exact ⟨_, rfl, rfl, _, rfl, iteF ⟨_, rfl, rfl, _, rfl, iteF ⟨_, rfl, rfl, _, rfl, iteF ⟨_, rfl, rfl, _, rfl, iteF ⟨_, rfl, rfl, _, rfl, iteF ⟨_, rfl, rfl, _, rfl, iteF ⟨_, rfl, rfl, _, rfl, iteF ⟨_, rfl, rfl, _, rfl, iteF ⟨_, rfl, rfl, _, rfl, iteF (h2 rfl)⟩⟩⟩⟩⟩⟩⟩⟩⟩
/-- r is the error of kind k, kept -/
def KeptIs (T : Ctx K mg) (H : Hp) (r : V) (k : Nat) (v : Nat → V) : Prop := ∃ (p : Addr) (dd : Option Addr), r = .ref p ∧ H p = some (Kept (.ref (clsOf T k)) dd p) ∧ (∀ fs, fieldsOf k v = some fs → ∃ d, dd = some d ∧ H d = some (.xd fs)) ∧ (fieldsOf k v = none → dd = none)
theorem KeptIs.same {T : Ctx K mg} {H H' : Hp} {r : V} {k : Nat} {v : Nat → V} (h : KeptIs T H r k v) (e : Same H H') : KeptIs T H' r k v := by
  obtain ⟨p, dd, rfl, h1, h2, h3⟩ := h
  refine ⟨p, dd, rfl, e _ _ h1, fun fs hf => ?_, h3⟩
  obtain ⟨d, rfl, hd⟩ := h2 fs hf
  exact ⟨d, rfl, e _ _ hd⟩
def spCaught (T : Ctx K mg) : Sp := fun vs H Q _ => ∃ (k : Nat) (va : Addr) (v : Nat → V), vs = [.int (k : Nat), .ref va] ∧ k < 10 ∧ At5 H va v ∧ ∀ r H', Same H H' → KeptIs T H' r k v → Q r H'
theorem catches (T : Ctx K mg) (k : Nat) (hk : k < 10) : PySem.W.exmOne K (.ref (clsOf T k)) (.ref T.c_VoteError) = some true := by
  have cases10 : k = 0 ∨ k = 1 ∨ k = 2 ∨ k = 3 ∨ k = 4 ∨ k = 5 ∨ k = 6 ∨ k = 7 ∨ k = 8 ∨ k = 9 := by omega
  rcases cases10 with rfl | rfl | rfl | rfl | rfl | rfl | rfl | rfl | rfl | rfl
  · exact T.ex_BadNumber_VoteError
  · exact T.ex_BadLot_VoteError
  · exact T.ex_NoMeeting_VoteError
  · exact T.ex_BadTrade_VoteError
  · exact T.ex_BadFlow_VoteError
  · exact T.ex_BadText_VoteError
  · exact T.ex_BadDeed_VoteError
  · exact T.ex_TooMany_VoteError
  · exact T.ex_Unlike_VoteError
  · exact T.ex_NothingToUndo_VoteError
theorem ok_l_caught (T : Ctx K mg) : FnOk P w K mg base CX0 4 T.f_l_caught T.fd_l_caught ["_law_kind", "_law_values_here"] (spCaught T) := by
  refine T.F_l_caught.ok sc_l_caught (fun vs H Q E h => ?_) (fun cdv A outer s H vs Q E hr h => ?_)
  · obtain ⟨k, va, v, rfl, _⟩ := h
    rfl
  · obtain ⟨k, va, v, rfl, hk, hv, q⟩ := h
    refine ⟨_, (pss_cons (ps_set (i := 2) sc_l_caught.nd rfl (Or.inl rfl) pe_non)
      (pss_cons (ps_try_keep (ix := 3) rfl rfl rfl sc_l_caught.nd rfl rfl ⟨rfl, by decide, Or.inl T.gc_VoteError⟩
        (fun W pn xe tk po => (pss_one (ps_expr (pe_callS (ok_l_throw T) (hr.mono (by decide)) rfl T.g_l_throw T.F_l_throw.kp T.b_l_throw (fun σ => passAt tk σ) (pa_cons (pv 0) (pa_cons (pv 1) pa_nil))))))
        (fun a oe cls d pn hz hf => (pss_one (ps_set (i := 2) sc_l_caught.nd rfl (Or.inl rfl) (pv 3)))))
      (pss_one (ps_ret (pv 2))))), ?_⟩
    refine ⟨_, rfl, _, rfl, k, va, v, rfl, hk, hv, fun fs hf d H' nd sm hx => ?_, fun hf => ?_⟩
    · refine ⟨catches T k hk, fun p np => ⟨_, rfl, ?_⟩⟩
      have ne : d ≠ p := ne_of_none hx np
      refine ⟨_, rfl, q _ _ (same_upd2 sm (sm.free np)) ⟨p, some d, rfl, upd_same, fun fs' hf' => ?_, fun z => ?_⟩⟩
      · rw [hf] at hf'
        cases hf'
        exact ⟨d, rfl, (upd_ne ne).trans hx⟩
      · rw [hf] at z
        cases z
    · refine ⟨catches T k hk, fun p np => ⟨_, rfl, ?_⟩⟩
      refine ⟨_, rfl, q _ _ (same_upd np) ⟨p, none, rfl, upd_same, fun fs' hf' => ?_, fun _ => rfl⟩⟩
      rw [hf] at hf'
      cases hf'

theorem xiOf (T : Ctx K mg) (k : Nat) (hk : k < 10) : XiC K (clsOf T k) := by
  have t : k = 0 ∨ k = 1 ∨ k = 2 ∨ k = 3 ∨ k = 4 ∨ k = 5 ∨ k = 6 ∨ k = 7 ∨ k = 8 ∨ k = 9 := by omega
  rcases t with rfl | rfl | rfl | rfl | rfl | rfl | rfl | rfl | rfl | rfl
  · exact T.xi_BadNumber
  · exact T.xi_BadLot
  · exact T.xi_NoMeeting
  · exact T.xi_BadTrade
  · exact T.xi_BadFlow
  · exact T.xi_BadText
  · exact T.xi_BadDeed
  · exact T.xi_TooMany
  · exact T.xi_Unlike
  · exact T.xi_NothingToUndo
theorem kitOf (T : Ctx K mg) (k j : Nat) (hk : k < 10) (hj : j < 10) : PySem.W.kitOne K (.ref (clsOf T k)) (.ref (clsOf T j)) = some (decide (k = j)) := by
  have t : k = 0 ∨ k = 1 ∨ k = 2 ∨ k = 3 ∨ k = 4 ∨ k = 5 ∨ k = 6 ∨ k = 7 ∨ k = 8 ∨ k = 9 := by omega
  have u : j = 0 ∨ j = 1 ∨ j = 2 ∨ j = 3 ∨ j = 4 ∨ j = 5 ∨ j = 6 ∨ j = 7 ∨ j = 8 ∨ j = 9 := by omega
  rcases t with rfl | rfl | rfl | rfl | rfl | rfl | rfl | rfl | rfl | rfl
  · rcases u with rfl | rfl | rfl | rfl | rfl | rfl | rfl | rfl | rfl | rfl
    · exact T.ki_BadNumber_BadNumber
    · exact T.ki_BadNumber_BadLot
    · exact T.ki_BadNumber_NoMeeting
    · exact T.ki_BadNumber_BadTrade
    · exact T.ki_BadNumber_BadFlow
    · exact T.ki_BadNumber_BadText
    · exact T.ki_BadNumber_BadDeed
    · exact T.ki_BadNumber_TooMany
    · exact T.ki_BadNumber_Unlike
    · exact T.ki_BadNumber_NothingToUndo
  · rcases u with rfl | rfl | rfl | rfl | rfl | rfl | rfl | rfl | rfl | rfl
    · exact T.ki_BadLot_BadNumber
    · exact T.ki_BadLot_BadLot
    · exact T.ki_BadLot_NoMeeting
    · exact T.ki_BadLot_BadTrade
    · exact T.ki_BadLot_BadFlow
    · exact T.ki_BadLot_BadText
    · exact T.ki_BadLot_BadDeed
    · exact T.ki_BadLot_TooMany
    · exact T.ki_BadLot_Unlike
    · exact T.ki_BadLot_NothingToUndo
  · rcases u with rfl | rfl | rfl | rfl | rfl | rfl | rfl | rfl | rfl | rfl
    · exact T.ki_NoMeeting_BadNumber
    · exact T.ki_NoMeeting_BadLot
    · exact T.ki_NoMeeting_NoMeeting
    · exact T.ki_NoMeeting_BadTrade
    · exact T.ki_NoMeeting_BadFlow
    · exact T.ki_NoMeeting_BadText
    · exact T.ki_NoMeeting_BadDeed
    · exact T.ki_NoMeeting_TooMany
    · exact T.ki_NoMeeting_Unlike
    · exact T.ki_NoMeeting_NothingToUndo
  · rcases u with rfl | rfl | rfl | rfl | rfl | rfl | rfl | rfl | rfl | rfl
    · exact T.ki_BadTrade_BadNumber
    · exact T.ki_BadTrade_BadLot
    · exact T.ki_BadTrade_NoMeeting
    · exact T.ki_BadTrade_BadTrade
    · exact T.ki_BadTrade_BadFlow
    · exact T.ki_BadTrade_BadText
    · exact T.ki_BadTrade_BadDeed
    · exact T.ki_BadTrade_TooMany
    · exact T.ki_BadTrade_Unlike
    · exact T.ki_BadTrade_NothingToUndo
  · rcases u with rfl | rfl | rfl | rfl | rfl | rfl | rfl | rfl | rfl | rfl
    · exact T.ki_BadFlow_BadNumber
    · exact T.ki_BadFlow_BadLot
    · exact T.ki_BadFlow_NoMeeting
    · exact T.ki_BadFlow_BadTrade
    · exact T.ki_BadFlow_BadFlow
    · exact T.ki_BadFlow_BadText
    · exact T.ki_BadFlow_BadDeed
    · exact T.ki_BadFlow_TooMany
    · exact T.ki_BadFlow_Unlike
    · exact T.ki_BadFlow_NothingToUndo
  · rcases u with rfl | rfl | rfl | rfl | rfl | rfl | rfl | rfl | rfl | rfl
    · exact T.ki_BadText_BadNumber
    · exact T.ki_BadText_BadLot
    · exact T.ki_BadText_NoMeeting
    · exact T.ki_BadText_BadTrade
    · exact T.ki_BadText_BadFlow
    · exact T.ki_BadText_BadText
    · exact T.ki_BadText_BadDeed
    · exact T.ki_BadText_TooMany
    · exact T.ki_BadText_Unlike
    · exact T.ki_BadText_NothingToUndo
  · rcases u with rfl | rfl | rfl | rfl | rfl | rfl | rfl | rfl | rfl | rfl
    · exact T.ki_BadDeed_BadNumber
    · exact T.ki_BadDeed_BadLot
    · exact T.ki_BadDeed_NoMeeting
    · exact T.ki_BadDeed_BadTrade
    · exact T.ki_BadDeed_BadFlow
    · exact T.ki_BadDeed_BadText
    · exact T.ki_BadDeed_BadDeed
    · exact T.ki_BadDeed_TooMany
    · exact T.ki_BadDeed_Unlike
    · exact T.ki_BadDeed_NothingToUndo
  · rcases u with rfl | rfl | rfl | rfl | rfl | rfl | rfl | rfl | rfl | rfl
    · exact T.ki_TooMany_BadNumber
    · exact T.ki_TooMany_BadLot
    · exact T.ki_TooMany_NoMeeting
    · exact T.ki_TooMany_BadTrade
    · exact T.ki_TooMany_BadFlow
    · exact T.ki_TooMany_BadText
    · exact T.ki_TooMany_BadDeed
    · exact T.ki_TooMany_TooMany
    · exact T.ki_TooMany_Unlike
    · exact T.ki_TooMany_NothingToUndo
  · rcases u with rfl | rfl | rfl | rfl | rfl | rfl | rfl | rfl | rfl | rfl
    · exact T.ki_Unlike_BadNumber
    · exact T.ki_Unlike_BadLot
    · exact T.ki_Unlike_NoMeeting
    · exact T.ki_Unlike_BadTrade
    · exact T.ki_Unlike_BadFlow
    · exact T.ki_Unlike_BadText
    · exact T.ki_Unlike_BadDeed
    · exact T.ki_Unlike_TooMany
    · exact T.ki_Unlike_Unlike
    · exact T.ki_Unlike_NothingToUndo
  · rcases u with rfl | rfl | rfl | rfl | rfl | rfl | rfl | rfl | rfl | rfl
    · exact T.ki_NothingToUndo_BadNumber
    · exact T.ki_NothingToUndo_BadLot
    · exact T.ki_NothingToUndo_NoMeeting
    · exact T.ki_NothingToUndo_BadTrade
    · exact T.ki_NothingToUndo_BadFlow
    · exact T.ki_NothingToUndo_BadText
    · exact T.ki_NothingToUndo_BadDeed
    · exact T.ki_NothingToUndo_TooMany
    · exact T.ki_NothingToUndo_Unlike
    · exact T.ki_NothingToUndo_NothingToUndo
theorem kitVoteError (T : Ctx K mg) (k : Nat) (hk : k < 10) : PySem.W.kitOne K (.ref (clsOf T k)) (.ref T.c_VoteError) = some true := by
  have t : k = 0 ∨ k = 1 ∨ k = 2 ∨ k = 3 ∨ k = 4 ∨ k = 5 ∨ k = 6 ∨ k = 7 ∨ k = 8 ∨ k = 9 := by omega
  rcases t with rfl | rfl | rfl | rfl | rfl | rfl | rfl | rfl | rfl | rfl
  · exact T.ki_BadNumber_VoteError
  · exact T.ki_BadLot_VoteError
  · exact T.ki_NoMeeting_VoteError
  · exact T.ki_BadTrade_VoteError
  · exact T.ki_BadFlow_VoteError
  · exact T.ki_BadText_VoteError
  · exact T.ki_BadDeed_VoteError
  · exact T.ki_TooMany_VoteError
  · exact T.ki_Unlike_VoteError
  · exact T.ki_NothingToUndo_VoteError
theorem kitValueError (T : Ctx K mg) (k : Nat) (hk : k < 10) : PySem.W.kitOne K (.ref (clsOf T k)) (.type "ValueError") = some true := by
  have t : k = 0 ∨ k = 1 ∨ k = 2 ∨ k = 3 ∨ k = 4 ∨ k = 5 ∨ k = 6 ∨ k = 7 ∨ k = 8 ∨ k = 9 := by omega
  rcases t with rfl | rfl | rfl | rfl | rfl | rfl | rfl | rfl | rfl | rfl
  · exact T.ki_BadNumber_ValueError
  · exact T.ki_BadLot_ValueError
  · exact T.ki_NoMeeting_ValueError
  · exact T.ki_BadTrade_ValueError
  · exact T.ki_BadFlow_ValueError
  · exact T.ki_BadText_ValueError
  · exact T.ki_BadDeed_ValueError
  · exact T.ki_TooMany_ValueError
  · exact T.ki_Unlike_ValueError
  · exact T.ki_NothingToUndo_ValueError
/-- an error that is kept: what isinstance asks -/
def Kf (T : Ctx K mg) (k : Nat) (p : Addr) (dd : Option Addr) (H : Hp) : Prop := H p = some (Kept (.ref (clsOf T k)) dd p) ∧ ∀ d, dd = some d → ∃ fs, H d = some (.xd fs)
theorem Kf.same {T : Ctx K mg} {k : Nat} {p : Addr} {dd : Option Addr} {H H' : Hp} (h : Kf T k p dd H) (e : Same H H') : Kf T k p dd H' := ⟨e _ _ h.1, fun d hd => let ⟨fs, z⟩ := h.2 d hd; ⟨fs, e _ _ z⟩⟩
theorem KeptIs.kf {T : Ctx K mg} {H : Hp} {r : V} {k : Nat} {v : Nat → V} (h : KeptIs T H r k v) : ∃ p dd, r = .ref p ∧ Kf T k p dd H := by
  obtain ⟨p, dd, rfl, h1, h2, h3⟩ := h
  refine ⟨p, dd, rfl, h1, fun d e => ?_⟩
  cases hf : fieldsOf k v with
  | none =>
    rw [h3 hf] at e
    cases e
  | some fs =>
    obtain ⟨d', e', hd⟩ := h2 fs hf
    rw [e] at e'
    cases e'
    exact ⟨fs, hd⟩
def kb (k : Nat) : List V := [.bl (decide (k = 0)), .bl (decide (k = 1)), .bl (decide (k = 2)), .bl (decide (k = 3)), .bl (decide (k = 4)), .bl (decide (k = 5)), .bl (decide (k = 6)), .bl (decide (k = 7)), .bl (decide (k = 8)), .bl (decide (k = 9))]
theorem kb_at (k : Nat) {i : Nat} (h : i < 10) : (kb k)[i]? = some (.bl (decide (k = i))) := by
  have t : i = 0 ∨ i = 1 ∨ i = 2 ∨ i = 3 ∨ i = 4 ∨ i = 5 ∨ i = 6 ∨ i = 7 ∨ i = 8 ∨ i = 9 := by omega
  rcases t with rfl | rfl | rfl | rfl | rfl | rfl | rfl | rfl | rfl | rfl <;> rfl
def spKinds (T : Ctx K mg) : Sp := fun vs H Q _ => ∃ (r : V) (k : Nat) (v : Nat → V), vs = [r] ∧ k < 10 ∧ KeptIs T H r k v ∧ ∀ r' H', Same H H' → (∃ l, r' = .ref l ∧ H' l = some (.lst (kb k))) → Q r' H'
theorem ok_l_kinds (T : Ctx K mg) : FnOk P w K mg base CX0 1 T.f_l_kinds T.fd_l_kinds ["_law_fell"] (spKinds T) := by
  refine T.F_l_kinds.ok sc_l_kinds (fun vs H Q E h => ?_) (fun cdv A outer s H vs Q E hr h => ?_)
  · obtain ⟨r, k, v, rfl, _⟩ := h
    rfl
  · obtain ⟨r, k, v, rfl, hk, h, q⟩ := h
    refine ⟨_, (pss_cons (ps_set (i := 1) sc_l_kinds.nd rfl (Or.inl rfl) (pe_lst (pa_cons (pe_callB call_isK (by rfl) T.m_isinstance (by decide +kernel) (pa_cons (pv 0) (pa_cons (pe_glob (v := .ref T.c_BadNumber) (by rfl) T.gc_BadNumber rfl) pa_nil))) (pa_cons (pe_callB call_isK (by rfl) T.m_isinstance (by decide +kernel) (pa_cons (pv 0) (pa_cons (pe_glob (v := .ref T.c_BadLot) (by rfl) T.gc_BadLot rfl) pa_nil))) pa_nil))))
      (pss_cons (ps_set (i := 1) sc_l_kinds.nd rfl (Or.inl rfl) (pe_op op_cat (pv 1) (pe_lst (pa_cons (pe_callB call_isK (by rfl) T.m_isinstance (by decide +kernel) (pa_cons (pv 0) (pa_cons (pe_glob (v := .ref T.c_NoMeeting) (by rfl) T.gc_NoMeeting rfl) pa_nil))) (pa_cons (pe_callB call_isK (by rfl) T.m_isinstance (by decide +kernel) (pa_cons (pv 0) (pa_cons (pe_glob (v := .ref T.c_BadTrade) (by rfl) T.gc_BadTrade rfl) pa_nil))) pa_nil)))))
      (pss_cons (ps_set (i := 1) sc_l_kinds.nd rfl (Or.inl rfl) (pe_op op_cat (pv 1) (pe_lst (pa_cons (pe_callB call_isK (by rfl) T.m_isinstance (by decide +kernel) (pa_cons (pv 0) (pa_cons (pe_glob (v := .ref T.c_BadFlow) (by rfl) T.gc_BadFlow rfl) pa_nil))) (pa_cons (pe_callB call_isK (by rfl) T.m_isinstance (by decide +kernel) (pa_cons (pv 0) (pa_cons (pe_glob (v := .ref T.c_BadText) (by rfl) T.gc_BadText rfl) pa_nil))) (pa_cons (pe_callB call_isK (by rfl) T.m_isinstance (by decide +kernel) (pa_cons (pv 0) (pa_cons (pe_glob (v := .ref T.c_BadDeed) (by rfl) T.gc_BadDeed rfl) pa_nil))) pa_nil))))))
      (pss_one (ps_ret (pe_op op_cat (pv 1) (pe_lst (pa_cons (pe_callB call_isK (by rfl) T.m_isinstance (by decide +kernel) (pa_cons (pv 0) (pa_cons (pe_glob (v := .ref T.c_TooMany) (by rfl) T.gc_TooMany rfl) pa_nil))) (pa_cons (pe_callB call_isK (by rfl) T.m_isinstance (by decide +kernel) (pa_cons (pv 0) (pa_cons (pe_glob (v := .ref T.c_Unlike) (by rfl) T.gc_Unlike rfl) pa_nil))) (pa_cons (pe_callB call_isK (by rfl) T.m_isinstance (by decide +kernel) (pa_cons (pv 0) (pa_cons (pe_glob (v := .ref T.c_NothingToUndo) (by rfl) T.gc_NothingToUndo rfl) pa_nil))) pa_nil)))))))))), ?_⟩
    obtain ⟨p, dd, rfl, hkf⟩ := h.kf
    refine ⟨_, rfl, p, _, dd, _, _, _, rfl, hkf.1, hkf.2, xiOf T k hk, .own _, kitOf T k 0 hk (by decide), ?_⟩
    refine ⟨_, rfl, p, _, dd, _, _, _, rfl, hkf.1, hkf.2, xiOf T k hk, .own _, kitOf T k 1 hk (by decide), ?_⟩
    refine ⟨(by show 2 ≤ sizeLine; decide), fun l1 n1 => ?_⟩
    have s1 := same_upd (o := .lst [V.bl (decide (k = 0)), .bl (decide (k = 1))]) n1
    have h1 : upd H l1 (.lst [V.bl (decide (k = 0)), .bl (decide (k = 1))]) l1 = some (.lst [V.bl (decide (k = 0)), .bl (decide (k = 1))]) := upd_same
    have K1 := hkf.same s1
    refine ⟨_, rfl, _, rfl, p, _, dd, _, _, _, rfl, K1.1, K1.2, xiOf T k hk, .own _, kitOf T k 2 hk (by decide), ?_⟩
    refine ⟨_, rfl, p, _, dd, _, _, _, rfl, K1.1, K1.2, xiOf T k hk, .own _, kitOf T k 3 hk (by decide), ?_⟩
    refine ⟨(by show 2 ≤ sizeLine; decide), fun l2 n2 => ?_⟩
    refine ⟨l1, l2, _, _, rfl, rfl, same_upd n2 _ _ h1, upd_same, (by show 4 ≤ sizeLine; decide), fun l3 n3 => ?_⟩
    have s3 := s1.trans ((same_upd n2).trans (same_upd (o := .lst [V.bl (decide (k = 0)), .bl (decide (k = 1)), .bl (decide (k = 2)), .bl (decide (k = 3))]) n3))
    have K3 := hkf.same s3
    refine ⟨_, rfl, _, rfl, p, _, dd, _, _, _, rfl, K3.1, K3.2, xiOf T k hk, .own _, kitOf T k 4 hk (by decide), ?_⟩
    refine ⟨_, rfl, p, _, dd, _, _, _, rfl, K3.1, K3.2, xiOf T k hk, .own _, kitOf T k 5 hk (by decide), ?_⟩
    refine ⟨_, rfl, p, _, dd, _, _, _, rfl, K3.1, K3.2, xiOf T k hk, .own _, kitOf T k 6 hk (by decide), ?_⟩
    refine ⟨(by show 3 ≤ sizeLine; decide), fun l4 n4 => ?_⟩
    refine ⟨l3, l4, _, _, rfl, rfl, same_upd n4 _ _ upd_same, upd_same, (by show 7 ≤ sizeLine; decide), fun l5 n5 => ?_⟩
    have s5 := s3.trans ((same_upd n4).trans (same_upd (o := .lst [V.bl (decide (k = 0)), .bl (decide (k = 1)), .bl (decide (k = 2)), .bl (decide (k = 3)), .bl (decide (k = 4)), .bl (decide (k = 5)), .bl (decide (k = 6))]) n5))
    have K5 := hkf.same s5
    refine ⟨_, rfl, _, rfl, p, _, dd, _, _, _, rfl, K5.1, K5.2, xiOf T k hk, .own _, kitOf T k 7 hk (by decide), ?_⟩
    refine ⟨_, rfl, p, _, dd, _, _, _, rfl, K5.1, K5.2, xiOf T k hk, .own _, kitOf T k 8 hk (by decide), ?_⟩
    refine ⟨_, rfl, p, _, dd, _, _, _, rfl, K5.1, K5.2, xiOf T k hk, .own _, kitOf T k 9 hk (by decide), ?_⟩
    refine ⟨(by show 3 ≤ sizeLine; decide), fun l6 n6 => ?_⟩
    refine ⟨l5, l6, _, _, rfl, rfl, same_upd n6 _ _ upd_same, upd_same, (by show 10 ≤ sizeLine; decide), fun l7 n7 => ?_⟩
    exact q _ _ (s5.trans ((same_upd n6).trans (same_upd n7))) ⟨l7, rfl, upd_same⟩
def vals (w0 : Str) (n : Int) (w1 : Str) (f1 f2 : Addr) : Nat → V
  | 0 => .str w0
  | 1 => .int n
  | 2 => .str w1
  | 3 => .ref f1
  | _ => .ref f2
def spHolds (T : Ctx K mg) : Sp := fun vs H Q _ => ∃ (r : V) (k : Nat) (va : Addr) (w0 w1 : Str) (n a b c : Int) (f1 f2 : Addr), vs = [r, .int (k : Nat), .ref va] ∧ k < 10 ∧ KeptIs T H r k (vals w0 n w1 f1 f2) ∧ At5 H va (vals w0 n w1 f1 f2) ∧
  H f1 = some (.tup [.int a, .int b]) ∧ H f2 = some (.tup [.int c]) ∧ ∀ H', Same H H' → Q (.bl true) H'
theorem ok_l_holds (T : Ctx K mg) : FnOk P w K mg base CX0 3 T.f_l_holds T.fd_l_holds ["_law_fell", "_law_kind", "_law_values_here"] (spHolds T) := by
  refine T.F_l_holds.ok sc_l_holds (fun vs H Q E h => ?_) (fun cdv A outer s H vs Q E hr h => ?_)
  · obtain ⟨r, k, va, w0, w1, n, a, b, c, f1, f2, rfl, _⟩ := h
    rfl
  · obtain ⟨r, k, va, w0, w1, n, a, b, c, f1, f2, rfl, hk, hr1, hv, hf1, hf2, q⟩ := h
    refine ⟨_, (Evl.pss_cut (ps_if (PW.pt (pw_or (pt_not (pt_val (pe_callB call_isK (by rfl) T.m_isinstance (by decide +kernel) (pa_cons (pv 0) (pa_cons (pe_glob (v := .ref T.c_VoteError) (by rfl) T.gc_VoteError rfl) pa_nil))))) (pw_or1 (pt_not (pt_val (pe_callB call_isK (by rfl) T.m_isinstance (by decide +kernel) (pa_cons (pv 0) (pa_cons (pe_bltn (v := .ty "ValueError") (by rfl) T.m_ValueError (by decide +kernel) rfl) pa_nil))))))))
        (pss_one (ps_ret pe_bl))
        pss_nil)
      (pss_cons (ps_set (i := 3) sc_l_holds.nd rfl (Or.inr rfl) (pe_call (ok_l_kinds T) (hr.mono (by decide)) (by rfl) T.g_l_kinds T.F_l_kinds.kp T.b_l_kinds .nil pass0 (pa_cons (pv 0) pa_nil)))
      (pss_cons (ps_if (pt_cmpR (op_neD hr.units) (pe_lc (own := [("_law_at", 4)]) (g := gName 4) (tt := _) rfl sc_l_holds.nd (pi_range1 (by rfl) T.m_range (pa_cons (pe_callB call_len_seq (by rfl) T.m_len (by decide +kernel) (pa_cons (pv 3) pa_nil)) pa_nil)) (blkOk_by (own := [("_law_at", 4)]) (N := ["_law_fell", "_law_kind", "_law_values_here", "_law_kinds_here", "_law_at"]) (sc := defScope s_l_holds) (by decide +kernel)) (fun _ _ _ _ _ => (pg_name (i := 4) sc_l_holds.nd rfl (Or.inl rfl))) (fun _ _ _ _ _ => (pts_one (pt_val (pe_ix (ixK_list (K := K) rfl) (pv 3) (pv 4) (fun _ _ => rfl))))) (fun _ _ _ _ _ => (pv 4))) (pe_lst (pa_cons (pv 1) pa_nil)) (nomark _))
        (pss_one (ps_ret pe_bl))
        pss_nil)
      (pss_cons (ps_if (pt_cmpR op_eq (pv 1) pe_int (nomark _))
        (pss_one (ps_ret (pe_and (pe_cmpR op_eq (pe_kf (pv 0)) (pe_ix ix_tup (pv 2) pe_int (fun _ _ => rfl)) (nomark _)) (pe_one (pe_cmpR op_eq (pe_kf (pv 0)) (pe_ix ix_tup (pv 2) pe_int (fun _ _ => rfl)) (nomark _))))))
        pss_nil)
      (pss_cons (ps_if (pt_cmpR op_eq (pv 1) pe_int (nomark _))
        (pss_one (ps_ret (pe_cmpR op_eq (pe_kf (pv 0)) (pe_ix ix_tup (pv 2) pe_int (fun _ _ => rfl)) (nomark _))))
        pss_nil)
      (pss_cons (ps_if (pt_cmpR op_eq (pv 1) pe_int (nomark _))
        (pss_one (ps_ret (pe_and (pe_cmpR (op_eqD hr.units) (pe_kf (pv 0)) (pe_ix ix_tup (pv 2) pe_int (fun _ _ => rfl)) (nomark _)) (pe_one (pe_cmpR (op_eqD hr.units) (pe_kf (pv 0)) (pe_ix ix_tup (pv 2) pe_int (fun _ _ => rfl)) (nomark _))))))
        pss_nil)
      (pss_cons (ps_if (pt_cmpR op_eq (pv 1) pe_int (nomark _))
        (pss_one (ps_ret (pe_and (pe_cmpR op_eq (pe_kf (pv 0)) (pe_ix ix_tup (pv 2) pe_int (fun _ _ => rfl)) (nomark _)) (pe_one (pe_cmpR op_eq (pe_kf (pv 0)) (pe_ix ix_tup (pv 2) pe_int (fun _ _ => rfl)) (nomark _))))))
        pss_nil)
      (pss_cons (ps_if (pt_cmpR op_eq (pv 1) pe_int (nomark _))
        (pss_one (ps_ret (pe_and (pe_cmpR (op_eqD hr.units) (pe_kf (pv 0)) (pe_ix ix_tup (pv 2) pe_int (fun _ _ => rfl)) (nomark _)) (pe_one (pe_cmpR op_eq (pe_kf (pv 0)) (pe_ix ix_tup (pv 2) pe_int (fun _ _ => rfl)) (nomark _))))))
        pss_nil)
      (pss_cons (ps_if (pt_cmpR op_eq (pv 1) pe_int (nomark _))
        (pss_one (ps_ret (pe_cmpR op_eq (pe_kf (pv 0)) (pe_ix ix_tup (pv 2) pe_int (fun _ _ => rfl)) (nomark _))))
        pss_nil)
      (pss_cons (ps_if (pt_cmpR op_eq (pv 1) pe_int (nomark _))
        (pss_one (ps_ret (pe_cmpR op_eq (pe_kf (pv 0)) (pe_ix ix_tup (pv 2) pe_int (fun _ _ => rfl)) (nomark _))))
        pss_nil)
      (pss_cons (ps_if (pt_cmpR op_eq (pv 1) pe_int (nomark _))
        (pss_one (ps_ret (pe_cmpR op_eq (pe_kf (pv 0)) (pe_ix ix_tup (pv 2) pe_int (fun _ _ => rfl)) (nomark _))))
        pss_nil)
      (pss_one (ps_ret (pe_cmpR op_ge (pv 1) pe_int (nomark _))))))))))))))), ?_⟩
    obtain ⟨p, dd, rfl, hkf⟩ := hr1.kf
    refine ⟨fun σ' H' => σ' = [some (.ref p), some (.int (k : Nat)), some (.ref va), none, none] ∧ H' = H, ?_, ?_⟩
    · refine ⟨_, rfl, p, _, dd, _, _, _, rfl, hkf.1, hkf.2, xiOf T k hk, .own _, kitVoteError T k hk, _, rfl, iteF ?_⟩
      exact ⟨_, rfl, p, _, dd, _, _, _, rfl, hkf.1, hkf.2, xiOf T k hk, .ty _, kitValueError T k hk, _, rfl, iteF ⟨rfl, rfl⟩⟩
    · rintro σ' H' ⟨rfl, rfl⟩
      refine ⟨_, rfl, _, k, _, rfl, hk, hr1, fun r' H1 s1 hl => ?_⟩
      obtain ⟨l, rfl, hl⟩ := hl
      have hr2 := hr1.same s1
      have hv' : H1 va = some (.tup [.str w0, .int n, .str w1, .ref f1, .ref f2]) := s1 _ _ hv
      have hf1 := s1 _ _ hf1
      have hf2 := s1 _ _ hf2
      -- [at for at in range(len(kinds)) if kinds[at]] != [kind]
      refine ⟨_, rfl, l, _, rfl, .inl (SqL.of hl), 10, rfl, by decide, by decide, fun al nal => ?_⟩
      have nk : l ≠ al := ne_of_none hl nal
      refine lc_range (lo := 0) (n := 10) (fun i H' => Same H1 H' ∧ H' al = some (.lst (if k < i then [V.int (k : Nat)] else []))) ⟨same_upd nal, upd_same⟩ ?_ ?_
      · rintro i H2 hi ⟨s2, ha⟩
        have hl2 := s2 _ _ hl
        refine ⟨rfl, _, rfl, _, rfl, l, _, _, _, rfl, rfl, SqL.of hl2, at_of (j := i) (by omega) (kb_at k hi), _, rfl, ite2 (fun h => ?_) fun h => ⟨s2, ?_⟩⟩
        · have e := of_decide_eq_true h
          subst e
          rw [if_neg (by omega)] at ha
          refine ⟨_, rfl, _, ha, (by show 0 < sizeLine; decide), fun b o e => ?_, ?_⟩
          · rw [upd_ne (ne_of_none e nal)]
            exact s2 _ _ e
          · rw [upd_same, if_pos (by omega), show (0 : Int) + (k : Nat) = (k : Nat) from by omega]
            rfl
        · have e := of_decide_eq_false (Bool.eq_false_iff.mpr h)
          rw [ha]
          by_cases h2 : k < i
          · rw [if_pos h2, if_pos (by omega)]
          · rw [if_neg h2, if_neg (by omega)]
      · rintro H2 ⟨s2, ha⟩
        rw [if_pos hk] at ha
        refine ⟨_, rfl, (by show 1 ≤ sizeLine; decide), fun kl nkl => ?_⟩
        have sh1 : SeqAt.shaped (.list [.int (k : Nat)]) = true := by
          unfold SeqAt.shaped
          simp [PyData.canLay0, PyData.canLayAll0, PyData.depth, PyData.depthAll]
        refine ⟨_, _, .lst (SqL.of (same_upd nkl _ _ ha)) (.cons (.int _) .nil), .lst (SqL.of upd_same) (.cons (.int _) .nil), sh1, sh1, false, congrArg V.bl (ne_self sh1), iteF ?_⟩
        have s3 := s2.trans (same_upd (o := .lst [V.int (k : Nat)]) nkl)
        revert s3
        generalize upd H2 kl (.lst [V.int (k : Nat)]) = H3
        intro s3
        have fin : Q (.bl true) H3 := q _ (s1.trans s3)
        have fin2 : ∀ x : V, Q (.bl (decide (x = x))) H3 := fun x => by
          rw [decide_eq_true rfl]
          exact fin
        have hv' := s3 _ _ hv'
        have dp3 : Dp K H3 (.ref f1) (.tuple [.int a, .int b]) := .tup (.inl (.inl (s3 _ _ hf1))) (.cons (.int _) (.cons (.int _) .nil))
        have dp4 : Dp K H3 (.ref f2) (.tuple [.int c]) := .tup (.inl (.inl (s3 _ _ hf2))) (.cons (.int _) .nil)
        have sh3 : SeqAt.shaped (.tuple [.int a, .int b]) = true := by
          unfold SeqAt.shaped
          simp [PyData.canLay0, PyData.canLayAll0, PyData.depth, PyData.depthAll]
        have sh4 : SeqAt.shaped (.tuple [.int c]) = true := by
          unfold SeqAt.shaped
          simp [PyData.canLay0, PyData.canLayAll0, PyData.depth, PyData.depthAll]
        have hr3 := hr2.same s3
        clear hr1 hr2 hkf hl ha sh1 s3 s2 s1 hf1 hf2 nk nal nkl hv q
        obtain ⟨p', dd', e, hp, hf, _⟩ := hr3
        cases e
        have t : k = 0 ∨ k = 1 ∨ k = 2 ∨ k = 3 ∨ k = 4 ∨ k = 5 ∨ k = 6 ∨ k = 7 ∨ k = 8 ∨ k = 9 := by omega
        rcases t with rfl | rfl | rfl | rfl | rfl | rfl | rfl | rfl | rfl | rfl
        · obtain ⟨d, rfl, hd⟩ := hf _ rfl
          refine ⟨_, rfl, rfl, _, rfl, iteT ?_⟩
          refine ⟨_, rfl, p, _, d, _, _, rfl, hp, hd, T.xf_BadNumber, T.n_BadNumber_what, (rfl : _ = some (vals w0 n w1 f1 f2 0)), _, rfl, va, _, _, _, rfl, rfl, .inl (.inl hv'), (rfl : atI [V.str w0, .int n, .str w1, .ref f1, .ref f2] 0 = some (vals w0 n w1 f1 f2 0)), rfl, true, congrArg V.bl (decide_eq_true rfl), iteT ?_⟩
          refine ⟨_, rfl, p, _, d, _, _, rfl, hp, hd, T.xf_BadNumber, T.n_BadNumber_value, (rfl : _ = some (vals w0 n w1 f1 f2 1)), _, rfl, va, _, _, _, rfl, rfl, .inl (.inl hv'), (rfl : atI [V.str w0, .int n, .str w1, .ref f1, .ref f2] 1 = some (vals w0 n w1 f1 f2 1)), rfl, ?_⟩
          exact fin2 _
        · obtain ⟨d, rfl, hd⟩ := hf _ rfl
          refine ⟨_, rfl, rfl, _, rfl, iteF ⟨_, rfl, rfl, _, rfl, iteT ?_⟩⟩
          refine ⟨_, rfl, p, _, d, _, _, rfl, hp, hd, T.xf_BadLot, T.n_BadLot_place, (rfl : _ = some (vals w0 n w1 f1 f2 1)), _, rfl, va, _, _, _, rfl, rfl, .inl (.inl hv'), (rfl : atI [V.str w0, .int n, .str w1, .ref f1, .ref f2] 1 = some (vals w0 n w1 f1 f2 1)), rfl, ?_⟩
          exact fin2 _
        · obtain ⟨d, rfl, hd⟩ := hf _ rfl
          refine ⟨_, rfl, rfl, _, rfl, iteF ⟨_, rfl, rfl, _, rfl, iteF ⟨_, rfl, rfl, _, rfl, iteT ?_⟩⟩⟩
          refine ⟨_, rfl, p, _, d, _, _, rfl, hp, hd, T.xf_NoMeeting, T.n_NoMeeting_read, (rfl : _ = some (vals w0 n w1 f1 f2 3)), _, rfl, va, _, _, _, rfl, rfl, .inl (.inl hv'), (rfl : atI [V.str w0, .int n, .str w1, .ref f1, .ref f2] 3 = some (vals w0 n w1 f1 f2 3)), _, _, dp3, dp3, sh3, sh3, true, congrArg V.bl (eq_self sh3), iteT ?_⟩
          refine ⟨_, rfl, p, _, d, _, _, rfl, hp, hd, T.xf_NoMeeting, T.n_NoMeeting_write, (rfl : _ = some (vals w0 n w1 f1 f2 4)), _, rfl, va, _, _, _, rfl, rfl, .inl (.inl hv'), (rfl : atI [V.str w0, .int n, .str w1, .ref f1, .ref f2] 4 = some (vals w0 n w1 f1 f2 4)), _, _, dp4, dp4, sh4, sh4, ?_⟩
          rw [eq_self sh4]
          exact fin
        · obtain ⟨d, rfl, hd⟩ := hf _ rfl
          refine ⟨_, rfl, rfl, _, rfl, iteF ⟨_, rfl, rfl, _, rfl, iteF ⟨_, rfl, rfl, _, rfl, iteF ⟨_, rfl, rfl, _, rfl, iteT ?_⟩⟩⟩⟩
          refine ⟨_, rfl, p, _, d, _, _, rfl, hp, hd, T.xf_BadTrade, T.n_BadTrade_place, (rfl : _ = some (vals w0 n w1 f1 f2 1)), _, rfl, va, _, _, _, rfl, rfl, .inl (.inl hv'), (rfl : atI [V.str w0, .int n, .str w1, .ref f1, .ref f2] 1 = some (vals w0 n w1 f1 f2 1)), rfl, true, congrArg V.bl (decide_eq_true rfl), iteT ?_⟩
          refine ⟨_, rfl, p, _, d, _, _, rfl, hp, hd, T.xf_BadTrade, T.n_BadTrade_reason, (rfl : _ = some (vals w0 n w1 f1 f2 2)), _, rfl, va, _, _, _, rfl, rfl, .inl (.inl hv'), (rfl : atI [V.str w0, .int n, .str w1, .ref f1, .ref f2] 2 = some (vals w0 n w1 f1 f2 2)), rfl, ?_⟩
          exact fin2 _
        · obtain ⟨d, rfl, hd⟩ := hf _ rfl
          refine ⟨_, rfl, rfl, _, rfl, iteF ⟨_, rfl, rfl, _, rfl, iteF ⟨_, rfl, rfl, _, rfl, iteF ⟨_, rfl, rfl, _, rfl, iteF ⟨_, rfl, rfl, _, rfl, iteT ?_⟩⟩⟩⟩⟩
          refine ⟨_, rfl, p, _, d, _, _, rfl, hp, hd, T.xf_BadFlow, T.n_BadFlow_lot, (rfl : _ = some (vals w0 n w1 f1 f2 3)), _, rfl, va, _, _, _, rfl, rfl, .inl (.inl hv'), (rfl : atI [V.str w0, .int n, .str w1, .ref f1, .ref f2] 3 = some (vals w0 n w1 f1 f2 3)), _, _, dp3, dp3, sh3, sh3, true, congrArg V.bl (eq_self sh3), iteT ?_⟩
          refine ⟨_, rfl, p, _, d, _, _, rfl, hp, hd, T.xf_BadFlow, T.n_BadFlow_member, (rfl : _ = some (vals w0 n w1 f1 f2 1)), _, rfl, va, _, _, _, rfl, rfl, .inl (.inl hv'), (rfl : atI [V.str w0, .int n, .str w1, .ref f1, .ref f2] 1 = some (vals w0 n w1 f1 f2 1)), rfl, ?_⟩
          exact fin2 _
        · obtain ⟨d, rfl, hd⟩ := hf _ rfl
          refine ⟨_, rfl, rfl, _, rfl, iteF ⟨_, rfl, rfl, _, rfl, iteF ⟨_, rfl, rfl, _, rfl, iteF ⟨_, rfl, rfl, _, rfl, iteF ⟨_, rfl, rfl, _, rfl, iteF ⟨_, rfl, rfl, _, rfl, iteT ?_⟩⟩⟩⟩⟩⟩
          refine ⟨_, rfl, p, _, d, _, _, rfl, hp, hd, T.xf_BadText, T.n_BadText_line, (rfl : _ = some (vals w0 n w1 f1 f2 1)), _, rfl, va, _, _, _, rfl, rfl, .inl (.inl hv'), (rfl : atI [V.str w0, .int n, .str w1, .ref f1, .ref f2] 1 = some (vals w0 n w1 f1 f2 1)), rfl, ?_⟩
          exact fin2 _
        · obtain ⟨d, rfl, hd⟩ := hf _ rfl
          refine ⟨_, rfl, rfl, _, rfl, iteF ⟨_, rfl, rfl, _, rfl, iteF ⟨_, rfl, rfl, _, rfl, iteF ⟨_, rfl, rfl, _, rfl, iteF ⟨_, rfl, rfl, _, rfl, iteF ⟨_, rfl, rfl, _, rfl, iteF ⟨_, rfl, rfl, _, rfl, iteT ?_⟩⟩⟩⟩⟩⟩⟩
          refine ⟨_, rfl, p, _, d, _, _, rfl, hp, hd, T.xf_BadDeed, T.n_BadDeed_place, (rfl : _ = some (vals w0 n w1 f1 f2 1)), _, rfl, va, _, _, _, rfl, rfl, .inl (.inl hv'), (rfl : atI [V.str w0, .int n, .str w1, .ref f1, .ref f2] 1 = some (vals w0 n w1 f1 f2 1)), rfl, ?_⟩
          exact fin2 _
        · obtain ⟨d, rfl, hd⟩ := hf _ rfl
          refine ⟨_, rfl, rfl, _, rfl, iteF ⟨_, rfl, rfl, _, rfl, iteF ⟨_, rfl, rfl, _, rfl, iteF ⟨_, rfl, rfl, _, rfl, iteF ⟨_, rfl, rfl, _, rfl, iteF ⟨_, rfl, rfl, _, rfl, iteF ⟨_, rfl, rfl, _, rfl, iteF ⟨_, rfl, rfl, _, rfl, iteT ?_⟩⟩⟩⟩⟩⟩⟩⟩
          refine ⟨_, rfl, p, _, d, _, _, rfl, hp, hd, T.xf_TooMany, T.n_TooMany_limit, (rfl : _ = some (vals w0 n w1 f1 f2 1)), _, rfl, va, _, _, _, rfl, rfl, .inl (.inl hv'), (rfl : atI [V.str w0, .int n, .str w1, .ref f1, .ref f2] 1 = some (vals w0 n w1 f1 f2 1)), rfl, ?_⟩
          exact fin2 _
        · refine ⟨_, rfl, rfl, _, rfl, iteF ⟨_, rfl, rfl, _, rfl, iteF ⟨_, rfl, rfl, _, rfl, iteF ⟨_, rfl, rfl, _, rfl, iteF ⟨_, rfl, rfl, _, rfl, iteF ⟨_, rfl, rfl, _, rfl, iteF ⟨_, rfl, rfl, _, rfl, iteF ⟨_, rfl, rfl, _, rfl, iteF ⟨_, rfl, _, _, rfl, rfl, ?_⟩⟩⟩⟩⟩⟩⟩⟩⟩
          exact fin
        · refine ⟨_, rfl, rfl, _, rfl, iteF ⟨_, rfl, rfl, _, rfl, iteF ⟨_, rfl, rfl, _, rfl, iteF ⟨_, rfl, rfl, _, rfl, iteF ⟨_, rfl, rfl, _, rfl, iteF ⟨_, rfl, rfl, _, rfl, iteF ⟨_, rfl, rfl, _, rfl, iteF ⟨_, rfl, rfl, _, rfl, iteF ⟨_, rfl, _, _, rfl, rfl, ?_⟩⟩⟩⟩⟩⟩⟩⟩⟩
          exact fin
/-- all but what stands at t stays -/
def SB (t : Addr) (H H' : Hp) : Prop := ∀ b o, b ≠ t → H b = some o → H' b = some o
theorem SB.trans {t : Addr} {H H1 H2 : Hp} (h : SB t H H1) (g : SB t H1 H2) : SB t H H2 := fun b o n e => g b o n (h b o n e)
theorem SB.but {t : Addr} {H H' : Hp} (h : But t H H') : SB t H H' := fun b o n e => (h b n).trans e
theorem SB.new {t p : Addr} {H : Hp} {o : HO} (h : H p = none) : SB t H (upd H p o) := fun b _ _ e => same_upd h b _ e
def Vals5 (H : Hp) (r : V) : Prop := ∃ (va : Addr) (w0 w1 : Str) (n a b c : Int) (f1 f2 : Addr), r = .ref va ∧ At5 H va (vals w0 n w1 f1 f2) ∧ H f1 = some (.tup [.int a, .int b]) ∧ H f2 = some (.tup [.int c])
theorem Vals5.same {H H' : Hp} {r : V} (h : Vals5 H r) (e : Same H H') : Vals5 H' r := by
  obtain ⟨va, w0, w1, n, a, b, c, f1, f2, rfl, h1, h2, h3⟩ := h
  exact ⟨va, w0, w1, n, a, b, c, f1, f2, rfl, e _ _ h1, e _ _ h2, e _ _ h3⟩
theorem Vals5.sb {t : Addr} {H H' : Hp} {r : V} (h : Vals5 H r) (ht : St4 H t) (e : SB t H H') : Vals5 H' r := by
  obtain ⟨va, w0, w1, n, a, b, c, f1, f2, rfl, h1, h2, h3⟩ := h
  obtain ⟨_, _, _, _, h0⟩ := ht
  exact ⟨va, w0, w1, n, a, b, c, f1, f2, rfl, e _ _ (ne_of h1 h0 (by intro z; cases z)) h1, e _ _ (ne_of h2 h0 (by intro z; cases z)) h2, e _ _ (ne_of h3 h0 (by intro z; cases z)) h3⟩
theorem SB.put {t p : Addr} {H H' : Hp} {o : HO} (h : SB t H H') (hp : H p = none) : SB t H (upd H' p o) := fun b x n e => (upd_ne (ne_of_none e hp)).trans (h b x n e)
theorem SB.free {t p : Addr} {H H' : Hp} (h : SB t H H') (n : p ≠ t) (e : H' p = none) : H p = none := by
  cases z : H p with
  | none => rfl
  | some o =>
    rw [h p o n z] at e
    cases e
theorem SB.refl {t : Addr} {H : Hp} : SB t H H := fun _ _ _ e => e
theorem drw_put {K : PySem.W.Frag} {H0 H' : Hp} {l t p : Addr} {o : HO} (D : Drw K H0 l t H') (h0 : H0 p = none) (ne : p ≠ t) : Drw K H0 l t (upd H' p o) := by
  obtain ⟨a, b, c, d, e⟩ := D.st
  exact ⟨D.scr, D.new, same_upd2 D.same h0, a, b, c, d, (upd_ne ne.symm).trans e⟩
theorem drw_ne {K : PySem.W.Frag} {H0 H : Hp} {l t f : Addr} (D : Drw K H0 l t H) (h : H f = none) : f ≠ t := fun e => by
  subst e
  obtain ⟨_, _, _, _, h0⟩ := D.st
  rw [h] at h0
  cases h0
abbrev abc : Str := "abcdefghijklmnopqrstuvwxyz"
theorem abc_at {x : Int} (h1 : 0 ≤ x) (h2 : x < 26) : ∃ c, atI (tl abc) x = some c := by
  obtain ⟨j, rfl⟩ := Int.eq_ofNat_of_zero_le h1
  have hl : (tl abc).length = 26 := by decide +kernel
  exact ⟨_, atI_nat (List.getElem?_eq_getElem (by omega))⟩
theorem sum_ones : ∀ ys : List Str, (∀ y ∈ ys, y.length = 1) → (ys.map (·.length)).sum = ys.length
  | [], _ => rfl
  | y :: ys, h => by
    rw [List.map_cons, List.sum_cons, sum_ones ys fun z hz => h z (List.mem_cons_of_mem _ hz), h y List.mem_cons_self, List.length_cons]
    omega
def spValues (K : PySem.W.Frag) : Sp := fun vs H Q _ => ∃ (l t : Addr) (H0 : Hp), vs = [.ref l, .ref t] ∧ Drw K H0 l t H ∧ ∀ r H', Drw K H0 l t H' → SB t H H' → Vals5 H' r → Q r H'
theorem ok_l_values (T : Ctx K mg) : FnOk P w K mg base CX0 3 T.f_l_values T.fd_l_values ["_law_script", "_law_state"] (spValues K) := by
  refine T.F_l_values.ok sc_l_values (fun vs H Q E h => ?_) (fun cdv A outer s H vs Q E hr h => ?_)
  · obtain ⟨l, t, H0, rfl, _⟩ := h
    rfl
  · obtain ⟨l, t, H0, rfl, D, q⟩ := h
    refine ⟨_, (pss_cons (ps_set (i := 2) sc_l_values.nd rfl (Or.inr rfl) pe_str)
      (pss_cons (ps_set (i := 3) sc_l_values.nd rfl (Or.inl rfl) (pe_lst pa_nil))
      (pss_cons (ps_for PassesOwn.never rfl (pi_range1 (by rfl) T.m_range (pa_cons pe_int pa_nil)) (pg_name (i := 4) sc_l_values.nd rfl (Or.inl rfl))
        (pss_one (ps_expr (pe_bm PySem.F.plainAttrs_list PySem.F.slot_list_append PySem.F.type_list_append mt_append (pv 3) (pa_cons (pe_join pe_str (pe_lc (own := [("_law_j", 5)]) (g := gName 5) (tt := tYes) rfl sc_l_values.nd (pi_range1 (by rfl) T.m_range (pa_cons (pe_op op_add pe_int (pe_call (ok_l_draw T) (hr.mono (by decide)) (by rfl) T.g_l_draw T.F_l_draw.kp T.b_l_draw .nil pass0 (pa_cons (pv 0) (pa_cons (pv 1) (pa_cons pe_int pa_nil))))) pa_nil)) (blkOk_by (own := [("_law_j", 5)]) (N := ["_law_script", "_law_state", "_law_letters", "_law_words", "_law_k", "_law_j", "_law_first", "_law_second"]) (sc := defScope s_l_values) (by decide +kernel)) (fun _ _ _ _ _ => (pg_name (i := 5) sc_l_values.nd rfl (Or.inl rfl))) (fun _ _ _ _ _ => pts_nil) (fun _ _ _ _ _ => (pe_ix ix_str (pv 2) (pe_call (ok_l_draw T) (hr.mono (by decide)) (by rfl) T.g_l_draw T.F_l_draw.kp T.b_l_draw .nil pass0 (pa_cons (pv 0) (pa_cons (pv 1) (pa_cons pe_int pa_nil)))) (fun _ _ => rfl))))) pa_nil)))))
      (pss_cons (ps_set (i := 6) sc_l_values.nd rfl (Or.inl rfl) (pe_tup (pa_cons (pe_call (ok_l_draw T) (hr.mono (by decide)) (by rfl) T.g_l_draw T.F_l_draw.kp T.b_l_draw .nil pass0 (pa_cons (pv 0) (pa_cons (pv 1) (pa_cons pe_int pa_nil)))) (pa_cons (pe_op op_add pe_int (pe_call (ok_l_draw T) (hr.mono (by decide)) (by rfl) T.g_l_draw T.F_l_draw.kp T.b_l_draw .nil pass0 (pa_cons (pv 0) (pa_cons (pv 1) (pa_cons pe_int pa_nil))))) pa_nil))))
      (pss_cons (ps_set (i := 7) sc_l_values.nd rfl (Or.inl rfl) (pe_tup (pa_cons (pe_call (ok_l_draw T) (hr.mono (by decide)) (by rfl) T.g_l_draw T.F_l_draw.kp T.b_l_draw .nil pass0 (pa_cons (pv 0) (pa_cons (pv 1) (pa_cons pe_int pa_nil)))) pa_nil)))
      (pss_one (ps_ret (pe_tup (pa_cons (pe_ix ix_list (pv 3) pe_int (fun _ _ => rfl)) (pa_cons (pe_call (ok_l_draw T) (hr.mono (by decide)) (by rfl) T.g_l_draw T.F_l_draw.kp T.b_l_draw .nil pass0 (pa_cons (pv 0) (pa_cons (pv 1) (pa_cons (pe_op op_pow pe_int pe_int) pa_nil)))) (pa_cons (pe_ix ix_list (pv 3) pe_int (fun _ _ => rfl)) (pa_cons (pv 6) (pa_cons (pv 7) pa_nil))))))))))))), ?_⟩
    refine ⟨by show 0 ≤ sizeLine; decide, fun wl nwl => ?_⟩
    have wlt := drw_ne D nwl
    have n0 := D.same.free nwl
    refine ⟨2, rfl, by decide, by decide, for_range (n := 2) (fun i σ H' => Drw K H0 l t H' ∧ SB t H H' ∧ (∃ ws : List Str, H' wl = some (.lst (ws.map V.str)) ∧ ws.length = i) ∧ ∃ v4 v5, σ = [some (.ref l), some (.ref t), some (.str abc), some (.ref wl), v4, v5, none, none])
      ⟨D.mono (same_upd nwl), SB.new nwl, ⟨[], upd_same, rfl⟩, _, _, rfl⟩ ?_ ?_⟩
    · rintro i σ H1 hi ⟨D1, b1, ⟨ws, hw, hwl⟩, v4, v5, rfl⟩
      refine ⟨_, rfl, .inl ⟨rfl, _, SqL.of hw⟩, ⟨_, rfl⟩, _, rfl, _, rfl, l, t, 8, H0, rfl, D1, by decide, by decide, fun x H2 a1 a2 b2 D2 => ⟨_, _, rfl, rfl, 1 + x, rfl, by omega, by omega, fun al nal => ?_⟩⟩
      have hw2 := (b2 wl wlt).trans hw
      have alt := drw_ne D2 nal
      have naw : wl ≠ al := ne_of_none hw2 nal
      refine lc_range (lo := 0) (n := (1 + x).toNat) (fun i H' => Drw K H0 l t H' ∧ SB t H2 H' ∧ ∃ ys : List Str, H' al = some (.lst (ys.map V.str)) ∧ ys.length = i ∧ ∀ y ∈ ys, y.length = 1)
        ⟨D2.mono (same_upd nal), SB.new nal, [], upd_same, rfl, fun y hy => by cases hy⟩ ?_ ?_
      · rintro j H3 hj ⟨D3, b3, ys, hy, hyl, hy1⟩
        refine ⟨rfl, ?_⟩
        refine ⟨_, rfl, _, rfl, _, rfl, l, t, 26, H0, rfl, D3, by decide, by decide, fun x2 H4 a3 a4 b4 D4 => ?_⟩
        obtain ⟨c, hc⟩ := abc_at a3 a4
        have hy4 := (b4 al alt).trans hy
        refine ⟨abc, _, c, rfl, rfl, (by decide), hc, _, hy4, ?_, drw_put D4 (D2.same.free nal) alt, ?_, ys ++ [⟨#[c]⟩], ?_, by simp [hyl], fun y hy => ?_⟩
        · rw [List.length_map]
          have : (1000 : Nat) < sizeLine := by decide
          omega
        · exact (b3.trans (SB.but b4)).put nal
        · rw [upd_same, List.map_append]
          rfl
        · rcases List.mem_append.mp hy with h | h
          · exact hy1 y h
          · rw [List.mem_singleton.mp h]
            rfl
      · rintro H3 ⟨D3, b3, ys, hy, hyl, hy1⟩
        have hw3 := b3 wl _ wlt hw2
        refine ⟨("" : Str), al, ys, rfl, rfl, .inl (SqL.of hy), ?_, ?_⟩
        · rw [sum_ones ys hy1]
          have e0 : ("" : Str).length = 0 := rfl
          rw [e0]
          omega
        · refine ⟨wl, _, _, rfl, rfl, hw3, ?_, drw_put D3 n0 wlt, ?_, ⟨ws ++ [Txt.join ("" : Str) ys], ?_, by simp [hwl]⟩, _, _, rfl⟩
          · rw [List.length_map]
            have : (1000 : Nat) < sizeLine := by decide
            omega
          · exact ((b1.trans (SB.but b2)).trans b3).put nwl
          · rw [upd_same, List.map_append]
            rfl
    · rintro σ H1 ⟨D1, b1, ⟨ws, hw, hwl⟩, v4, v5, rfl⟩
      obtain ⟨w0, w1, rfl⟩ : ∃ w0 w1, ws = [w0, w1] := by
        match ws, hwl with
        | [a, b], _ => exact ⟨a, b, rfl⟩
      refine ⟨_, rfl, _, rfl, l, t, 4, H0, rfl, D1, by decide, by decide, fun y1 H2 _ _ b2 D2 => ?_⟩
      refine ⟨_, rfl, _, rfl, l, t, 4, H0, rfl, D2, by decide, by decide, fun y2 H3 _ _ b3 D3 => ⟨_, _, rfl, rfl, (by show 2 ≤ sizeLine; decide), fun f1 nf1 => ?_⟩⟩
      have D3' := D3.mono (same_upd (o := .tup [.int y1, .int (4 + y2)]) nf1)
      have f1t := drw_ne D3 nf1
      refine ⟨_, rfl, _, rfl, l, t, 8, H0, rfl, D3', by decide, by decide, fun y3 H4 _ _ b4 D4 => ⟨(by show 1 ≤ sizeLine; decide), fun f2 nf2 => ?_⟩⟩
      have D4' := D4.mono (same_upd (o := .tup [.int y3]) nf2)
      have f2t := drw_ne D4 nf2
      have B4 := (((b1.trans (SB.but b2)).trans (SB.but b3)).trans (SB.new (o := .tup [.int y1, .int (4 + y2)]) nf1)).trans ((SB.but b4).trans (SB.new (o := .tup [.int y3]) nf2))
      have W1 : SB t H1 _ := ((SB.but b2).trans (SB.but b3)).trans ((SB.new (o := .tup [.int y1, .int (4 + y2)]) nf1).trans ((SB.but b4).trans (SB.new (o := .tup [.int y3]) nf2)))
      have F1 : SB t _ _ := (SB.but b4).trans (SB.new (o := .tup [.int y3]) nf2)
      have hf1 := F1 _ _ f1t (upd_same (H := H3) (a := f1) (o := .tup [.int y1, .int (4 + y2)]))
      have hf2 : upd H4 f2 (.tup [.int y3]) f2 = some (.tup [.int y3]) := upd_same
      have hw4 := W1 _ _ wlt hw
      revert D4' B4 hf1 hf2 hw4
      clear W1 F1
      generalize upd H4 f2 (.tup [.int y3]) = H5
      intro D5 B5 hf1 hf2 hw5
      refine ⟨_, rfl, wl, _, _, .str w0, rfl, rfl, SqL.of hw5, rfl, ?_⟩
      refine ⟨_, rfl, _, rfl, _, _, rfl, rfl, ⟨by decide, by decide, by decide⟩, l, t, _, H0, rfl, D5, by decide, by decide, fun y4 H6 _ _ b6 D6 => ?_⟩
      refine ⟨_, rfl, wl, _, _, .str w1, rfl, rfl, SqL.of ((b6 wl wlt).trans hw5), rfl, _, rfl, _, rfl, (by show 5 ≤ sizeLine; decide), fun va nva => ?_⟩
      refine q _ _ (D6.mono (same_upd nva)) ((B5.trans (SB.but b6)).trans (SB.new nva)) ⟨va, w0, w1, y4, _, _, _, f1, f2, rfl, upd_same, same_upd nva _ _ ((b6 f1 f1t).trans hf1), same_upd nva _ _ ((b6 f2 f2t).trans hf2)⟩
theorem ok_law (T : Ctx K mg) : FnOk P w K mg base CX0 6 T.f_law T.fd_law ["_law_script"] (spLaw K) := by
  refine T.F_law.ok sc_law (fun vs H Q E h => ?_) (fun cdv A outer s H vs Q E hr h => ?_)
  · obtain ⟨l, ns, rfl, _⟩ := h
    rfl
  · obtain ⟨l, ns, rfl, hS, hlen, q⟩ := h
    refine ⟨_, (pss_cons (ps_set (i := 1) sc_law.nd rfl (Or.inl rfl) (pe_call (ok_l_start T) (hr.mono (by decide)) (by rfl) T.g_l_start T.F_l_start.kp T.b_l_start .nil pass0 (pa_cons (pv 0) pa_nil)))
      (pss_cons (ps_for PassesOwn.never rfl (pi_range1 (by rfl) T.m_range (pa_cons pe_int pa_nil)) (pg_name (i := 2) sc_law.nd rfl (Or.inl rfl))
        (pss_cons (ps_set (i := 3) sc_law.nd rfl (Or.inl rfl) (pe_call (ok_l_values T) (hr.mono (by decide)) (by rfl) T.g_l_values T.F_l_values.kp T.b_l_values .nil pass0 (pa_cons (pv 0) (pa_cons (pv 1) pa_nil))))
        (pss_cons (ps_set (i := 4) sc_law.nd rfl (Or.inl rfl) (pe_call (ok_l_values T) (hr.mono (by decide)) (by rfl) T.g_l_values T.F_l_values.kp T.b_l_values .nil pass0 (pa_cons (pv 0) (pa_cons (pv 1) pa_nil))))
        (pss_cons (ps_set (i := 5) sc_law.nd rfl (Or.inl rfl) (pe_call (ok_l_caught T) (hr.mono (by decide)) (by rfl) T.g_l_caught T.F_l_caught.kp T.b_l_caught .nil pass0 (pa_cons (pv 2) (pa_cons (pv 3) pa_nil))))
        (pss_cons (ps_set (i := 6) sc_law.nd rfl (Or.inl rfl) (pe_call (ok_l_caught T) (hr.mono (by decide)) (by rfl) T.g_l_caught T.F_l_caught.kp T.b_l_caught .nil pass0 (pa_cons (pv 2) (pa_cons (pv 4) pa_nil))))
        (pss_one (ps_if (PW.pt (pw_or (pt_not (pt_val (pe_call (ok_l_holds T) (hr.mono (by decide)) (by rfl) T.g_l_holds T.F_l_holds.kp T.b_l_holds .nil pass0 (pa_cons (pv 5) (pa_cons (pv 2) (pa_cons (pv 3) pa_nil)))))) (pw_or1 (pt_not (pt_val (pe_call (ok_l_holds T) (hr.mono (by decide)) (by rfl) T.g_l_holds T.F_l_holds.kp T.b_l_holds .nil pass0 (pa_cons (pv 6) (pa_cons (pv 2) (pa_cons (pv 4) pa_nil)))))))))
          (pss_one (ps_ret pe_bl))
          pss_nil)))))))
      (pss_one (ps_ret pe_bl)))), ?_⟩
    refine ⟨_, rfl, l, ns, rfl, hS, fun t H1 nt D1 b1 => ?_⟩
    refine ⟨10, rfl, by decide, by decide, for_range (n := 10) (fun i σ H' => Drw K H l t H' ∧ ∃ v2 v3 v4 v5 v6, σ = [some (.ref l), some (.ref t), v2, v3, v4, v5, v6])
      ⟨D1, _, _, _, _, _, rfl⟩ ?_ ?_⟩
    · rintro i σ H0 hi ⟨D0, v2, v3, v4, v5, v6, rfl⟩
      have ei : (0 : Int) + (i : Nat) = (i : Nat) := by omega
      rw [ei]
      refine ⟨_, rfl, _, rfl, l, t, H, rfl, D0, fun r1 H1 D1 b1 V1 => ?_⟩
      refine ⟨_, rfl, _, rfl, l, t, H, rfl, D1, fun r2 H2 D2 b2 V2 => ?_⟩
      have V1 := V1.sb D1.st b2
      obtain ⟨va, w0, w1, n, a, b, c, f1, f2, rfl, h1, h2, h3⟩ := V1
      obtain ⟨va', w0', w1', n', a', b', c', f1', f2', rfl, h1', h2', h3'⟩ := V2
      refine ⟨_, rfl, _, rfl, i, va, _, rfl, hi, h1, fun e1 H3 s3 K1 => ?_⟩
      refine ⟨_, rfl, _, rfl, i, va', _, rfl, hi, s3 _ _ h1', fun e2 H4 s4 K2 => ?_⟩
      have s34 := s3.trans s4
      refine ⟨_, rfl, _, rfl, _, rfl, e1, i, va, w0, w1, n, a, b, c, f1, f2, rfl, hi, K1.same s4, s34 _ _ h1, s34 _ _ h2, s34 _ _ h3, fun H5 s5 => ⟨_, rfl, iteF ?_⟩⟩
      have s35 := s34.trans s5
      refine ⟨_, rfl, _, rfl, _, rfl, e2, i, va', w0', w1', n', a', b', c', f1', f2', rfl, hi, K2.same s5, s35 _ _ h1', s35 _ _ h2', s35 _ _ h3', fun H6 s6 => ⟨_, rfl, iteF ?_⟩⟩
      exact ⟨D2.mono (s35.trans s6), _, _, _, _, _, rfl⟩
    · rintro σ H0 ⟨D0, v2, v3, v4, v5, v6, rfl⟩
      exact q _
end
theorem all_mk {l : PySem.W.OpenLaw} {w : World} {K : PySem.W.Frag} {h : Heap} {mg : Str → Option Value} {fa ca_VoteError ca_BadNumber ca_BadLot ca_NoMeeting ca_BadTrade ca_BadFlow ca_BadText ca_BadDeed ca_TooMany ca_Unlike ca_NothingToUndo fa_BadNumber_init fa_BadLot_init fa_NoMeeting_init fa_BadTrade_init fa_BadFlow_init fa_BadText_init fa_BadDeed_init fa_TooMany_init fa_l_start fa_l_draw fa_l_kinds fa_l_throw fa_l_caught fa_l_holds fa_l_values fa_law : Addr} (X : K.In h) (G : h.Ns mainGlobals mg) (hfa : mg "law" = some (.ref fa))
    {od_BadNumber_init an_BadNumber_init : Option Addr} {sl_BadNumber_init : Array (Option Value)} {oc_BadNumber_init kV_BadNumber_init dc_BadNumber_init pm_BadNumber_init cd_BadNumber_init ct_BadNumber_init : Value}
    {od_BadLot_init an_BadLot_init : Option Addr} {sl_BadLot_init : Array (Option Value)} {oc_BadLot_init kV_BadLot_init dc_BadLot_init pm_BadLot_init cd_BadLot_init ct_BadLot_init : Value}
    {od_NoMeeting_init an_NoMeeting_init : Option Addr} {sl_NoMeeting_init : Array (Option Value)} {oc_NoMeeting_init kV_NoMeeting_init dc_NoMeeting_init pm_NoMeeting_init cd_NoMeeting_init ct_NoMeeting_init : Value}
    {od_BadTrade_init an_BadTrade_init : Option Addr} {sl_BadTrade_init : Array (Option Value)} {oc_BadTrade_init kV_BadTrade_init dc_BadTrade_init pm_BadTrade_init cd_BadTrade_init ct_BadTrade_init : Value}
    {od_BadFlow_init an_BadFlow_init : Option Addr} {sl_BadFlow_init : Array (Option Value)} {oc_BadFlow_init kV_BadFlow_init dc_BadFlow_init pm_BadFlow_init cd_BadFlow_init ct_BadFlow_init : Value}
    {od_BadText_init an_BadText_init : Option Addr} {sl_BadText_init : Array (Option Value)} {oc_BadText_init kV_BadText_init dc_BadText_init pm_BadText_init cd_BadText_init ct_BadText_init : Value}
    {od_BadDeed_init an_BadDeed_init : Option Addr} {sl_BadDeed_init : Array (Option Value)} {oc_BadDeed_init kV_BadDeed_init dc_BadDeed_init pm_BadDeed_init cd_BadDeed_init ct_BadDeed_init : Value}
    {od_TooMany_init an_TooMany_init : Option Addr} {sl_TooMany_init : Array (Option Value)} {oc_TooMany_init kV_TooMany_init dc_TooMany_init pm_TooMany_init cd_TooMany_init ct_TooMany_init : Value}
    {od_l_start an_l_start : Option Addr} {sl_l_start : Array (Option Value)} {oc_l_start kV_l_start dc_l_start pm_l_start cd_l_start ct_l_start : Value}
    {od_l_draw an_l_draw : Option Addr} {sl_l_draw : Array (Option Value)} {oc_l_draw kV_l_draw dc_l_draw pm_l_draw cd_l_draw ct_l_draw : Value}
    {od_l_kinds an_l_kinds : Option Addr} {sl_l_kinds : Array (Option Value)} {oc_l_kinds kV_l_kinds dc_l_kinds pm_l_kinds cd_l_kinds ct_l_kinds : Value}
    {od_l_throw an_l_throw : Option Addr} {sl_l_throw : Array (Option Value)} {oc_l_throw kV_l_throw dc_l_throw pm_l_throw cd_l_throw ct_l_throw : Value}
    {od_l_caught an_l_caught : Option Addr} {sl_l_caught : Array (Option Value)} {oc_l_caught kV_l_caught dc_l_caught pm_l_caught cd_l_caught ct_l_caught : Value}
    {od_l_holds an_l_holds : Option Addr} {sl_l_holds : Array (Option Value)} {oc_l_holds kV_l_holds dc_l_holds pm_l_holds cd_l_holds ct_l_holds : Value}
    {od_l_values an_l_values : Option Addr} {sl_l_values : Array (Option Value)} {oc_l_values kV_l_values dc_l_values pm_l_values cd_l_values ct_l_values : Value}
    {od_law an_law : Option Addr} {sl_law : Array (Option Value)} {oc_law kV_law dc_law pm_law cd_law ct_law : Value}
    {nm_BadNumber q_BadNumber : Str} {N_BadNumber : Addr} {bs_BadNumber bm_BadNumber : List Value} {sn_BadNumber : List Str} {sub_BadNumber : List Value} {ab_BadNumber : Bool} {col_BadNumber : Option Bool} {dd_BadNumber : Option Addr} {m0_BadNumber m1_BadNumber m2_BadNumber m3_BadNumber m5_BadNumber : Option Value}
    {nm_BadLot q_BadLot : Str} {N_BadLot : Addr} {bs_BadLot bm_BadLot : List Value} {sn_BadLot : List Str} {sub_BadLot : List Value} {ab_BadLot : Bool} {col_BadLot : Option Bool} {dd_BadLot : Option Addr} {m0_BadLot m1_BadLot m2_BadLot m3_BadLot m5_BadLot : Option Value}
    {nm_NoMeeting q_NoMeeting : Str} {N_NoMeeting : Addr} {bs_NoMeeting bm_NoMeeting : List Value} {sn_NoMeeting : List Str} {sub_NoMeeting : List Value} {ab_NoMeeting : Bool} {col_NoMeeting : Option Bool} {dd_NoMeeting : Option Addr} {m0_NoMeeting m1_NoMeeting m2_NoMeeting m3_NoMeeting m5_NoMeeting : Option Value}
    {nm_BadTrade q_BadTrade : Str} {N_BadTrade : Addr} {bs_BadTrade bm_BadTrade : List Value} {sn_BadTrade : List Str} {sub_BadTrade : List Value} {ab_BadTrade : Bool} {col_BadTrade : Option Bool} {dd_BadTrade : Option Addr} {m0_BadTrade m1_BadTrade m2_BadTrade m3_BadTrade m5_BadTrade : Option Value}
    {nm_BadFlow q_BadFlow : Str} {N_BadFlow : Addr} {bs_BadFlow bm_BadFlow : List Value} {sn_BadFlow : List Str} {sub_BadFlow : List Value} {ab_BadFlow : Bool} {col_BadFlow : Option Bool} {dd_BadFlow : Option Addr} {m0_BadFlow m1_BadFlow m2_BadFlow m3_BadFlow m5_BadFlow : Option Value}
    {nm_BadText q_BadText : Str} {N_BadText : Addr} {bs_BadText bm_BadText : List Value} {sn_BadText : List Str} {sub_BadText : List Value} {ab_BadText : Bool} {col_BadText : Option Bool} {dd_BadText : Option Addr} {m0_BadText m1_BadText m2_BadText m3_BadText m5_BadText : Option Value}
    {nm_BadDeed q_BadDeed : Str} {N_BadDeed : Addr} {bs_BadDeed bm_BadDeed : List Value} {sn_BadDeed : List Str} {sub_BadDeed : List Value} {ab_BadDeed : Bool} {col_BadDeed : Option Bool} {dd_BadDeed : Option Addr} {m0_BadDeed m1_BadDeed m2_BadDeed m3_BadDeed m5_BadDeed : Option Value}
    {nm_TooMany q_TooMany : Str} {N_TooMany : Addr} {bs_TooMany bm_TooMany : List Value} {sn_TooMany : List Str} {sub_TooMany : List Value} {ab_TooMany : Bool} {col_TooMany : Option Bool} {dd_TooMany : Option Addr} {m0_TooMany m1_TooMany m2_TooMany m3_TooMany m5_TooMany : Option Value}
    (aC_VoteError : PySem.W.nsIn K mainGlobals "VoteError" = some (some (.ref ca_VoteError)))
    (aC_BadNumber : PySem.W.nsIn K mainGlobals "BadNumber" = some (some (.ref ca_BadNumber)))
    (aC_BadLot : PySem.W.nsIn K mainGlobals "BadLot" = some (some (.ref ca_BadLot)))
    (aC_NoMeeting : PySem.W.nsIn K mainGlobals "NoMeeting" = some (some (.ref ca_NoMeeting)))
    (aC_BadTrade : PySem.W.nsIn K mainGlobals "BadTrade" = some (some (.ref ca_BadTrade)))
    (aC_BadFlow : PySem.W.nsIn K mainGlobals "BadFlow" = some (some (.ref ca_BadFlow)))
    (aC_BadText : PySem.W.nsIn K mainGlobals "BadText" = some (some (.ref ca_BadText)))
    (aC_BadDeed : PySem.W.nsIn K mainGlobals "BadDeed" = some (some (.ref ca_BadDeed)))
    (aC_TooMany : PySem.W.nsIn K mainGlobals "TooMany" = some (some (.ref ca_TooMany)))
    (aC_Unlike : PySem.W.nsIn K mainGlobals "Unlike" = some (some (.ref ca_Unlike)))
    (aC_NothingToUndo : PySem.W.nsIn K mainGlobals "NothingToUndo" = some (some (.ref ca_NothingToUndo)))
    (a_BadNumber_init : PySem.W.findIn K (.ref ca_BadNumber) "__init__" = some (some (.ref fa_BadNumber_init)))
    (l_BadNumber_init : K.lookup fa_BadNumber_init = some ⟨oc_BadNumber_init, od_BadNumber_init, .func (PySem.W.fnOf "__init__" "BadNumber.__init__" (defArgs s_BadNumber_init) (defBody s_BadNumber_init) (defScope s_BadNumber_init) .none kV_BadNumber_init dc_BadNumber_init pm_BadNumber_init an_BadNumber_init cd_BadNumber_init ct_BadNumber_init), sl_BadNumber_init⟩)
    (cc_BadNumber_init : PySem.W.codeIn K cd_BadNumber_init "BadNumber.__init__" = true)
    (kk_BadNumber_init : PySem.W.keepIn K (.ref fa_BadNumber_init) = true)
    (a_BadLot_init : PySem.W.findIn K (.ref ca_BadLot) "__init__" = some (some (.ref fa_BadLot_init)))
    (l_BadLot_init : K.lookup fa_BadLot_init = some ⟨oc_BadLot_init, od_BadLot_init, .func (PySem.W.fnOf "__init__" "BadLot.__init__" (defArgs s_BadLot_init) (defBody s_BadLot_init) (defScope s_BadLot_init) .none kV_BadLot_init dc_BadLot_init pm_BadLot_init an_BadLot_init cd_BadLot_init ct_BadLot_init), sl_BadLot_init⟩)
    (cc_BadLot_init : PySem.W.codeIn K cd_BadLot_init "BadLot.__init__" = true)
    (kk_BadLot_init : PySem.W.keepIn K (.ref fa_BadLot_init) = true)
    (a_NoMeeting_init : PySem.W.findIn K (.ref ca_NoMeeting) "__init__" = some (some (.ref fa_NoMeeting_init)))
    (l_NoMeeting_init : K.lookup fa_NoMeeting_init = some ⟨oc_NoMeeting_init, od_NoMeeting_init, .func (PySem.W.fnOf "__init__" "NoMeeting.__init__" (defArgs s_NoMeeting_init) (defBody s_NoMeeting_init) (defScope s_NoMeeting_init) .none kV_NoMeeting_init dc_NoMeeting_init pm_NoMeeting_init an_NoMeeting_init cd_NoMeeting_init ct_NoMeeting_init), sl_NoMeeting_init⟩)
    (cc_NoMeeting_init : PySem.W.codeIn K cd_NoMeeting_init "NoMeeting.__init__" = true)
    (kk_NoMeeting_init : PySem.W.keepIn K (.ref fa_NoMeeting_init) = true)
    (a_BadTrade_init : PySem.W.findIn K (.ref ca_BadTrade) "__init__" = some (some (.ref fa_BadTrade_init)))
    (l_BadTrade_init : K.lookup fa_BadTrade_init = some ⟨oc_BadTrade_init, od_BadTrade_init, .func (PySem.W.fnOf "__init__" "BadTrade.__init__" (defArgs s_BadTrade_init) (defBody s_BadTrade_init) (defScope s_BadTrade_init) .none kV_BadTrade_init dc_BadTrade_init pm_BadTrade_init an_BadTrade_init cd_BadTrade_init ct_BadTrade_init), sl_BadTrade_init⟩)
    (cc_BadTrade_init : PySem.W.codeIn K cd_BadTrade_init "BadTrade.__init__" = true)
    (kk_BadTrade_init : PySem.W.keepIn K (.ref fa_BadTrade_init) = true)
    (a_BadFlow_init : PySem.W.findIn K (.ref ca_BadFlow) "__init__" = some (some (.ref fa_BadFlow_init)))
    (l_BadFlow_init : K.lookup fa_BadFlow_init = some ⟨oc_BadFlow_init, od_BadFlow_init, .func (PySem.W.fnOf "__init__" "BadFlow.__init__" (defArgs s_BadFlow_init) (defBody s_BadFlow_init) (defScope s_BadFlow_init) .none kV_BadFlow_init dc_BadFlow_init pm_BadFlow_init an_BadFlow_init cd_BadFlow_init ct_BadFlow_init), sl_BadFlow_init⟩)
    (cc_BadFlow_init : PySem.W.codeIn K cd_BadFlow_init "BadFlow.__init__" = true)
    (kk_BadFlow_init : PySem.W.keepIn K (.ref fa_BadFlow_init) = true)
    (a_BadText_init : PySem.W.findIn K (.ref ca_BadText) "__init__" = some (some (.ref fa_BadText_init)))
    (l_BadText_init : K.lookup fa_BadText_init = some ⟨oc_BadText_init, od_BadText_init, .func (PySem.W.fnOf "__init__" "BadText.__init__" (defArgs s_BadText_init) (defBody s_BadText_init) (defScope s_BadText_init) .none kV_BadText_init dc_BadText_init pm_BadText_init an_BadText_init cd_BadText_init ct_BadText_init), sl_BadText_init⟩)
    (cc_BadText_init : PySem.W.codeIn K cd_BadText_init "BadText.__init__" = true)
    (kk_BadText_init : PySem.W.keepIn K (.ref fa_BadText_init) = true)
    (a_BadDeed_init : PySem.W.findIn K (.ref ca_BadDeed) "__init__" = some (some (.ref fa_BadDeed_init)))
    (l_BadDeed_init : K.lookup fa_BadDeed_init = some ⟨oc_BadDeed_init, od_BadDeed_init, .func (PySem.W.fnOf "__init__" "BadDeed.__init__" (defArgs s_BadDeed_init) (defBody s_BadDeed_init) (defScope s_BadDeed_init) .none kV_BadDeed_init dc_BadDeed_init pm_BadDeed_init an_BadDeed_init cd_BadDeed_init ct_BadDeed_init), sl_BadDeed_init⟩)
    (cc_BadDeed_init : PySem.W.codeIn K cd_BadDeed_init "BadDeed.__init__" = true)
    (kk_BadDeed_init : PySem.W.keepIn K (.ref fa_BadDeed_init) = true)
    (a_TooMany_init : PySem.W.findIn K (.ref ca_TooMany) "__init__" = some (some (.ref fa_TooMany_init)))
    (l_TooMany_init : K.lookup fa_TooMany_init = some ⟨oc_TooMany_init, od_TooMany_init, .func (PySem.W.fnOf "__init__" "TooMany.__init__" (defArgs s_TooMany_init) (defBody s_TooMany_init) (defScope s_TooMany_init) .none kV_TooMany_init dc_TooMany_init pm_TooMany_init an_TooMany_init cd_TooMany_init ct_TooMany_init), sl_TooMany_init⟩)
    (cc_TooMany_init : PySem.W.codeIn K cd_TooMany_init "TooMany.__init__" = true)
    (kk_TooMany_init : PySem.W.keepIn K (.ref fa_TooMany_init) = true)
    (a_l_start : PySem.W.nsIn K mainGlobals "_law_start" = some (some (.ref fa_l_start)))
    (l_l_start : K.lookup fa_l_start = some ⟨oc_l_start, od_l_start, .func (PySem.W.fnOf "_law_start" "_law_start" (defArgs s_l_start) (defBody s_l_start) (defScope s_l_start) .none kV_l_start dc_l_start pm_l_start an_l_start cd_l_start ct_l_start), sl_l_start⟩)
    (cc_l_start : PySem.W.codeIn K cd_l_start "_law_start" = true)
    (kk_l_start : PySem.W.keepIn K (.ref fa_l_start) = true)
    (a_l_draw : PySem.W.nsIn K mainGlobals "_law_draw" = some (some (.ref fa_l_draw)))
    (l_l_draw : K.lookup fa_l_draw = some ⟨oc_l_draw, od_l_draw, .func (PySem.W.fnOf "_law_draw" "_law_draw" (defArgs s_l_draw) (defBody s_l_draw) (defScope s_l_draw) .none kV_l_draw dc_l_draw pm_l_draw an_l_draw cd_l_draw ct_l_draw), sl_l_draw⟩)
    (cc_l_draw : PySem.W.codeIn K cd_l_draw "_law_draw" = true)
    (kk_l_draw : PySem.W.keepIn K (.ref fa_l_draw) = true)
    (a_l_kinds : PySem.W.nsIn K mainGlobals "_law_kinds" = some (some (.ref fa_l_kinds)))
    (l_l_kinds : K.lookup fa_l_kinds = some ⟨oc_l_kinds, od_l_kinds, .func (PySem.W.fnOf "_law_kinds" "_law_kinds" (defArgs s_l_kinds) (defBody s_l_kinds) (defScope s_l_kinds) .none kV_l_kinds dc_l_kinds pm_l_kinds an_l_kinds cd_l_kinds ct_l_kinds), sl_l_kinds⟩)
    (cc_l_kinds : PySem.W.codeIn K cd_l_kinds "_law_kinds" = true)
    (kk_l_kinds : PySem.W.keepIn K (.ref fa_l_kinds) = true)
    (a_l_throw : PySem.W.nsIn K mainGlobals "_law_throw" = some (some (.ref fa_l_throw)))
    (l_l_throw : K.lookup fa_l_throw = some ⟨oc_l_throw, od_l_throw, .func (PySem.W.fnOf "_law_throw" "_law_throw" (defArgs s_l_throw) (defBody s_l_throw) (defScope s_l_throw) .none kV_l_throw dc_l_throw pm_l_throw an_l_throw cd_l_throw ct_l_throw), sl_l_throw⟩)
    (cc_l_throw : PySem.W.codeIn K cd_l_throw "_law_throw" = true)
    (kk_l_throw : PySem.W.keepIn K (.ref fa_l_throw) = true)
    (a_l_caught : PySem.W.nsIn K mainGlobals "_law_caught" = some (some (.ref fa_l_caught)))
    (l_l_caught : K.lookup fa_l_caught = some ⟨oc_l_caught, od_l_caught, .func (PySem.W.fnOf "_law_caught" "_law_caught" (defArgs s_l_caught) (defBody s_l_caught) (defScope s_l_caught) .none kV_l_caught dc_l_caught pm_l_caught an_l_caught cd_l_caught ct_l_caught), sl_l_caught⟩)
    (cc_l_caught : PySem.W.codeIn K cd_l_caught "_law_caught" = true)
    (kk_l_caught : PySem.W.keepIn K (.ref fa_l_caught) = true)
    (a_l_holds : PySem.W.nsIn K mainGlobals "_law_holds" = some (some (.ref fa_l_holds)))
    (l_l_holds : K.lookup fa_l_holds = some ⟨oc_l_holds, od_l_holds, .func (PySem.W.fnOf "_law_holds" "_law_holds" (defArgs s_l_holds) (defBody s_l_holds) (defScope s_l_holds) .none kV_l_holds dc_l_holds pm_l_holds an_l_holds cd_l_holds ct_l_holds), sl_l_holds⟩)
    (cc_l_holds : PySem.W.codeIn K cd_l_holds "_law_holds" = true)
    (kk_l_holds : PySem.W.keepIn K (.ref fa_l_holds) = true)
    (a_l_values : PySem.W.nsIn K mainGlobals "_law_values" = some (some (.ref fa_l_values)))
    (l_l_values : K.lookup fa_l_values = some ⟨oc_l_values, od_l_values, .func (PySem.W.fnOf "_law_values" "_law_values" (defArgs s_l_values) (defBody s_l_values) (defScope s_l_values) .none kV_l_values dc_l_values pm_l_values an_l_values cd_l_values ct_l_values), sl_l_values⟩)
    (cc_l_values : PySem.W.codeIn K cd_l_values "_law_values" = true)
    (kk_l_values : PySem.W.keepIn K (.ref fa_l_values) = true)
    (a_law : PySem.W.nsIn K mainGlobals "law" = some (some (.ref fa_law)))
    (l_law : K.lookup fa_law = some ⟨oc_law, od_law, .func (PySem.W.fnOf "law" "law" (defArgs s_law) (defBody s_law) (defScope s_law) .none kV_law dc_law pm_law an_law cd_law ct_law), sl_law⟩)
    (cc_law : PySem.W.codeIn K cd_law "law" = true)
    (kk_law : PySem.W.keepIn K (.ref fa_law) = true)
    (xL_BadNumber : K.lookup ca_BadNumber = some (excClassObj nm_BadNumber q_BadNumber ca_BadNumber N_BadNumber bs_BadNumber bm_BadNumber true sn_BadNumber sub_BadNumber ab_BadNumber col_BadNumber dd_BadNumber m0_BadNumber m1_BadNumber m2_BadNumber m3_BadNumber m5_BadNumber "ValueError.__new__"))
    (bm_ok_BadNumber : PySem.HandSPX.refsVE bm_BadNumber = true)
    (sa_BadNumber : PySem.W.findIn K (.ref ca_BadNumber) "__setattr__" = some (some (.builtin "object.__setattr__")))
    (eC_BadNumber : PySem.W.subIn K (.ref ca_BadNumber) (.type "BaseException") = some true)
    (tC_BadNumber : PySem.W.typeIn K (.ref ca_BadNumber) = some (.type "type"))
    (kC_BadNumber : PySem.W.keepIn K (.ref ca_BadNumber) = true)
    (tI_BadNumber : PySem.W.typeIn K (.ref fa_BadNumber_init) = some (.type "function"))
    (ga_BadNumber : PySem.W.findIn K (.ref ca_BadNumber) "__getattribute__" = some (some (.builtin "BaseException.__getattribute__")))
    (gg_BadNumber : PySem.W.findIn K (.ref ca_BadNumber) "__getattr__" = some none)
    (hd_BadNumber : PySem.W.hasDictIn K ca_BadNumber = true)
    (ic_BadNumber : PySem.W.isClsIn K ca_BadNumber = true)
    (cc_BadNumber : PySem.W.findIn K (.ref ca_BadNumber) "__class__" = some (some (.builtin "object.__class__")))
    (cm_BadNumber : PySem.W.mroIn K ca_BadNumber (.type "object") = some true)
    (n_BadNumber_what : PySem.W.findIn K (.ref ca_BadNumber) "what" = some none)
    (n_BadNumber_value : PySem.W.findIn K (.ref ca_BadNumber) "value" = some none)
    (xL_BadLot : K.lookup ca_BadLot = some (excClassObj nm_BadLot q_BadLot ca_BadLot N_BadLot bs_BadLot bm_BadLot true sn_BadLot sub_BadLot ab_BadLot col_BadLot dd_BadLot m0_BadLot m1_BadLot m2_BadLot m3_BadLot m5_BadLot "ValueError.__new__"))
    (bm_ok_BadLot : PySem.HandSPX.refsVE bm_BadLot = true)
    (sa_BadLot : PySem.W.findIn K (.ref ca_BadLot) "__setattr__" = some (some (.builtin "object.__setattr__")))
    (eC_BadLot : PySem.W.subIn K (.ref ca_BadLot) (.type "BaseException") = some true)
    (tC_BadLot : PySem.W.typeIn K (.ref ca_BadLot) = some (.type "type"))
    (kC_BadLot : PySem.W.keepIn K (.ref ca_BadLot) = true)
    (tI_BadLot : PySem.W.typeIn K (.ref fa_BadLot_init) = some (.type "function"))
    (ga_BadLot : PySem.W.findIn K (.ref ca_BadLot) "__getattribute__" = some (some (.builtin "BaseException.__getattribute__")))
    (gg_BadLot : PySem.W.findIn K (.ref ca_BadLot) "__getattr__" = some none)
    (hd_BadLot : PySem.W.hasDictIn K ca_BadLot = true)
    (ic_BadLot : PySem.W.isClsIn K ca_BadLot = true)
    (cc_BadLot : PySem.W.findIn K (.ref ca_BadLot) "__class__" = some (some (.builtin "object.__class__")))
    (cm_BadLot : PySem.W.mroIn K ca_BadLot (.type "object") = some true)
    (n_BadLot_place : PySem.W.findIn K (.ref ca_BadLot) "place" = some none)
    (xL_NoMeeting : K.lookup ca_NoMeeting = some (excClassObj nm_NoMeeting q_NoMeeting ca_NoMeeting N_NoMeeting bs_NoMeeting bm_NoMeeting true sn_NoMeeting sub_NoMeeting ab_NoMeeting col_NoMeeting dd_NoMeeting m0_NoMeeting m1_NoMeeting m2_NoMeeting m3_NoMeeting m5_NoMeeting "ValueError.__new__"))
    (bm_ok_NoMeeting : PySem.HandSPX.refsVE bm_NoMeeting = true)
    (sa_NoMeeting : PySem.W.findIn K (.ref ca_NoMeeting) "__setattr__" = some (some (.builtin "object.__setattr__")))
    (eC_NoMeeting : PySem.W.subIn K (.ref ca_NoMeeting) (.type "BaseException") = some true)
    (tC_NoMeeting : PySem.W.typeIn K (.ref ca_NoMeeting) = some (.type "type"))
    (kC_NoMeeting : PySem.W.keepIn K (.ref ca_NoMeeting) = true)
    (tI_NoMeeting : PySem.W.typeIn K (.ref fa_NoMeeting_init) = some (.type "function"))
    (ga_NoMeeting : PySem.W.findIn K (.ref ca_NoMeeting) "__getattribute__" = some (some (.builtin "BaseException.__getattribute__")))
    (gg_NoMeeting : PySem.W.findIn K (.ref ca_NoMeeting) "__getattr__" = some none)
    (hd_NoMeeting : PySem.W.hasDictIn K ca_NoMeeting = true)
    (ic_NoMeeting : PySem.W.isClsIn K ca_NoMeeting = true)
    (cc_NoMeeting : PySem.W.findIn K (.ref ca_NoMeeting) "__class__" = some (some (.builtin "object.__class__")))
    (cm_NoMeeting : PySem.W.mroIn K ca_NoMeeting (.type "object") = some true)
    (n_NoMeeting_read : PySem.W.findIn K (.ref ca_NoMeeting) "read" = some none)
    (n_NoMeeting_write : PySem.W.findIn K (.ref ca_NoMeeting) "write" = some none)
    (xL_BadTrade : K.lookup ca_BadTrade = some (excClassObj nm_BadTrade q_BadTrade ca_BadTrade N_BadTrade bs_BadTrade bm_BadTrade true sn_BadTrade sub_BadTrade ab_BadTrade col_BadTrade dd_BadTrade m0_BadTrade m1_BadTrade m2_BadTrade m3_BadTrade m5_BadTrade "ValueError.__new__"))
    (bm_ok_BadTrade : PySem.HandSPX.refsVE bm_BadTrade = true)
    (sa_BadTrade : PySem.W.findIn K (.ref ca_BadTrade) "__setattr__" = some (some (.builtin "object.__setattr__")))
    (eC_BadTrade : PySem.W.subIn K (.ref ca_BadTrade) (.type "BaseException") = some true)
    (tC_BadTrade : PySem.W.typeIn K (.ref ca_BadTrade) = some (.type "type"))
    (kC_BadTrade : PySem.W.keepIn K (.ref ca_BadTrade) = true)
    (tI_BadTrade : PySem.W.typeIn K (.ref fa_BadTrade_init) = some (.type "function"))
    (ga_BadTrade : PySem.W.findIn K (.ref ca_BadTrade) "__getattribute__" = some (some (.builtin "BaseException.__getattribute__")))
    (gg_BadTrade : PySem.W.findIn K (.ref ca_BadTrade) "__getattr__" = some none)
    (hd_BadTrade : PySem.W.hasDictIn K ca_BadTrade = true)
    (ic_BadTrade : PySem.W.isClsIn K ca_BadTrade = true)
    (cc_BadTrade : PySem.W.findIn K (.ref ca_BadTrade) "__class__" = some (some (.builtin "object.__class__")))
    (cm_BadTrade : PySem.W.mroIn K ca_BadTrade (.type "object") = some true)
    (n_BadTrade_place : PySem.W.findIn K (.ref ca_BadTrade) "place" = some none)
    (n_BadTrade_reason : PySem.W.findIn K (.ref ca_BadTrade) "reason" = some none)
    (xL_BadFlow : K.lookup ca_BadFlow = some (excClassObj nm_BadFlow q_BadFlow ca_BadFlow N_BadFlow bs_BadFlow bm_BadFlow true sn_BadFlow sub_BadFlow ab_BadFlow col_BadFlow dd_BadFlow m0_BadFlow m1_BadFlow m2_BadFlow m3_BadFlow m5_BadFlow "ValueError.__new__"))
    (bm_ok_BadFlow : PySem.HandSPX.refsVE bm_BadFlow = true)
    (sa_BadFlow : PySem.W.findIn K (.ref ca_BadFlow) "__setattr__" = some (some (.builtin "object.__setattr__")))
    (eC_BadFlow : PySem.W.subIn K (.ref ca_BadFlow) (.type "BaseException") = some true)
    (tC_BadFlow : PySem.W.typeIn K (.ref ca_BadFlow) = some (.type "type"))
    (kC_BadFlow : PySem.W.keepIn K (.ref ca_BadFlow) = true)
    (tI_BadFlow : PySem.W.typeIn K (.ref fa_BadFlow_init) = some (.type "function"))
    (ga_BadFlow : PySem.W.findIn K (.ref ca_BadFlow) "__getattribute__" = some (some (.builtin "BaseException.__getattribute__")))
    (gg_BadFlow : PySem.W.findIn K (.ref ca_BadFlow) "__getattr__" = some none)
    (hd_BadFlow : PySem.W.hasDictIn K ca_BadFlow = true)
    (ic_BadFlow : PySem.W.isClsIn K ca_BadFlow = true)
    (cc_BadFlow : PySem.W.findIn K (.ref ca_BadFlow) "__class__" = some (some (.builtin "object.__class__")))
    (cm_BadFlow : PySem.W.mroIn K ca_BadFlow (.type "object") = some true)
    (n_BadFlow_lot : PySem.W.findIn K (.ref ca_BadFlow) "lot" = some none)
    (n_BadFlow_member : PySem.W.findIn K (.ref ca_BadFlow) "member" = some none)
    (xL_BadText : K.lookup ca_BadText = some (excClassObj nm_BadText q_BadText ca_BadText N_BadText bs_BadText bm_BadText true sn_BadText sub_BadText ab_BadText col_BadText dd_BadText m0_BadText m1_BadText m2_BadText m3_BadText m5_BadText "ValueError.__new__"))
    (bm_ok_BadText : PySem.HandSPX.refsVE bm_BadText = true)
    (sa_BadText : PySem.W.findIn K (.ref ca_BadText) "__setattr__" = some (some (.builtin "object.__setattr__")))
    (eC_BadText : PySem.W.subIn K (.ref ca_BadText) (.type "BaseException") = some true)
    (tC_BadText : PySem.W.typeIn K (.ref ca_BadText) = some (.type "type"))
    (kC_BadText : PySem.W.keepIn K (.ref ca_BadText) = true)
    (tI_BadText : PySem.W.typeIn K (.ref fa_BadText_init) = some (.type "function"))
    (ga_BadText : PySem.W.findIn K (.ref ca_BadText) "__getattribute__" = some (some (.builtin "BaseException.__getattribute__")))
    (gg_BadText : PySem.W.findIn K (.ref ca_BadText) "__getattr__" = some none)
    (hd_BadText : PySem.W.hasDictIn K ca_BadText = true)
    (ic_BadText : PySem.W.isClsIn K ca_BadText = true)
    (cc_BadText : PySem.W.findIn K (.ref ca_BadText) "__class__" = some (some (.builtin "object.__class__")))
    (cm_BadText : PySem.W.mroIn K ca_BadText (.type "object") = some true)
    (n_BadText_line : PySem.W.findIn K (.ref ca_BadText) "line" = some none)
    (xL_BadDeed : K.lookup ca_BadDeed = some (excClassObj nm_BadDeed q_BadDeed ca_BadDeed N_BadDeed bs_BadDeed bm_BadDeed true sn_BadDeed sub_BadDeed ab_BadDeed col_BadDeed dd_BadDeed m0_BadDeed m1_BadDeed m2_BadDeed m3_BadDeed m5_BadDeed "ValueError.__new__"))
    (bm_ok_BadDeed : PySem.HandSPX.refsVE bm_BadDeed = true)
    (sa_BadDeed : PySem.W.findIn K (.ref ca_BadDeed) "__setattr__" = some (some (.builtin "object.__setattr__")))
    (eC_BadDeed : PySem.W.subIn K (.ref ca_BadDeed) (.type "BaseException") = some true)
    (tC_BadDeed : PySem.W.typeIn K (.ref ca_BadDeed) = some (.type "type"))
    (kC_BadDeed : PySem.W.keepIn K (.ref ca_BadDeed) = true)
    (tI_BadDeed : PySem.W.typeIn K (.ref fa_BadDeed_init) = some (.type "function"))
    (ga_BadDeed : PySem.W.findIn K (.ref ca_BadDeed) "__getattribute__" = some (some (.builtin "BaseException.__getattribute__")))
    (gg_BadDeed : PySem.W.findIn K (.ref ca_BadDeed) "__getattr__" = some none)
    (hd_BadDeed : PySem.W.hasDictIn K ca_BadDeed = true)
    (ic_BadDeed : PySem.W.isClsIn K ca_BadDeed = true)
    (cc_BadDeed : PySem.W.findIn K (.ref ca_BadDeed) "__class__" = some (some (.builtin "object.__class__")))
    (cm_BadDeed : PySem.W.mroIn K ca_BadDeed (.type "object") = some true)
    (n_BadDeed_place : PySem.W.findIn K (.ref ca_BadDeed) "place" = some none)
    (xL_TooMany : K.lookup ca_TooMany = some (excClassObj nm_TooMany q_TooMany ca_TooMany N_TooMany bs_TooMany bm_TooMany true sn_TooMany sub_TooMany ab_TooMany col_TooMany dd_TooMany m0_TooMany m1_TooMany m2_TooMany m3_TooMany m5_TooMany "ValueError.__new__"))
    (bm_ok_TooMany : PySem.HandSPX.refsVE bm_TooMany = true)
    (sa_TooMany : PySem.W.findIn K (.ref ca_TooMany) "__setattr__" = some (some (.builtin "object.__setattr__")))
    (eC_TooMany : PySem.W.subIn K (.ref ca_TooMany) (.type "BaseException") = some true)
    (tC_TooMany : PySem.W.typeIn K (.ref ca_TooMany) = some (.type "type"))
    (kC_TooMany : PySem.W.keepIn K (.ref ca_TooMany) = true)
    (tI_TooMany : PySem.W.typeIn K (.ref fa_TooMany_init) = some (.type "function"))
    (ga_TooMany : PySem.W.findIn K (.ref ca_TooMany) "__getattribute__" = some (some (.builtin "BaseException.__getattribute__")))
    (gg_TooMany : PySem.W.findIn K (.ref ca_TooMany) "__getattr__" = some none)
    (hd_TooMany : PySem.W.hasDictIn K ca_TooMany = true)
    (ic_TooMany : PySem.W.isClsIn K ca_TooMany = true)
    (cc_TooMany : PySem.W.findIn K (.ref ca_TooMany) "__class__" = some (some (.builtin "object.__class__")))
    (cm_TooMany : PySem.W.mroIn K ca_TooMany (.type "object") = some true)
    (n_TooMany_limit : PySem.W.findIn K (.ref ca_TooMany) "limit" = some none)
    (q0_Unlike : PySem.W.excIn K ca_Unlike VEb "ValueError.__new__" = true)
    (kC_Unlike : PySem.W.keepIn K (.ref ca_Unlike) = true)
    (eC_Unlike : PySem.W.subIn K (.ref ca_Unlike) (.type "BaseException") = some true)
    (tC_Unlike : PySem.W.typeIn K (.ref ca_Unlike) = some (.type "type"))
    (ga_Unlike : PySem.W.findIn K (.ref ca_Unlike) "__getattribute__" = some (some (.builtin "BaseException.__getattribute__")))
    (gg_Unlike : PySem.W.findIn K (.ref ca_Unlike) "__getattr__" = some none)
    (ic_Unlike : PySem.W.isClsIn K ca_Unlike = true)
    (cc_Unlike : PySem.W.findIn K (.ref ca_Unlike) "__class__" = some (some (.builtin "object.__class__")))
    (cm_Unlike : PySem.W.mroIn K ca_Unlike (.type "object") = some true)
    (q0_NothingToUndo : PySem.W.excIn K ca_NothingToUndo VEb "ValueError.__new__" = true)
    (kC_NothingToUndo : PySem.W.keepIn K (.ref ca_NothingToUndo) = true)
    (eC_NothingToUndo : PySem.W.subIn K (.ref ca_NothingToUndo) (.type "BaseException") = some true)
    (tC_NothingToUndo : PySem.W.typeIn K (.ref ca_NothingToUndo) = some (.type "type"))
    (ga_NothingToUndo : PySem.W.findIn K (.ref ca_NothingToUndo) "__getattribute__" = some (some (.builtin "BaseException.__getattribute__")))
    (gg_NothingToUndo : PySem.W.findIn K (.ref ca_NothingToUndo) "__getattr__" = some none)
    (ic_NothingToUndo : PySem.W.isClsIn K ca_NothingToUndo = true)
    (cc_NothingToUndo : PySem.W.findIn K (.ref ca_NothingToUndo) "__class__" = some (some (.builtin "object.__class__")))
    (cm_NothingToUndo : PySem.W.mroIn K ca_NothingToUndo (.type "object") = some true)
    (cn_ : PySem.W.specialIn K (.builtin "object.__class__") "__get__" = some (some (.builtin "getset_descriptor.__get__")))
    (ct_ : PySem.W.takesIn K (.builtin "object.__class__") = some true)
    (ki_BadNumber_BadNumber : PySem.W.kitOne K (.ref ca_BadNumber) (.ref ca_BadNumber) = some true)
    (ki_BadNumber_BadLot : PySem.W.kitOne K (.ref ca_BadNumber) (.ref ca_BadLot) = some false)
    (ki_BadNumber_NoMeeting : PySem.W.kitOne K (.ref ca_BadNumber) (.ref ca_NoMeeting) = some false)
    (ki_BadNumber_BadTrade : PySem.W.kitOne K (.ref ca_BadNumber) (.ref ca_BadTrade) = some false)
    (ki_BadNumber_BadFlow : PySem.W.kitOne K (.ref ca_BadNumber) (.ref ca_BadFlow) = some false)
    (ki_BadNumber_BadText : PySem.W.kitOne K (.ref ca_BadNumber) (.ref ca_BadText) = some false)
    (ki_BadNumber_BadDeed : PySem.W.kitOne K (.ref ca_BadNumber) (.ref ca_BadDeed) = some false)
    (ki_BadNumber_TooMany : PySem.W.kitOne K (.ref ca_BadNumber) (.ref ca_TooMany) = some false)
    (ki_BadNumber_Unlike : PySem.W.kitOne K (.ref ca_BadNumber) (.ref ca_Unlike) = some false)
    (ki_BadNumber_NothingToUndo : PySem.W.kitOne K (.ref ca_BadNumber) (.ref ca_NothingToUndo) = some false)
    (ki_BadNumber_VoteError : PySem.W.kitOne K (.ref ca_BadNumber) (.ref ca_VoteError) = some true)
    (ki_BadNumber_ValueError : PySem.W.kitOne K (.ref ca_BadNumber) (.type "ValueError") = some true)
    (ki_BadLot_BadNumber : PySem.W.kitOne K (.ref ca_BadLot) (.ref ca_BadNumber) = some false)
    (ki_BadLot_BadLot : PySem.W.kitOne K (.ref ca_BadLot) (.ref ca_BadLot) = some true)
    (ki_BadLot_NoMeeting : PySem.W.kitOne K (.ref ca_BadLot) (.ref ca_NoMeeting) = some false)
    (ki_BadLot_BadTrade : PySem.W.kitOne K (.ref ca_BadLot) (.ref ca_BadTrade) = some false)
    (ki_BadLot_BadFlow : PySem.W.kitOne K (.ref ca_BadLot) (.ref ca_BadFlow) = some false)
    (ki_BadLot_BadText : PySem.W.kitOne K (.ref ca_BadLot) (.ref ca_BadText) = some false)
    (ki_BadLot_BadDeed : PySem.W.kitOne K (.ref ca_BadLot) (.ref ca_BadDeed) = some false)
    (ki_BadLot_TooMany : PySem.W.kitOne K (.ref ca_BadLot) (.ref ca_TooMany) = some false)
    (ki_BadLot_Unlike : PySem.W.kitOne K (.ref ca_BadLot) (.ref ca_Unlike) = some false)
    (ki_BadLot_NothingToUndo : PySem.W.kitOne K (.ref ca_BadLot) (.ref ca_NothingToUndo) = some false)
    (ki_BadLot_VoteError : PySem.W.kitOne K (.ref ca_BadLot) (.ref ca_VoteError) = some true)
    (ki_BadLot_ValueError : PySem.W.kitOne K (.ref ca_BadLot) (.type "ValueError") = some true)
    (ki_NoMeeting_BadNumber : PySem.W.kitOne K (.ref ca_NoMeeting) (.ref ca_BadNumber) = some false)
    (ki_NoMeeting_BadLot : PySem.W.kitOne K (.ref ca_NoMeeting) (.ref ca_BadLot) = some false)
    (ki_NoMeeting_NoMeeting : PySem.W.kitOne K (.ref ca_NoMeeting) (.ref ca_NoMeeting) = some true)
    (ki_NoMeeting_BadTrade : PySem.W.kitOne K (.ref ca_NoMeeting) (.ref ca_BadTrade) = some false)
    (ki_NoMeeting_BadFlow : PySem.W.kitOne K (.ref ca_NoMeeting) (.ref ca_BadFlow) = some false)
    (ki_NoMeeting_BadText : PySem.W.kitOne K (.ref ca_NoMeeting) (.ref ca_BadText) = some false)
    (ki_NoMeeting_BadDeed : PySem.W.kitOne K (.ref ca_NoMeeting) (.ref ca_BadDeed) = some false)
    (ki_NoMeeting_TooMany : PySem.W.kitOne K (.ref ca_NoMeeting) (.ref ca_TooMany) = some false)
    (ki_NoMeeting_Unlike : PySem.W.kitOne K (.ref ca_NoMeeting) (.ref ca_Unlike) = some false)
    (ki_NoMeeting_NothingToUndo : PySem.W.kitOne K (.ref ca_NoMeeting) (.ref ca_NothingToUndo) = some false)
    (ki_NoMeeting_VoteError : PySem.W.kitOne K (.ref ca_NoMeeting) (.ref ca_VoteError) = some true)
    (ki_NoMeeting_ValueError : PySem.W.kitOne K (.ref ca_NoMeeting) (.type "ValueError") = some true)
    (ki_BadTrade_BadNumber : PySem.W.kitOne K (.ref ca_BadTrade) (.ref ca_BadNumber) = some false)
    (ki_BadTrade_BadLot : PySem.W.kitOne K (.ref ca_BadTrade) (.ref ca_BadLot) = some false)
    (ki_BadTrade_NoMeeting : PySem.W.kitOne K (.ref ca_BadTrade) (.ref ca_NoMeeting) = some false)
    (ki_BadTrade_BadTrade : PySem.W.kitOne K (.ref ca_BadTrade) (.ref ca_BadTrade) = some true)
    (ki_BadTrade_BadFlow : PySem.W.kitOne K (.ref ca_BadTrade) (.ref ca_BadFlow) = some false)
    (ki_BadTrade_BadText : PySem.W.kitOne K (.ref ca_BadTrade) (.ref ca_BadText) = some false)
    (ki_BadTrade_BadDeed : PySem.W.kitOne K (.ref ca_BadTrade) (.ref ca_BadDeed) = some false)
    (ki_BadTrade_TooMany : PySem.W.kitOne K (.ref ca_BadTrade) (.ref ca_TooMany) = some false)
    (ki_BadTrade_Unlike : PySem.W.kitOne K (.ref ca_BadTrade) (.ref ca_Unlike) = some false)
    (ki_BadTrade_NothingToUndo : PySem.W.kitOne K (.ref ca_BadTrade) (.ref ca_NothingToUndo) = some false)
    (ki_BadTrade_VoteError : PySem.W.kitOne K (.ref ca_BadTrade) (.ref ca_VoteError) = some true)
    (ki_BadTrade_ValueError : PySem.W.kitOne K (.ref ca_BadTrade) (.type "ValueError") = some true)
    (ki_BadFlow_BadNumber : PySem.W.kitOne K (.ref ca_BadFlow) (.ref ca_BadNumber) = some false)
    (ki_BadFlow_BadLot : PySem.W.kitOne K (.ref ca_BadFlow) (.ref ca_BadLot) = some false)
    (ki_BadFlow_NoMeeting : PySem.W.kitOne K (.ref ca_BadFlow) (.ref ca_NoMeeting) = some false)
    (ki_BadFlow_BadTrade : PySem.W.kitOne K (.ref ca_BadFlow) (.ref ca_BadTrade) = some false)
    (ki_BadFlow_BadFlow : PySem.W.kitOne K (.ref ca_BadFlow) (.ref ca_BadFlow) = some true)
    (ki_BadFlow_BadText : PySem.W.kitOne K (.ref ca_BadFlow) (.ref ca_BadText) = some false)
    (ki_BadFlow_BadDeed : PySem.W.kitOne K (.ref ca_BadFlow) (.ref ca_BadDeed) = some false)
    (ki_BadFlow_TooMany : PySem.W.kitOne K (.ref ca_BadFlow) (.ref ca_TooMany) = some false)
    (ki_BadFlow_Unlike : PySem.W.kitOne K (.ref ca_BadFlow) (.ref ca_Unlike) = some false)
    (ki_BadFlow_NothingToUndo : PySem.W.kitOne K (.ref ca_BadFlow) (.ref ca_NothingToUndo) = some false)
    (ki_BadFlow_VoteError : PySem.W.kitOne K (.ref ca_BadFlow) (.ref ca_VoteError) = some true)
    (ki_BadFlow_ValueError : PySem.W.kitOne K (.ref ca_BadFlow) (.type "ValueError") = some true)
    (ki_BadText_BadNumber : PySem.W.kitOne K (.ref ca_BadText) (.ref ca_BadNumber) = some false)
    (ki_BadText_BadLot : PySem.W.kitOne K (.ref ca_BadText) (.ref ca_BadLot) = some false)
    (ki_BadText_NoMeeting : PySem.W.kitOne K (.ref ca_BadText) (.ref ca_NoMeeting) = some false)
    (ki_BadText_BadTrade : PySem.W.kitOne K (.ref ca_BadText) (.ref ca_BadTrade) = some false)
    (ki_BadText_BadFlow : PySem.W.kitOne K (.ref ca_BadText) (.ref ca_BadFlow) = some false)
    (ki_BadText_BadText : PySem.W.kitOne K (.ref ca_BadText) (.ref ca_BadText) = some true)
    (ki_BadText_BadDeed : PySem.W.kitOne K (.ref ca_BadText) (.ref ca_BadDeed) = some false)
    (ki_BadText_TooMany : PySem.W.kitOne K (.ref ca_BadText) (.ref ca_TooMany) = some false)
    (ki_BadText_Unlike : PySem.W.kitOne K (.ref ca_BadText) (.ref ca_Unlike) = some false)
    (ki_BadText_NothingToUndo : PySem.W.kitOne K (.ref ca_BadText) (.ref ca_NothingToUndo) = some false)
    (ki_BadText_VoteError : PySem.W.kitOne K (.ref ca_BadText) (.ref ca_VoteError) = some true)
    (ki_BadText_ValueError : PySem.W.kitOne K (.ref ca_BadText) (.type "ValueError") = some true)
    (ki_BadDeed_BadNumber : PySem.W.kitOne K (.ref ca_BadDeed) (.ref ca_BadNumber) = some false)
    (ki_BadDeed_BadLot : PySem.W.kitOne K (.ref ca_BadDeed) (.ref ca_BadLot) = some false)
    (ki_BadDeed_NoMeeting : PySem.W.kitOne K (.ref ca_BadDeed) (.ref ca_NoMeeting) = some false)
    (ki_BadDeed_BadTrade : PySem.W.kitOne K (.ref ca_BadDeed) (.ref ca_BadTrade) = some false)
    (ki_BadDeed_BadFlow : PySem.W.kitOne K (.ref ca_BadDeed) (.ref ca_BadFlow) = some false)
    (ki_BadDeed_BadText : PySem.W.kitOne K (.ref ca_BadDeed) (.ref ca_BadText) = some false)
    (ki_BadDeed_BadDeed : PySem.W.kitOne K (.ref ca_BadDeed) (.ref ca_BadDeed) = some true)
    (ki_BadDeed_TooMany : PySem.W.kitOne K (.ref ca_BadDeed) (.ref ca_TooMany) = some false)
    (ki_BadDeed_Unlike : PySem.W.kitOne K (.ref ca_BadDeed) (.ref ca_Unlike) = some false)
    (ki_BadDeed_NothingToUndo : PySem.W.kitOne K (.ref ca_BadDeed) (.ref ca_NothingToUndo) = some false)
    (ki_BadDeed_VoteError : PySem.W.kitOne K (.ref ca_BadDeed) (.ref ca_VoteError) = some true)
    (ki_BadDeed_ValueError : PySem.W.kitOne K (.ref ca_BadDeed) (.type "ValueError") = some true)
    (ki_TooMany_BadNumber : PySem.W.kitOne K (.ref ca_TooMany) (.ref ca_BadNumber) = some false)
    (ki_TooMany_BadLot : PySem.W.kitOne K (.ref ca_TooMany) (.ref ca_BadLot) = some false)
    (ki_TooMany_NoMeeting : PySem.W.kitOne K (.ref ca_TooMany) (.ref ca_NoMeeting) = some false)
    (ki_TooMany_BadTrade : PySem.W.kitOne K (.ref ca_TooMany) (.ref ca_BadTrade) = some false)
    (ki_TooMany_BadFlow : PySem.W.kitOne K (.ref ca_TooMany) (.ref ca_BadFlow) = some false)
    (ki_TooMany_BadText : PySem.W.kitOne K (.ref ca_TooMany) (.ref ca_BadText) = some false)
    (ki_TooMany_BadDeed : PySem.W.kitOne K (.ref ca_TooMany) (.ref ca_BadDeed) = some false)
    (ki_TooMany_TooMany : PySem.W.kitOne K (.ref ca_TooMany) (.ref ca_TooMany) = some true)
    (ki_TooMany_Unlike : PySem.W.kitOne K (.ref ca_TooMany) (.ref ca_Unlike) = some false)
    (ki_TooMany_NothingToUndo : PySem.W.kitOne K (.ref ca_TooMany) (.ref ca_NothingToUndo) = some false)
    (ki_TooMany_VoteError : PySem.W.kitOne K (.ref ca_TooMany) (.ref ca_VoteError) = some true)
    (ki_TooMany_ValueError : PySem.W.kitOne K (.ref ca_TooMany) (.type "ValueError") = some true)
    (ki_Unlike_BadNumber : PySem.W.kitOne K (.ref ca_Unlike) (.ref ca_BadNumber) = some false)
    (ki_Unlike_BadLot : PySem.W.kitOne K (.ref ca_Unlike) (.ref ca_BadLot) = some false)
    (ki_Unlike_NoMeeting : PySem.W.kitOne K (.ref ca_Unlike) (.ref ca_NoMeeting) = some false)
    (ki_Unlike_BadTrade : PySem.W.kitOne K (.ref ca_Unlike) (.ref ca_BadTrade) = some false)
    (ki_Unlike_BadFlow : PySem.W.kitOne K (.ref ca_Unlike) (.ref ca_BadFlow) = some false)
    (ki_Unlike_BadText : PySem.W.kitOne K (.ref ca_Unlike) (.ref ca_BadText) = some false)
    (ki_Unlike_BadDeed : PySem.W.kitOne K (.ref ca_Unlike) (.ref ca_BadDeed) = some false)
    (ki_Unlike_TooMany : PySem.W.kitOne K (.ref ca_Unlike) (.ref ca_TooMany) = some false)
    (ki_Unlike_Unlike : PySem.W.kitOne K (.ref ca_Unlike) (.ref ca_Unlike) = some true)
    (ki_Unlike_NothingToUndo : PySem.W.kitOne K (.ref ca_Unlike) (.ref ca_NothingToUndo) = some false)
    (ki_Unlike_VoteError : PySem.W.kitOne K (.ref ca_Unlike) (.ref ca_VoteError) = some true)
    (ki_Unlike_ValueError : PySem.W.kitOne K (.ref ca_Unlike) (.type "ValueError") = some true)
    (ki_NothingToUndo_BadNumber : PySem.W.kitOne K (.ref ca_NothingToUndo) (.ref ca_BadNumber) = some false)
    (ki_NothingToUndo_BadLot : PySem.W.kitOne K (.ref ca_NothingToUndo) (.ref ca_BadLot) = some false)
    (ki_NothingToUndo_NoMeeting : PySem.W.kitOne K (.ref ca_NothingToUndo) (.ref ca_NoMeeting) = some false)
    (ki_NothingToUndo_BadTrade : PySem.W.kitOne K (.ref ca_NothingToUndo) (.ref ca_BadTrade) = some false)
    (ki_NothingToUndo_BadFlow : PySem.W.kitOne K (.ref ca_NothingToUndo) (.ref ca_BadFlow) = some false)
    (ki_NothingToUndo_BadText : PySem.W.kitOne K (.ref ca_NothingToUndo) (.ref ca_BadText) = some false)
    (ki_NothingToUndo_BadDeed : PySem.W.kitOne K (.ref ca_NothingToUndo) (.ref ca_BadDeed) = some false)
    (ki_NothingToUndo_TooMany : PySem.W.kitOne K (.ref ca_NothingToUndo) (.ref ca_TooMany) = some false)
    (ki_NothingToUndo_Unlike : PySem.W.kitOne K (.ref ca_NothingToUndo) (.ref ca_Unlike) = some false)
    (ki_NothingToUndo_NothingToUndo : PySem.W.kitOne K (.ref ca_NothingToUndo) (.ref ca_NothingToUndo) = some true)
    (ki_NothingToUndo_VoteError : PySem.W.kitOne K (.ref ca_NothingToUndo) (.ref ca_VoteError) = some true)
    (ki_NothingToUndo_ValueError : PySem.W.kitOne K (.ref ca_NothingToUndo) (.type "ValueError") = some true)
    (eC_VoteError : PySem.W.subIn K (.ref ca_VoteError) (.type "BaseException") = some true)
    (tC_VoteError : PySem.W.typeIn K (.ref ca_VoteError) = some (.type "type"))
    (hd_VoteError : PySem.W.hasDictIn K ca_VoteError = true)
    (ic_VoteError : PySem.W.isClsIn K ca_VoteError = true)
    (sb_BadNumber_VoteError : PySem.W.subIn K (.ref ca_BadNumber) (.ref ca_VoteError) = some true)
    (sb_BadLot_VoteError : PySem.W.subIn K (.ref ca_BadLot) (.ref ca_VoteError) = some true)
    (sb_NoMeeting_VoteError : PySem.W.subIn K (.ref ca_NoMeeting) (.ref ca_VoteError) = some true)
    (sb_BadTrade_VoteError : PySem.W.subIn K (.ref ca_BadTrade) (.ref ca_VoteError) = some true)
    (sb_BadFlow_VoteError : PySem.W.subIn K (.ref ca_BadFlow) (.ref ca_VoteError) = some true)
    (sb_BadText_VoteError : PySem.W.subIn K (.ref ca_BadText) (.ref ca_VoteError) = some true)
    (sb_BadDeed_VoteError : PySem.W.subIn K (.ref ca_BadDeed) (.ref ca_VoteError) = some true)
    (sb_TooMany_VoteError : PySem.W.subIn K (.ref ca_TooMany) (.ref ca_VoteError) = some true)
    (sb_Unlike_VoteError : PySem.W.subIn K (.ref ca_Unlike) (.ref ca_VoteError) = some true)
    (sb_NothingToUndo_VoteError : PySem.W.subIn K (.ref ca_NothingToUndo) (.ref ca_VoteError) = some true)
    (mb_ValueError : PySem.W.nsIn K mainGlobals "ValueError" = some none)
    (mb_abs : PySem.W.nsIn K mainGlobals "abs" = some none)
    (mb_int : PySem.W.nsIn K mainGlobals "int" = some none)
    (mb_isinstance : PySem.W.nsIn K mainGlobals "isinstance" = some none)
    (mb_len : PySem.W.nsIn K mainGlobals "len" = some none)
    (mb_range : PySem.W.nsIn K mainGlobals "range" = some none) :
    ∃ fd : FuncData, (∀ (s : Shared) (v : Value), BindsTo s fd ⟨[v], []⟩ [("_law_script", v)]) ∧ ∀ base : Heap, K.In base → base.Ns mainGlobals mg → FnOk l.prog w K mg base CX0 6 fa fd ["_law_script"] (spLaw K) := by
  have e := hfa.symm.trans (PySem.W.mg_of X G a_law)
  cases e
  have FF_BadNumber_init := fun_mk (st := s_BadNumber_init) l_BadNumber_init cc_BadNumber_init kk_BadNumber_init
  have bb_BadNumber_init := FF_BadNumber_init.binds (ps := ["self", "what", "value"]) fun _ _ _ _ _ _ us hl => match us, hl with | [_, _, _], _ => rfl
  have FF_BadLot_init := fun_mk (st := s_BadLot_init) l_BadLot_init cc_BadLot_init kk_BadLot_init
  have bb_BadLot_init := FF_BadLot_init.binds (ps := ["self", "place"]) fun _ _ _ _ _ _ us hl => match us, hl with | [_, _], _ => rfl
  have FF_NoMeeting_init := fun_mk (st := s_NoMeeting_init) l_NoMeeting_init cc_NoMeeting_init kk_NoMeeting_init
  have bb_NoMeeting_init := FF_NoMeeting_init.binds (ps := ["self", "read", "write"]) fun _ _ _ _ _ _ us hl => match us, hl with | [_, _, _], _ => rfl
  have FF_BadTrade_init := fun_mk (st := s_BadTrade_init) l_BadTrade_init cc_BadTrade_init kk_BadTrade_init
  have bb_BadTrade_init := FF_BadTrade_init.binds (ps := ["self", "place", "reason"]) fun _ _ _ _ _ _ us hl => match us, hl with | [_, _, _], _ => rfl
  have FF_BadFlow_init := fun_mk (st := s_BadFlow_init) l_BadFlow_init cc_BadFlow_init kk_BadFlow_init
  have bb_BadFlow_init := FF_BadFlow_init.binds (ps := ["self", "lot", "member"]) fun _ _ _ _ _ _ us hl => match us, hl with | [_, _, _], _ => rfl
  have FF_BadText_init := fun_mk (st := s_BadText_init) l_BadText_init cc_BadText_init kk_BadText_init
  have bb_BadText_init := FF_BadText_init.binds (ps := ["self", "line"]) fun _ _ _ _ _ _ us hl => match us, hl with | [_, _], _ => rfl
  have FF_BadDeed_init := fun_mk (st := s_BadDeed_init) l_BadDeed_init cc_BadDeed_init kk_BadDeed_init
  have bb_BadDeed_init := FF_BadDeed_init.binds (ps := ["self", "place"]) fun _ _ _ _ _ _ us hl => match us, hl with | [_, _], _ => rfl
  have FF_TooMany_init := fun_mk (st := s_TooMany_init) l_TooMany_init cc_TooMany_init kk_TooMany_init
  have bb_TooMany_init := FF_TooMany_init.binds (ps := ["self", "limit"]) fun _ _ _ _ _ _ us hl => match us, hl with | [_, _], _ => rfl
  have FF_l_start := fun_mk (st := s_l_start) l_l_start cc_l_start kk_l_start
  have bb_l_start := FF_l_start.binds (ps := ["_law_script"]) fun _ _ _ _ _ _ us hl => match us, hl with | [_], _ => rfl
  have FF_l_draw := fun_mk (st := s_l_draw) l_l_draw cc_l_draw kk_l_draw
  have bb_l_draw := FF_l_draw.binds (ps := ["_law_script", "_law_state", "_law_limit"]) fun _ _ _ _ _ _ us hl => match us, hl with | [_, _, _], _ => rfl
  have FF_l_kinds := fun_mk (st := s_l_kinds) l_l_kinds cc_l_kinds kk_l_kinds
  have bb_l_kinds := FF_l_kinds.binds (ps := ["_law_fell"]) fun _ _ _ _ _ _ us hl => match us, hl with | [_], _ => rfl
  have FF_l_throw := fun_mk (st := s_l_throw) l_l_throw cc_l_throw kk_l_throw
  have bb_l_throw := FF_l_throw.binds (ps := ["_law_kind", "_law_values_here"]) fun _ _ _ _ _ _ us hl => match us, hl with | [_, _], _ => rfl
  have FF_l_caught := fun_mk (st := s_l_caught) l_l_caught cc_l_caught kk_l_caught
  have bb_l_caught := FF_l_caught.binds (ps := ["_law_kind", "_law_values_here"]) fun _ _ _ _ _ _ us hl => match us, hl with | [_, _], _ => rfl
  have FF_l_holds := fun_mk (st := s_l_holds) l_l_holds cc_l_holds kk_l_holds
  have bb_l_holds := FF_l_holds.binds (ps := ["_law_fell", "_law_kind", "_law_values_here"]) fun _ _ _ _ _ _ us hl => match us, hl with | [_, _, _], _ => rfl
  have FF_l_values := fun_mk (st := s_l_values) l_l_values cc_l_values kk_l_values
  have bb_l_values := FF_l_values.binds (ps := ["_law_script", "_law_state"]) fun _ _ _ _ _ _ us hl => match us, hl with | [_, _], _ => rfl
  have FF_law := fun_mk (st := s_law) l_law cc_law kk_law
  have bb_law := FF_law.binds (ps := ["_law_script"]) fun _ _ _ _ _ _ us hl => match us, hl with | [_], _ => rfl
  exact ⟨PySem.W.fnOf "law" "law" (defArgs s_law) (defBody s_law) (defScope s_law) .none kV_law dc_law pm_law an_law cd_law ct_law, fun s v => .of_eq rfl, fun base _ _ => ok_law (T := {
    c_VoteError := ca_VoteError,
    gc_VoteError := PySem.W.mg_of X G aC_VoteError,
    c_BadNumber := ca_BadNumber,
    gc_BadNumber := PySem.W.mg_of X G aC_BadNumber,
    c_BadLot := ca_BadLot,
    gc_BadLot := PySem.W.mg_of X G aC_BadLot,
    c_NoMeeting := ca_NoMeeting,
    gc_NoMeeting := PySem.W.mg_of X G aC_NoMeeting,
    c_BadTrade := ca_BadTrade,
    gc_BadTrade := PySem.W.mg_of X G aC_BadTrade,
    c_BadFlow := ca_BadFlow,
    gc_BadFlow := PySem.W.mg_of X G aC_BadFlow,
    c_BadText := ca_BadText,
    gc_BadText := PySem.W.mg_of X G aC_BadText,
    c_BadDeed := ca_BadDeed,
    gc_BadDeed := PySem.W.mg_of X G aC_BadDeed,
    c_TooMany := ca_TooMany,
    gc_TooMany := PySem.W.mg_of X G aC_TooMany,
    c_Unlike := ca_Unlike,
    gc_Unlike := PySem.W.mg_of X G aC_Unlike,
    c_NothingToUndo := ca_NothingToUndo,
    gc_NothingToUndo := PySem.W.mg_of X G aC_NothingToUndo,
    f_BadNumber_init := fa_BadNumber_init,
    fd_BadNumber_init := _,
    F_BadNumber_init := FF_BadNumber_init,
    b_BadNumber_init := bb_BadNumber_init,
    f_BadLot_init := fa_BadLot_init,
    fd_BadLot_init := _,
    F_BadLot_init := FF_BadLot_init,
    b_BadLot_init := bb_BadLot_init,
    f_NoMeeting_init := fa_NoMeeting_init,
    fd_NoMeeting_init := _,
    F_NoMeeting_init := FF_NoMeeting_init,
    b_NoMeeting_init := bb_NoMeeting_init,
    f_BadTrade_init := fa_BadTrade_init,
    fd_BadTrade_init := _,
    F_BadTrade_init := FF_BadTrade_init,
    b_BadTrade_init := bb_BadTrade_init,
    f_BadFlow_init := fa_BadFlow_init,
    fd_BadFlow_init := _,
    F_BadFlow_init := FF_BadFlow_init,
    b_BadFlow_init := bb_BadFlow_init,
    f_BadText_init := fa_BadText_init,
    fd_BadText_init := _,
    F_BadText_init := FF_BadText_init,
    b_BadText_init := bb_BadText_init,
    f_BadDeed_init := fa_BadDeed_init,
    fd_BadDeed_init := _,
    F_BadDeed_init := FF_BadDeed_init,
    b_BadDeed_init := bb_BadDeed_init,
    f_TooMany_init := fa_TooMany_init,
    fd_TooMany_init := _,
    F_TooMany_init := FF_TooMany_init,
    b_TooMany_init := bb_TooMany_init,
    f_l_start := fa_l_start,
    fd_l_start := _,
    F_l_start := FF_l_start,
    b_l_start := bb_l_start,
    g_l_start := PySem.W.mg_of X G a_l_start,
    f_l_draw := fa_l_draw,
    fd_l_draw := _,
    F_l_draw := FF_l_draw,
    b_l_draw := bb_l_draw,
    g_l_draw := PySem.W.mg_of X G a_l_draw,
    f_l_kinds := fa_l_kinds,
    fd_l_kinds := _,
    F_l_kinds := FF_l_kinds,
    b_l_kinds := bb_l_kinds,
    g_l_kinds := PySem.W.mg_of X G a_l_kinds,
    f_l_throw := fa_l_throw,
    fd_l_throw := _,
    F_l_throw := FF_l_throw,
    b_l_throw := bb_l_throw,
    g_l_throw := PySem.W.mg_of X G a_l_throw,
    f_l_caught := fa_l_caught,
    fd_l_caught := _,
    F_l_caught := FF_l_caught,
    b_l_caught := bb_l_caught,
    g_l_caught := PySem.W.mg_of X G a_l_caught,
    f_l_holds := fa_l_holds,
    fd_l_holds := _,
    F_l_holds := FF_l_holds,
    b_l_holds := bb_l_holds,
    g_l_holds := PySem.W.mg_of X G a_l_holds,
    f_l_values := fa_l_values,
    fd_l_values := _,
    F_l_values := FF_l_values,
    b_l_values := bb_l_values,
    g_l_values := PySem.W.mg_of X G a_l_values,
    f_law := fa,
    fd_law := _,
    F_law := FF_law,
    b_law := bb_law,
    g_law := PySem.W.mg_of X G a_law,
    ox_BadNumber := ⟨⟨_, _, _, _, _, _, _, _, _, _, _, _, _, _, _, xL_BadNumber, bm_ok_BadNumber⟩, sa_BadNumber, eC_BadNumber, tC_BadNumber, kC_BadNumber⟩,
    xn_BadNumber := a_BadNumber_init,
    xt_BadNumber := tI_BadNumber,
    xf_BadNumber := ⟨ga_BadNumber, gg_BadNumber, eC_BadNumber, hd_BadNumber⟩,
    xi_BadNumber := ⟨ic_BadNumber, ga_BadNumber, gg_BadNumber, eC_BadNumber, cc_BadNumber, cn_, ct_, cm_BadNumber⟩,
    n_BadNumber_what := n_BadNumber_what,
    n_BadNumber_value := n_BadNumber_value,
    ox_BadLot := ⟨⟨_, _, _, _, _, _, _, _, _, _, _, _, _, _, _, xL_BadLot, bm_ok_BadLot⟩, sa_BadLot, eC_BadLot, tC_BadLot, kC_BadLot⟩,
    xn_BadLot := a_BadLot_init,
    xt_BadLot := tI_BadLot,
    xf_BadLot := ⟨ga_BadLot, gg_BadLot, eC_BadLot, hd_BadLot⟩,
    xi_BadLot := ⟨ic_BadLot, ga_BadLot, gg_BadLot, eC_BadLot, cc_BadLot, cn_, ct_, cm_BadLot⟩,
    n_BadLot_place := n_BadLot_place,
    ox_NoMeeting := ⟨⟨_, _, _, _, _, _, _, _, _, _, _, _, _, _, _, xL_NoMeeting, bm_ok_NoMeeting⟩, sa_NoMeeting, eC_NoMeeting, tC_NoMeeting, kC_NoMeeting⟩,
    xn_NoMeeting := a_NoMeeting_init,
    xt_NoMeeting := tI_NoMeeting,
    xf_NoMeeting := ⟨ga_NoMeeting, gg_NoMeeting, eC_NoMeeting, hd_NoMeeting⟩,
    xi_NoMeeting := ⟨ic_NoMeeting, ga_NoMeeting, gg_NoMeeting, eC_NoMeeting, cc_NoMeeting, cn_, ct_, cm_NoMeeting⟩,
    n_NoMeeting_read := n_NoMeeting_read,
    n_NoMeeting_write := n_NoMeeting_write,
    ox_BadTrade := ⟨⟨_, _, _, _, _, _, _, _, _, _, _, _, _, _, _, xL_BadTrade, bm_ok_BadTrade⟩, sa_BadTrade, eC_BadTrade, tC_BadTrade, kC_BadTrade⟩,
    xn_BadTrade := a_BadTrade_init,
    xt_BadTrade := tI_BadTrade,
    xf_BadTrade := ⟨ga_BadTrade, gg_BadTrade, eC_BadTrade, hd_BadTrade⟩,
    xi_BadTrade := ⟨ic_BadTrade, ga_BadTrade, gg_BadTrade, eC_BadTrade, cc_BadTrade, cn_, ct_, cm_BadTrade⟩,
    n_BadTrade_place := n_BadTrade_place,
    n_BadTrade_reason := n_BadTrade_reason,
    ox_BadFlow := ⟨⟨_, _, _, _, _, _, _, _, _, _, _, _, _, _, _, xL_BadFlow, bm_ok_BadFlow⟩, sa_BadFlow, eC_BadFlow, tC_BadFlow, kC_BadFlow⟩,
    xn_BadFlow := a_BadFlow_init,
    xt_BadFlow := tI_BadFlow,
    xf_BadFlow := ⟨ga_BadFlow, gg_BadFlow, eC_BadFlow, hd_BadFlow⟩,
    xi_BadFlow := ⟨ic_BadFlow, ga_BadFlow, gg_BadFlow, eC_BadFlow, cc_BadFlow, cn_, ct_, cm_BadFlow⟩,
    n_BadFlow_lot := n_BadFlow_lot,
    n_BadFlow_member := n_BadFlow_member,
    ox_BadText := ⟨⟨_, _, _, _, _, _, _, _, _, _, _, _, _, _, _, xL_BadText, bm_ok_BadText⟩, sa_BadText, eC_BadText, tC_BadText, kC_BadText⟩,
    xn_BadText := a_BadText_init,
    xt_BadText := tI_BadText,
    xf_BadText := ⟨ga_BadText, gg_BadText, eC_BadText, hd_BadText⟩,
    xi_BadText := ⟨ic_BadText, ga_BadText, gg_BadText, eC_BadText, cc_BadText, cn_, ct_, cm_BadText⟩,
    n_BadText_line := n_BadText_line,
    ox_BadDeed := ⟨⟨_, _, _, _, _, _, _, _, _, _, _, _, _, _, _, xL_BadDeed, bm_ok_BadDeed⟩, sa_BadDeed, eC_BadDeed, tC_BadDeed, kC_BadDeed⟩,
    xn_BadDeed := a_BadDeed_init,
    xt_BadDeed := tI_BadDeed,
    xf_BadDeed := ⟨ga_BadDeed, gg_BadDeed, eC_BadDeed, hd_BadDeed⟩,
    xi_BadDeed := ⟨ic_BadDeed, ga_BadDeed, gg_BadDeed, eC_BadDeed, cc_BadDeed, cn_, ct_, cm_BadDeed⟩,
    n_BadDeed_place := n_BadDeed_place,
    ox_TooMany := ⟨⟨_, _, _, _, _, _, _, _, _, _, _, _, _, _, _, xL_TooMany, bm_ok_TooMany⟩, sa_TooMany, eC_TooMany, tC_TooMany, kC_TooMany⟩,
    xn_TooMany := a_TooMany_init,
    xt_TooMany := tI_TooMany,
    xf_TooMany := ⟨ga_TooMany, gg_TooMany, eC_TooMany, hd_TooMany⟩,
    xi_TooMany := ⟨ic_TooMany, ga_TooMany, gg_TooMany, eC_TooMany, cc_TooMany, cn_, ct_, cm_TooMany⟩,
    n_TooMany_limit := n_TooMany_limit,
    e0_Unlike := ⟨q0_Unlike, kC_Unlike, eC_Unlike, tC_Unlike⟩,
    xi_Unlike := ⟨ic_Unlike, ga_Unlike, gg_Unlike, eC_Unlike, cc_Unlike, cn_, ct_, cm_Unlike⟩,
    e0_NothingToUndo := ⟨q0_NothingToUndo, kC_NothingToUndo, eC_NothingToUndo, tC_NothingToUndo⟩,
    xi_NothingToUndo := ⟨ic_NothingToUndo, ga_NothingToUndo, gg_NothingToUndo, eC_NothingToUndo, cc_NothingToUndo, cn_, ct_, cm_NothingToUndo⟩,
    ki_BadNumber_BadNumber := ki_BadNumber_BadNumber,
    ki_BadNumber_BadLot := ki_BadNumber_BadLot,
    ki_BadNumber_NoMeeting := ki_BadNumber_NoMeeting,
    ki_BadNumber_BadTrade := ki_BadNumber_BadTrade,
    ki_BadNumber_BadFlow := ki_BadNumber_BadFlow,
    ki_BadNumber_BadText := ki_BadNumber_BadText,
    ki_BadNumber_BadDeed := ki_BadNumber_BadDeed,
    ki_BadNumber_TooMany := ki_BadNumber_TooMany,
    ki_BadNumber_Unlike := ki_BadNumber_Unlike,
    ki_BadNumber_NothingToUndo := ki_BadNumber_NothingToUndo,
    ki_BadNumber_VoteError := ki_BadNumber_VoteError,
    ki_BadNumber_ValueError := ki_BadNumber_ValueError,
    ki_BadLot_BadNumber := ki_BadLot_BadNumber,
    ki_BadLot_BadLot := ki_BadLot_BadLot,
    ki_BadLot_NoMeeting := ki_BadLot_NoMeeting,
    ki_BadLot_BadTrade := ki_BadLot_BadTrade,
    ki_BadLot_BadFlow := ki_BadLot_BadFlow,
    ki_BadLot_BadText := ki_BadLot_BadText,
    ki_BadLot_BadDeed := ki_BadLot_BadDeed,
    ki_BadLot_TooMany := ki_BadLot_TooMany,
    ki_BadLot_Unlike := ki_BadLot_Unlike,
    ki_BadLot_NothingToUndo := ki_BadLot_NothingToUndo,
    ki_BadLot_VoteError := ki_BadLot_VoteError,
    ki_BadLot_ValueError := ki_BadLot_ValueError,
    ki_NoMeeting_BadNumber := ki_NoMeeting_BadNumber,
    ki_NoMeeting_BadLot := ki_NoMeeting_BadLot,
    ki_NoMeeting_NoMeeting := ki_NoMeeting_NoMeeting,
    ki_NoMeeting_BadTrade := ki_NoMeeting_BadTrade,
    ki_NoMeeting_BadFlow := ki_NoMeeting_BadFlow,
    ki_NoMeeting_BadText := ki_NoMeeting_BadText,
    ki_NoMeeting_BadDeed := ki_NoMeeting_BadDeed,
    ki_NoMeeting_TooMany := ki_NoMeeting_TooMany,
    ki_NoMeeting_Unlike := ki_NoMeeting_Unlike,
    ki_NoMeeting_NothingToUndo := ki_NoMeeting_NothingToUndo,
    ki_NoMeeting_VoteError := ki_NoMeeting_VoteError,
    ki_NoMeeting_ValueError := ki_NoMeeting_ValueError,
    ki_BadTrade_BadNumber := ki_BadTrade_BadNumber,
    ki_BadTrade_BadLot := ki_BadTrade_BadLot,
    ki_BadTrade_NoMeeting := ki_BadTrade_NoMeeting,
    ki_BadTrade_BadTrade := ki_BadTrade_BadTrade,
    ki_BadTrade_BadFlow := ki_BadTrade_BadFlow,
    ki_BadTrade_BadText := ki_BadTrade_BadText,
    ki_BadTrade_BadDeed := ki_BadTrade_BadDeed,
    ki_BadTrade_TooMany := ki_BadTrade_TooMany,
    ki_BadTrade_Unlike := ki_BadTrade_Unlike,
    ki_BadTrade_NothingToUndo := ki_BadTrade_NothingToUndo,
    ki_BadTrade_VoteError := ki_BadTrade_VoteError,
    ki_BadTrade_ValueError := ki_BadTrade_ValueError,
    ki_BadFlow_BadNumber := ki_BadFlow_BadNumber,
    ki_BadFlow_BadLot := ki_BadFlow_BadLot,
    ki_BadFlow_NoMeeting := ki_BadFlow_NoMeeting,
    ki_BadFlow_BadTrade := ki_BadFlow_BadTrade,
    ki_BadFlow_BadFlow := ki_BadFlow_BadFlow,
    ki_BadFlow_BadText := ki_BadFlow_BadText,
    ki_BadFlow_BadDeed := ki_BadFlow_BadDeed,
    ki_BadFlow_TooMany := ki_BadFlow_TooMany,
    ki_BadFlow_Unlike := ki_BadFlow_Unlike,
    ki_BadFlow_NothingToUndo := ki_BadFlow_NothingToUndo,
    ki_BadFlow_VoteError := ki_BadFlow_VoteError,
    ki_BadFlow_ValueError := ki_BadFlow_ValueError,
    ki_BadText_BadNumber := ki_BadText_BadNumber,
    ki_BadText_BadLot := ki_BadText_BadLot,
    ki_BadText_NoMeeting := ki_BadText_NoMeeting,
    ki_BadText_BadTrade := ki_BadText_BadTrade,
    ki_BadText_BadFlow := ki_BadText_BadFlow,
    ki_BadText_BadText := ki_BadText_BadText,
    ki_BadText_BadDeed := ki_BadText_BadDeed,
    ki_BadText_TooMany := ki_BadText_TooMany,
    ki_BadText_Unlike := ki_BadText_Unlike,
    ki_BadText_NothingToUndo := ki_BadText_NothingToUndo,
    ki_BadText_VoteError := ki_BadText_VoteError,
    ki_BadText_ValueError := ki_BadText_ValueError,
    ki_BadDeed_BadNumber := ki_BadDeed_BadNumber,
    ki_BadDeed_BadLot := ki_BadDeed_BadLot,
    ki_BadDeed_NoMeeting := ki_BadDeed_NoMeeting,
    ki_BadDeed_BadTrade := ki_BadDeed_BadTrade,
    ki_BadDeed_BadFlow := ki_BadDeed_BadFlow,
    ki_BadDeed_BadText := ki_BadDeed_BadText,
    ki_BadDeed_BadDeed := ki_BadDeed_BadDeed,
    ki_BadDeed_TooMany := ki_BadDeed_TooMany,
    ki_BadDeed_Unlike := ki_BadDeed_Unlike,
    ki_BadDeed_NothingToUndo := ki_BadDeed_NothingToUndo,
    ki_BadDeed_VoteError := ki_BadDeed_VoteError,
    ki_BadDeed_ValueError := ki_BadDeed_ValueError,
    ki_TooMany_BadNumber := ki_TooMany_BadNumber,
    ki_TooMany_BadLot := ki_TooMany_BadLot,
    ki_TooMany_NoMeeting := ki_TooMany_NoMeeting,
    ki_TooMany_BadTrade := ki_TooMany_BadTrade,
    ki_TooMany_BadFlow := ki_TooMany_BadFlow,
    ki_TooMany_BadText := ki_TooMany_BadText,
    ki_TooMany_BadDeed := ki_TooMany_BadDeed,
    ki_TooMany_TooMany := ki_TooMany_TooMany,
    ki_TooMany_Unlike := ki_TooMany_Unlike,
    ki_TooMany_NothingToUndo := ki_TooMany_NothingToUndo,
    ki_TooMany_VoteError := ki_TooMany_VoteError,
    ki_TooMany_ValueError := ki_TooMany_ValueError,
    ki_Unlike_BadNumber := ki_Unlike_BadNumber,
    ki_Unlike_BadLot := ki_Unlike_BadLot,
    ki_Unlike_NoMeeting := ki_Unlike_NoMeeting,
    ki_Unlike_BadTrade := ki_Unlike_BadTrade,
    ki_Unlike_BadFlow := ki_Unlike_BadFlow,
    ki_Unlike_BadText := ki_Unlike_BadText,
    ki_Unlike_BadDeed := ki_Unlike_BadDeed,
    ki_Unlike_TooMany := ki_Unlike_TooMany,
    ki_Unlike_Unlike := ki_Unlike_Unlike,
    ki_Unlike_NothingToUndo := ki_Unlike_NothingToUndo,
    ki_Unlike_VoteError := ki_Unlike_VoteError,
    ki_Unlike_ValueError := ki_Unlike_ValueError,
    ki_NothingToUndo_BadNumber := ki_NothingToUndo_BadNumber,
    ki_NothingToUndo_BadLot := ki_NothingToUndo_BadLot,
    ki_NothingToUndo_NoMeeting := ki_NothingToUndo_NoMeeting,
    ki_NothingToUndo_BadTrade := ki_NothingToUndo_BadTrade,
    ki_NothingToUndo_BadFlow := ki_NothingToUndo_BadFlow,
    ki_NothingToUndo_BadText := ki_NothingToUndo_BadText,
    ki_NothingToUndo_BadDeed := ki_NothingToUndo_BadDeed,
    ki_NothingToUndo_TooMany := ki_NothingToUndo_TooMany,
    ki_NothingToUndo_Unlike := ki_NothingToUndo_Unlike,
    ki_NothingToUndo_NothingToUndo := ki_NothingToUndo_NothingToUndo,
    ki_NothingToUndo_VoteError := ki_NothingToUndo_VoteError,
    ki_NothingToUndo_ValueError := ki_NothingToUndo_ValueError,
    ex_BadNumber_VoteError := exm_own eC_VoteError ic_VoteError tC_VoteError sb_BadNumber_VoteError,
    ex_BadLot_VoteError := exm_own eC_VoteError ic_VoteError tC_VoteError sb_BadLot_VoteError,
    ex_NoMeeting_VoteError := exm_own eC_VoteError ic_VoteError tC_VoteError sb_NoMeeting_VoteError,
    ex_BadTrade_VoteError := exm_own eC_VoteError ic_VoteError tC_VoteError sb_BadTrade_VoteError,
    ex_BadFlow_VoteError := exm_own eC_VoteError ic_VoteError tC_VoteError sb_BadFlow_VoteError,
    ex_BadText_VoteError := exm_own eC_VoteError ic_VoteError tC_VoteError sb_BadText_VoteError,
    ex_BadDeed_VoteError := exm_own eC_VoteError ic_VoteError tC_VoteError sb_BadDeed_VoteError,
    ex_TooMany_VoteError := exm_own eC_VoteError ic_VoteError tC_VoteError sb_TooMany_VoteError,
    ex_Unlike_VoteError := exm_own eC_VoteError ic_VoteError tC_VoteError sb_Unlike_VoteError,
    ex_NothingToUndo_VoteError := exm_own eC_VoteError ic_VoteError tC_VoteError sb_NothingToUndo_VoteError,
    m_ValueError := PySem.W.mg_none_of X G mb_ValueError,
    m_abs := PySem.W.mg_none_of X G mb_abs,
    m_int := PySem.W.mg_none_of X G mb_int,
    m_isinstance := PySem.W.mg_none_of X G mb_isinstance,
    m_len := PySem.W.mg_none_of X G mb_len,
    m_range := PySem.W.mg_none_of X G mb_range })⟩
theorem walk {l : PySem.W.OpenLaw} {q : Program} {loose : List Str} {XP : (Str → Option Value) → Heap → Prop} {YP : World → Heap → Prop} {d : DefRec} {K : Params → PySem.W.Frag} (hn : l.most = some 63) (hdf : d.params.defaults = [])
    (hY : ∀ (w : World) (h : Heap), YP w h → (K w.params).In h)
    (F : ∀ (w : World) (mg : Str → Option Value) (fa : Addr) (h : Heap), (K w.params).In h → h.Ns mainGlobals mg → mg d.name = some (.ref fa) →
      ∃ fd : FuncData, (∀ (s : Shared) (u : Value), BindsTo s fd ⟨[u], []⟩ [("_law_script", u)]) ∧ ∀ base : Heap, (K w.params).In base → base.Ns mainGlobals mg → FnOk l.prog w (K w.params) mg base CX0 6 fa fd ["_law_script"] (spLaw (K w.params))) :
    PySem.W.WalkO q loose XP YP l.row.toRowW d [] (fun f vs => PySem.call f vs) :=
  L2.walk_of (n := 63) (k := 6) (x := "_law_script") (CX := fun _ => CX0) (sp := fun w => spLaw (K w.params)) hn (by decide) hdf ⟨rfl, by decide, by decide⟩ hY F (fun _ _ a ns hl _ hS => ⟨a, ns, rfl, hS, hl, fun _ => rfl⟩) fun _ _ _ _ _ z => z
end Cv
open PySem PySem.W PyProof.Rows
set_option maxRecDepth 100000 in
set_option maxHeartbeats 0 in
theorem PySem.Challenge.cw_copyvotes_k27_kinds_of_errors_holds : PySem.Challenge.rw_copyvotes_k27_kinds_of_errors.Holds := by
  w_on; o_law; k_head; (case hw => w_witness2)
  k_fill
  refine Cv.walk (l := PySem.Challenge.rw_copyvotes_k27_kinds_of_errors) rfl rfl (fun w h Y => PySem.W.kIn_of Y) ?F
  case F =>
    intro w mg fa h KX G hmg
    refine' Cv.all_mk KX G hmg ?aC_VoteError ?aC_BadNumber ?aC_BadLot ?aC_NoMeeting ?aC_BadTrade ?aC_BadFlow ?aC_BadText ?aC_BadDeed ?aC_TooMany ?aC_Unlike ?aC_NothingToUndo ?a_BadNumber_init ?l_BadNumber_init ?cc_BadNumber_init ?kk_BadNumber_init ?a_BadLot_init ?l_BadLot_init ?cc_BadLot_init ?kk_BadLot_init ?a_NoMeeting_init ?l_NoMeeting_init ?cc_NoMeeting_init ?kk_NoMeeting_init ?a_BadTrade_init ?l_BadTrade_init ?cc_BadTrade_init ?kk_BadTrade_init ?a_BadFlow_init ?l_BadFlow_init ?cc_BadFlow_init ?kk_BadFlow_init ?a_BadText_init ?l_BadText_init ?cc_BadText_init ?kk_BadText_init ?a_BadDeed_init ?l_BadDeed_init ?cc_BadDeed_init ?kk_BadDeed_init ?a_TooMany_init ?l_TooMany_init ?cc_TooMany_init ?kk_TooMany_init ?a_l_start ?l_l_start ?cc_l_start ?kk_l_start ?a_l_draw ?l_l_draw ?cc_l_draw ?kk_l_draw ?a_l_kinds ?l_l_kinds ?cc_l_kinds ?kk_l_kinds ?a_l_throw ?l_l_throw ?cc_l_throw ?kk_l_throw ?a_l_caught ?l_l_caught ?cc_l_caught ?kk_l_caught ?a_l_holds ?l_l_holds ?cc_l_holds ?kk_l_holds ?a_l_values ?l_l_values ?cc_l_values ?kk_l_values ?a_law ?l_law ?cc_law ?kk_law ?xL_BadNumber ?bm_ok_BadNumber ?sa_BadNumber ?eC_BadNumber ?tC_BadNumber ?kC_BadNumber ?tI_BadNumber ?ga_BadNumber ?gg_BadNumber ?hd_BadNumber ?ic_BadNumber ?cc_BadNumber ?cm_BadNumber ?n_BadNumber_what ?n_BadNumber_value ?xL_BadLot ?bm_ok_BadLot ?sa_BadLot ?eC_BadLot ?tC_BadLot ?kC_BadLot ?tI_BadLot ?ga_BadLot ?gg_BadLot ?hd_BadLot ?ic_BadLot ?cc_BadLot ?cm_BadLot ?n_BadLot_place ?xL_NoMeeting ?bm_ok_NoMeeting ?sa_NoMeeting ?eC_NoMeeting ?tC_NoMeeting ?kC_NoMeeting ?tI_NoMeeting ?ga_NoMeeting ?gg_NoMeeting ?hd_NoMeeting ?ic_NoMeeting ?cc_NoMeeting ?cm_NoMeeting ?n_NoMeeting_read ?n_NoMeeting_write ?xL_BadTrade ?bm_ok_BadTrade ?sa_BadTrade ?eC_BadTrade ?tC_BadTrade ?kC_BadTrade ?tI_BadTrade ?ga_BadTrade ?gg_BadTrade ?hd_BadTrade ?ic_BadTrade ?cc_BadTrade ?cm_BadTrade ?n_BadTrade_place ?n_BadTrade_reason ?xL_BadFlow ?bm_ok_BadFlow ?sa_BadFlow ?eC_BadFlow ?tC_BadFlow ?kC_BadFlow ?tI_BadFlow ?ga_BadFlow ?gg_BadFlow ?hd_BadFlow ?ic_BadFlow ?cc_BadFlow ?cm_BadFlow ?n_BadFlow_lot ?n_BadFlow_member ?xL_BadText ?bm_ok_BadText ?sa_BadText ?eC_BadText ?tC_BadText ?kC_BadText ?tI_BadText ?ga_BadText ?gg_BadText ?hd_BadText ?ic_BadText ?cc_BadText ?cm_BadText ?n_BadText_line ?xL_BadDeed ?bm_ok_BadDeed ?sa_BadDeed ?eC_BadDeed ?tC_BadDeed ?kC_BadDeed ?tI_BadDeed ?ga_BadDeed ?gg_BadDeed ?hd_BadDeed ?ic_BadDeed ?cc_BadDeed ?cm_BadDeed ?n_BadDeed_place ?xL_TooMany ?bm_ok_TooMany ?sa_TooMany ?eC_TooMany ?tC_TooMany ?kC_TooMany ?tI_TooMany ?ga_TooMany ?gg_TooMany ?hd_TooMany ?ic_TooMany ?cc_TooMany ?cm_TooMany ?n_TooMany_limit ?q0_Unlike ?kC_Unlike ?eC_Unlike ?tC_Unlike ?ga_Unlike ?gg_Unlike ?ic_Unlike ?cc_Unlike ?cm_Unlike ?q0_NothingToUndo ?kC_NothingToUndo ?eC_NothingToUndo ?tC_NothingToUndo ?ga_NothingToUndo ?gg_NothingToUndo ?ic_NothingToUndo ?cc_NothingToUndo ?cm_NothingToUndo ?cn_ ?ct_ ?ki_BadNumber_BadNumber ?ki_BadNumber_BadLot ?ki_BadNumber_NoMeeting ?ki_BadNumber_BadTrade ?ki_BadNumber_BadFlow ?ki_BadNumber_BadText ?ki_BadNumber_BadDeed ?ki_BadNumber_TooMany ?ki_BadNumber_Unlike ?ki_BadNumber_NothingToUndo ?ki_BadNumber_VoteError ?ki_BadNumber_ValueError ?ki_BadLot_BadNumber ?ki_BadLot_BadLot ?ki_BadLot_NoMeeting ?ki_BadLot_BadTrade ?ki_BadLot_BadFlow ?ki_BadLot_BadText ?ki_BadLot_BadDeed ?ki_BadLot_TooMany ?ki_BadLot_Unlike ?ki_BadLot_NothingToUndo ?ki_BadLot_VoteError ?ki_BadLot_ValueError ?ki_NoMeeting_BadNumber ?ki_NoMeeting_BadLot ?ki_NoMeeting_NoMeeting ?ki_NoMeeting_BadTrade ?ki_NoMeeting_BadFlow ?ki_NoMeeting_BadText ?ki_NoMeeting_BadDeed ?ki_NoMeeting_TooMany ?ki_NoMeeting_Unlike ?ki_NoMeeting_NothingToUndo ?ki_NoMeeting_VoteError ?ki_NoMeeting_ValueError ?ki_BadTrade_BadNumber ?ki_BadTrade_BadLot ?ki_BadTrade_NoMeeting ?ki_BadTrade_BadTrade ?ki_BadTrade_BadFlow ?ki_BadTrade_BadText ?ki_BadTrade_BadDeed ?ki_BadTrade_TooMany ?ki_BadTrade_Unlike ?ki_BadTrade_NothingToUndo ?ki_BadTrade_VoteError ?ki_BadTrade_ValueError ?ki_BadFlow_BadNumber ?ki_BadFlow_BadLot ?ki_BadFlow_NoMeeting ?ki_BadFlow_BadTrade ?ki_BadFlow_BadFlow ?ki_BadFlow_BadText ?ki_BadFlow_BadDeed ?ki_BadFlow_TooMany ?ki_BadFlow_Unlike ?ki_BadFlow_NothingToUndo ?ki_BadFlow_VoteError ?ki_BadFlow_ValueError ?ki_BadText_BadNumber ?ki_BadText_BadLot ?ki_BadText_NoMeeting ?ki_BadText_BadTrade ?ki_BadText_BadFlow ?ki_BadText_BadText ?ki_BadText_BadDeed ?ki_BadText_TooMany ?ki_BadText_Unlike ?ki_BadText_NothingToUndo ?ki_BadText_VoteError ?ki_BadText_ValueError ?ki_BadDeed_BadNumber ?ki_BadDeed_BadLot ?ki_BadDeed_NoMeeting ?ki_BadDeed_BadTrade ?ki_BadDeed_BadFlow ?ki_BadDeed_BadText ?ki_BadDeed_BadDeed ?ki_BadDeed_TooMany ?ki_BadDeed_Unlike ?ki_BadDeed_NothingToUndo ?ki_BadDeed_VoteError ?ki_BadDeed_ValueError ?ki_TooMany_BadNumber ?ki_TooMany_BadLot ?ki_TooMany_NoMeeting ?ki_TooMany_BadTrade ?ki_TooMany_BadFlow ?ki_TooMany_BadText ?ki_TooMany_BadDeed ?ki_TooMany_TooMany ?ki_TooMany_Unlike ?ki_TooMany_NothingToUndo ?ki_TooMany_VoteError ?ki_TooMany_ValueError ?ki_Unlike_BadNumber ?ki_Unlike_BadLot ?ki_Unlike_NoMeeting ?ki_Unlike_BadTrade ?ki_Unlike_BadFlow ?ki_Unlike_BadText ?ki_Unlike_BadDeed ?ki_Unlike_TooMany ?ki_Unlike_Unlike ?ki_Unlike_NothingToUndo ?ki_Unlike_VoteError ?ki_Unlike_ValueError ?ki_NothingToUndo_BadNumber ?ki_NothingToUndo_BadLot ?ki_NothingToUndo_NoMeeting ?ki_NothingToUndo_BadTrade ?ki_NothingToUndo_BadFlow ?ki_NothingToUndo_BadText ?ki_NothingToUndo_BadDeed ?ki_NothingToUndo_TooMany ?ki_NothingToUndo_Unlike ?ki_NothingToUndo_NothingToUndo ?ki_NothingToUndo_VoteError ?ki_NothingToUndo_ValueError ?eC_VoteError ?tC_VoteError ?hd_VoteError ?ic_VoteError ?sb_BadNumber_VoteError ?sb_BadLot_VoteError ?sb_NoMeeting_VoteError ?sb_BadTrade_VoteError ?sb_BadFlow_VoteError ?sb_BadText_VoteError ?sb_BadDeed_VoteError ?sb_TooMany_VoteError ?sb_Unlike_VoteError ?sb_NothingToUndo_VoteError ?mb_ValueError ?mb_abs ?mb_int ?mb_isinstance ?mb_len ?mb_range
    (case aC_VoteError => k_is)
    (case aC_BadNumber => k_is)
    (case aC_BadLot => k_is)
    (case aC_NoMeeting => k_is)
    (case aC_BadTrade => k_is)
    (case aC_BadFlow => k_is)
    (case aC_BadText => k_is)
    (case aC_BadDeed => k_is)
    (case aC_TooMany => k_is)
    (case aC_Unlike => k_is)
    (case aC_NothingToUndo => k_is)
    (case a_BadNumber_init => k_is)
    (case l_BadNumber_init => k_is)
    (case cc_BadNumber_init => k_is)
    (case kk_BadNumber_init => k_is)
    (case a_BadLot_init => k_is)
    (case l_BadLot_init => k_is)
    (case cc_BadLot_init => k_is)
    (case kk_BadLot_init => k_is)
    (case a_NoMeeting_init => k_is)
    (case l_NoMeeting_init => k_is)
    (case cc_NoMeeting_init => k_is)
    (case kk_NoMeeting_init => k_is)
    (case a_BadTrade_init => k_is)
    (case l_BadTrade_init => k_is)
    (case cc_BadTrade_init => k_is)
    (case kk_BadTrade_init => k_is)
    (case a_BadFlow_init => k_is)
    (case l_BadFlow_init => k_is)
    (case cc_BadFlow_init => k_is)
    (case kk_BadFlow_init => k_is)
    (case a_BadText_init => k_is)
    (case l_BadText_init => k_is)
    (case cc_BadText_init => k_is)
    (case kk_BadText_init => k_is)
    (case a_BadDeed_init => k_is)
    (case l_BadDeed_init => k_is)
    (case cc_BadDeed_init => k_is)
    (case kk_BadDeed_init => k_is)
    (case a_TooMany_init => k_is)
    (case l_TooMany_init => k_is)
    (case cc_TooMany_init => k_is)
    (case kk_TooMany_init => k_is)
    (case a_l_start => k_is)
    (case l_l_start => k_is)
    (case cc_l_start => k_is)
    (case kk_l_start => k_is)
    (case a_l_draw => k_is)
    (case l_l_draw => k_is)
    (case cc_l_draw => k_is)
    (case kk_l_draw => k_is)
    (case a_l_kinds => k_is)
    (case l_l_kinds => k_is)
    (case cc_l_kinds => k_is)
    (case kk_l_kinds => k_is)
    (case a_l_throw => k_is)
    (case l_l_throw => k_is)
    (case cc_l_throw => k_is)
    (case kk_l_throw => k_is)
    (case a_l_caught => k_is)
    (case l_l_caught => k_is)
    (case cc_l_caught => k_is)
    (case kk_l_caught => k_is)
    (case a_l_holds => k_is)
    (case l_l_holds => k_is)
    (case cc_l_holds => k_is)
    (case kk_l_holds => k_is)
    (case a_l_values => k_is)
    (case l_l_values => k_is)
    (case cc_l_values => k_is)
    (case kk_l_values => k_is)
    (case a_law => k_is)
    (case l_law => k_is)
    (case cc_law => k_is)
    (case kk_law => k_is)
    (case xL_BadNumber => k_is)
    (case bm_ok_BadNumber => decide +kernel)
    (case sa_BadNumber => k_is)
    (case eC_BadNumber => k_is)
    (case tC_BadNumber => k_is)
    (case kC_BadNumber => k_is)
    (case tI_BadNumber => k_is)
    (case ga_BadNumber => k_is)
    (case gg_BadNumber => k_is)
    (case hd_BadNumber => k_is)
    (case ic_BadNumber => k_is)
    (case cc_BadNumber => k_is)
    (case cm_BadNumber => k_is)
    (case n_BadNumber_what => k_is)
    (case n_BadNumber_value => k_is)
    (case xL_BadLot => k_is)
    (case bm_ok_BadLot => decide +kernel)
    (case sa_BadLot => k_is)
    (case eC_BadLot => k_is)
    (case tC_BadLot => k_is)
    (case kC_BadLot => k_is)
    (case tI_BadLot => k_is)
    (case ga_BadLot => k_is)
    (case gg_BadLot => k_is)
    (case hd_BadLot => k_is)
    (case ic_BadLot => k_is)
    (case cc_BadLot => k_is)
    (case cm_BadLot => k_is)
    (case n_BadLot_place => k_is)
    (case xL_NoMeeting => k_is)
    (case bm_ok_NoMeeting => decide +kernel)
    (case sa_NoMeeting => k_is)
    (case eC_NoMeeting => k_is)
    (case tC_NoMeeting => k_is)
    (case kC_NoMeeting => k_is)
    (case tI_NoMeeting => k_is)
    (case ga_NoMeeting => k_is)
    (case gg_NoMeeting => k_is)
    (case hd_NoMeeting => k_is)
    (case ic_NoMeeting => k_is)
    (case cc_NoMeeting => k_is)
    (case cm_NoMeeting => k_is)
    (case n_NoMeeting_read => k_is)
    (case n_NoMeeting_write => k_is)
    (case xL_BadTrade => k_is)
    (case bm_ok_BadTrade => decide +kernel)
    (case sa_BadTrade => k_is)
    (case eC_BadTrade => k_is)
    (case tC_BadTrade => k_is)
    (case kC_BadTrade => k_is)
    (case tI_BadTrade => k_is)
    (case ga_BadTrade => k_is)
    (case gg_BadTrade => k_is)
    (case hd_BadTrade => k_is)
    (case ic_BadTrade => k_is)
    (case cc_BadTrade => k_is)
    (case cm_BadTrade => k_is)
    (case n_BadTrade_place => k_is)
    (case n_BadTrade_reason => k_is)
    (case xL_BadFlow => k_is)
    (case bm_ok_BadFlow => decide +kernel)
    (case sa_BadFlow => k_is)
    (case eC_BadFlow => k_is)
    (case tC_BadFlow => k_is)
    (case kC_BadFlow => k_is)
    (case tI_BadFlow => k_is)
    (case ga_BadFlow => k_is)
    (case gg_BadFlow => k_is)
    (case hd_BadFlow => k_is)
    (case ic_BadFlow => k_is)
    (case cc_BadFlow => k_is)
    (case cm_BadFlow => k_is)
    (case n_BadFlow_lot => k_is)
    (case n_BadFlow_member => k_is)
    (case xL_BadText => k_is)
    (case bm_ok_BadText => decide +kernel)
    (case sa_BadText => k_is)
    (case eC_BadText => k_is)
    (case tC_BadText => k_is)
    (case kC_BadText => k_is)
    (case tI_BadText => k_is)
    (case ga_BadText => k_is)
    (case gg_BadText => k_is)
    (case hd_BadText => k_is)
    (case ic_BadText => k_is)
    (case cc_BadText => k_is)
    (case cm_BadText => k_is)
    (case n_BadText_line => k_is)
    (case xL_BadDeed => k_is)
    (case bm_ok_BadDeed => decide +kernel)
    (case sa_BadDeed => k_is)
    (case eC_BadDeed => k_is)
    (case tC_BadDeed => k_is)
    (case kC_BadDeed => k_is)
    (case tI_BadDeed => k_is)
    (case ga_BadDeed => k_is)
    (case gg_BadDeed => k_is)
    (case hd_BadDeed => k_is)
    (case ic_BadDeed => k_is)
    (case cc_BadDeed => k_is)
    (case cm_BadDeed => k_is)
    (case n_BadDeed_place => k_is)
    (case xL_TooMany => k_is)
    (case bm_ok_TooMany => decide +kernel)
    (case sa_TooMany => k_is)
    (case eC_TooMany => k_is)
    (case tC_TooMany => k_is)
    (case kC_TooMany => k_is)
    (case tI_TooMany => k_is)
    (case ga_TooMany => k_is)
    (case gg_TooMany => k_is)
    (case hd_TooMany => k_is)
    (case ic_TooMany => k_is)
    (case cc_TooMany => k_is)
    (case cm_TooMany => k_is)
    (case n_TooMany_limit => k_is)
    (case q0_Unlike => k_exc)
    (case kC_Unlike => k_is)
    (case eC_Unlike => k_is)
    (case tC_Unlike => k_is)
    (case ga_Unlike => k_is)
    (case gg_Unlike => k_is)
    (case ic_Unlike => k_is)
    (case cc_Unlike => k_is)
    (case cm_Unlike => k_is)
    (case q0_NothingToUndo => k_exc)
    (case kC_NothingToUndo => k_is)
    (case eC_NothingToUndo => k_is)
    (case tC_NothingToUndo => k_is)
    (case ga_NothingToUndo => k_is)
    (case gg_NothingToUndo => k_is)
    (case ic_NothingToUndo => k_is)
    (case cc_NothingToUndo => k_is)
    (case cm_NothingToUndo => k_is)
    (case cn_ => k_is)
    (case ct_ => k_is)
    (case ki_BadNumber_BadNumber => kit_is)
    (case ki_BadNumber_BadLot => kit_is)
    (case ki_BadNumber_NoMeeting => kit_is)
    (case ki_BadNumber_BadTrade => kit_is)
    (case ki_BadNumber_BadFlow => kit_is)
    (case ki_BadNumber_BadText => kit_is)
    (case ki_BadNumber_BadDeed => kit_is)
    (case ki_BadNumber_TooMany => kit_is)
    (case ki_BadNumber_Unlike => kit_is)
    (case ki_BadNumber_NothingToUndo => kit_is)
    (case ki_BadNumber_VoteError => kit_is)
    (case ki_BadNumber_ValueError => kit_is)
    (case ki_BadLot_BadNumber => kit_is)
    (case ki_BadLot_BadLot => kit_is)
    (case ki_BadLot_NoMeeting => kit_is)
    (case ki_BadLot_BadTrade => kit_is)
    (case ki_BadLot_BadFlow => kit_is)
    (case ki_BadLot_BadText => kit_is)
    (case ki_BadLot_BadDeed => kit_is)
    (case ki_BadLot_TooMany => kit_is)
    (case ki_BadLot_Unlike => kit_is)
    (case ki_BadLot_NothingToUndo => kit_is)
    (case ki_BadLot_VoteError => kit_is)
    (case ki_BadLot_ValueError => kit_is)
    (case ki_NoMeeting_BadNumber => kit_is)
    (case ki_NoMeeting_BadLot => kit_is)
    (case ki_NoMeeting_NoMeeting => kit_is)
    (case ki_NoMeeting_BadTrade => kit_is)
    (case ki_NoMeeting_BadFlow => kit_is)
    (case ki_NoMeeting_BadText => kit_is)
    (case ki_NoMeeting_BadDeed => kit_is)
    (case ki_NoMeeting_TooMany => kit_is)
    (case ki_NoMeeting_Unlike => kit_is)
    (case ki_NoMeeting_NothingToUndo => kit_is)
    (case ki_NoMeeting_VoteError => kit_is)
    (case ki_NoMeeting_ValueError => kit_is)
    (case ki_BadTrade_BadNumber => kit_is)
    (case ki_BadTrade_BadLot => kit_is)
    (case ki_BadTrade_NoMeeting => kit_is)
    (case ki_BadTrade_BadTrade => kit_is)
    (case ki_BadTrade_BadFlow => kit_is)
    (case ki_BadTrade_BadText => kit_is)
    (case ki_BadTrade_BadDeed => kit_is)
    (case ki_BadTrade_TooMany => kit_is)
    (case ki_BadTrade_Unlike => kit_is)
    (case ki_BadTrade_NothingToUndo => kit_is)
    (case ki_BadTrade_VoteError => kit_is)
    (case ki_BadTrade_ValueError => kit_is)
    (case ki_BadFlow_BadNumber => kit_is)
    (case ki_BadFlow_BadLot => kit_is)
    (case ki_BadFlow_NoMeeting => kit_is)
    (case ki_BadFlow_BadTrade => kit_is)
    (case ki_BadFlow_BadFlow => kit_is)
    (case ki_BadFlow_BadText => kit_is)
    (case ki_BadFlow_BadDeed => kit_is)
    (case ki_BadFlow_TooMany => kit_is)
    (case ki_BadFlow_Unlike => kit_is)
    (case ki_BadFlow_NothingToUndo => kit_is)
    (case ki_BadFlow_VoteError => kit_is)
    (case ki_BadFlow_ValueError => kit_is)
    (case ki_BadText_BadNumber => kit_is)
    (case ki_BadText_BadLot => kit_is)
    (case ki_BadText_NoMeeting => kit_is)
    (case ki_BadText_BadTrade => kit_is)
    (case ki_BadText_BadFlow => kit_is)
    (case ki_BadText_BadText => kit_is)
    (case ki_BadText_BadDeed => kit_is)
    (case ki_BadText_TooMany => kit_is)
    (case ki_BadText_Unlike => kit_is)
    (case ki_BadText_NothingToUndo => kit_is)
    (case ki_BadText_VoteError => kit_is)
    (case ki_BadText_ValueError => kit_is)
    (case ki_BadDeed_BadNumber => kit_is)
    (case ki_BadDeed_BadLot => kit_is)
    (case ki_BadDeed_NoMeeting => kit_is)
    (case ki_BadDeed_BadTrade => kit_is)
    (case ki_BadDeed_BadFlow => kit_is)
    (case ki_BadDeed_BadText => kit_is)
    (case ki_BadDeed_BadDeed => kit_is)
    (case ki_BadDeed_TooMany => kit_is)
    (case ki_BadDeed_Unlike => kit_is)
    (case ki_BadDeed_NothingToUndo => kit_is)
    (case ki_BadDeed_VoteError => kit_is)
    (case ki_BadDeed_ValueError => kit_is)
    (case ki_TooMany_BadNumber => kit_is)
    (case ki_TooMany_BadLot => kit_is)
    (case ki_TooMany_NoMeeting => kit_is)
    (case ki_TooMany_BadTrade => kit_is)
    (case ki_TooMany_BadFlow => kit_is)
    (case ki_TooMany_BadText => kit_is)
    (case ki_TooMany_BadDeed => kit_is)
    (case ki_TooMany_TooMany => kit_is)
    (case ki_TooMany_Unlike => kit_is)
    (case ki_TooMany_NothingToUndo => kit_is)
    (case ki_TooMany_VoteError => kit_is)
    (case ki_TooMany_ValueError => kit_is)
    (case ki_Unlike_BadNumber => kit_is)
    (case ki_Unlike_BadLot => kit_is)
    (case ki_Unlike_NoMeeting => kit_is)
    (case ki_Unlike_BadTrade => kit_is)
    (case ki_Unlike_BadFlow => kit_is)
    (case ki_Unlike_BadText => kit_is)
    (case ki_Unlike_BadDeed => kit_is)
    (case ki_Unlike_TooMany => kit_is)
    (case ki_Unlike_Unlike => kit_is)
    (case ki_Unlike_NothingToUndo => kit_is)
    (case ki_Unlike_VoteError => kit_is)
    (case ki_Unlike_ValueError => kit_is)
    (case ki_NothingToUndo_BadNumber => kit_is)
    (case ki_NothingToUndo_BadLot => kit_is)
    (case ki_NothingToUndo_NoMeeting => kit_is)
    (case ki_NothingToUndo_BadTrade => kit_is)
    (case ki_NothingToUndo_BadFlow => kit_is)
    (case ki_NothingToUndo_BadText => kit_is)
    (case ki_NothingToUndo_BadDeed => kit_is)
    (case ki_NothingToUndo_TooMany => kit_is)
    (case ki_NothingToUndo_Unlike => kit_is)
    (case ki_NothingToUndo_NothingToUndo => kit_is)
    (case ki_NothingToUndo_VoteError => kit_is)
    (case ki_NothingToUndo_ValueError => kit_is)
    (case eC_VoteError => k_is)
    (case tC_VoteError => k_is)
    (case hd_VoteError => k_is)
    (case ic_VoteError => k_is)
    (case sb_BadNumber_VoteError => k_is)
    (case sb_BadLot_VoteError => k_is)
    (case sb_NoMeeting_VoteError => k_is)
    (case sb_BadTrade_VoteError => k_is)
    (case sb_BadFlow_VoteError => k_is)
    (case sb_BadText_VoteError => k_is)
    (case sb_BadDeed_VoteError => k_is)
    (case sb_TooMany_VoteError => k_is)
    (case sb_Unlike_VoteError => k_is)
    (case sb_NothingToUndo_VoteError => k_is)
    (case mb_ValueError => k_is)
    (case mb_abs => k_is)
    (case mb_int => k_is)
    (case mb_isinstance => k_is)
    (case mb_len => k_is)
    (case mb_range => k_is)

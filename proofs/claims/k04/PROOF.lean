import PyProof.Rows.All
import Wide.All
import OpenK.AllK
import Wide.FinOn
import KE.RegKIsAll
import KE.KExcIs
import KE.KOpsOwn
import HandS.ForSpec
import HandS.ExcInit
import HandS.ExcField
import HandS.IsInst
import HandS.Style
import HandS.Evl
import HandS.OwnEq
import HandS.Wide
import HandS.Gcd
import HandS.Defaults
import HandS.Comp
import PySem.Challenge.RW_copyvotes_k04_whole_sums_of_ratios
set_option Elab.async false
set_option linter.all false
set_option maxRecDepth 100000
set_option maxHeartbeats 4000000

namespace Cv
open PySem PySem.Spec PyProof.Rows L2
def topS (i : Nat) : Stmt := PySem.Challenge.pw_copyvotes_k04_whole_sums_of_ratios.main.body.getD i (.Pass ⟨0, 0, 0, 0⟩)
abbrev s_BadNumber_init : Stmt := inClass (topS 4) 0
theorem sc_BadNumber_init : FnScope ["self", "what", "value"] ["self", "what", "value"] (defScope s_BadNumber_init) := ⟨rfl, rfl, rfl, by decide +kernel, rfl, by decide +kernel, by decide +kernel⟩
abbrev s_is_integer : Stmt := topS 6
theorem sc_is_integer : FnScope ["value"] ["value"] (defScope s_is_integer) := ⟨rfl, rfl, rfl, by decide +kernel, rfl, by decide +kernel, by decide +kernel⟩
abbrev s_check_number : Stmt := topS 7
theorem sc_check_number : FnScope ["what", "value", "low", "high"] ["what", "value", "low", "high"] (defScope s_check_number) := ⟨rfl, rfl, rfl, by decide +kernel, rfl, by decide +kernel, by decide +kernel⟩
abbrev s_Ratio_init : Stmt := inClass (topS 9) 0
theorem sc_Ratio_init : FnScope ["self", "over", "under", "divisor"] ["self", "over", "under"] (defScope s_Ratio_init) := ⟨rfl, rfl, rfl, by decide +kernel, rfl, by decide +kernel, by decide +kernel⟩
abbrev s_ratio_of : Stmt := topS 10
theorem sc_ratio_of : FnScope ["value"] ["value"] (defScope s_ratio_of) := ⟨rfl, rfl, rfl, by decide +kernel, rfl, by decide +kernel, by decide +kernel⟩
abbrev s_Ratio_eq : Stmt := inClass (topS 9) 1
theorem sc_Ratio_eq : FnScope ["self", "other"] ["self", "other"] (defScope s_Ratio_eq) := ⟨rfl, rfl, rfl, by decide +kernel, rfl, by decide +kernel, by decide +kernel⟩
abbrev s_Ratio_add : Stmt := inClass (topS 9) 6
theorem sc_Ratio_add : FnScope ["self", "other", "right", "over"] ["self", "other"] (defScope s_Ratio_add) := ⟨rfl, rfl, rfl, by decide +kernel, rfl, by decide +kernel, by decide +kernel⟩
abbrev s_Ratio_radd : Stmt := inClass (topS 9) 7
theorem sc_Ratio_radd : FnScope ["self", "other"] ["self", "other"] (defScope s_Ratio_radd) := ⟨rfl, rfl, rfl, by decide +kernel, rfl, by decide +kernel, by decide +kernel⟩
abbrev s_Ratio_sub : Stmt := inClass (topS 9) 8
theorem sc_Ratio_sub : FnScope ["self", "other", "right", "over"] ["self", "other"] (defScope s_Ratio_sub) := ⟨rfl, rfl, rfl, by decide +kernel, rfl, by decide +kernel, by decide +kernel⟩
abbrev s_Ratio_rsub : Stmt := inClass (topS 9) 9
theorem sc_Ratio_rsub : FnScope ["self", "other", "left"] ["self", "other"] (defScope s_Ratio_rsub) := ⟨rfl, rfl, rfl, by decide +kernel, rfl, by decide +kernel, by decide +kernel⟩
abbrev s_Ratio_mul : Stmt := inClass (topS 9) 10
theorem sc_Ratio_mul : FnScope ["self", "other", "right"] ["self", "other"] (defScope s_Ratio_mul) := ⟨rfl, rfl, rfl, by decide +kernel, rfl, by decide +kernel, by decide +kernel⟩
abbrev s_Ratio_rmul : Stmt := inClass (topS 9) 11
theorem sc_Ratio_rmul : FnScope ["self", "other"] ["self", "other"] (defScope s_Ratio_rmul) := ⟨rfl, rfl, rfl, by decide +kernel, rfl, by decide +kernel, by decide +kernel⟩
abbrev s_Ratio_divided : Stmt := inClass (topS 9) 13
theorem sc_Ratio_divided : FnScope ["self", "other", "right"] ["self", "other"] (defScope s_Ratio_divided) := ⟨rfl, rfl, rfl, by decide +kernel, rfl, by decide +kernel, by decide +kernel⟩
abbrev s_l_start : Stmt := topS 12
theorem sc_l_start : FnScope ["_law_script", "_law_first"] ["_law_script"] (defScope s_l_start) := ⟨rfl, rfl, rfl, by decide +kernel, rfl, by decide +kernel, by decide +kernel⟩
abbrev s_l_draw : Stmt := topS 13
theorem sc_l_draw : FnScope ["_law_script", "_law_state", "_law_limit", "_law_number", "_law_cell", "_law_mixed"] ["_law_script", "_law_state", "_law_limit"] (defScope s_l_draw) := ⟨rfl, rfl, rfl, by decide +kernel, rfl, by decide +kernel, by decide +kernel⟩
abbrev s_l_is : Stmt := topS 14
theorem sc_l_is : FnScope ["_law_value", "_law_over", "_law_under"] ["_law_value", "_law_over", "_law_under"] (defScope s_l_is) := ⟨rfl, rfl, rfl, by decide +kernel, rfl, by decide +kernel, by decide +kernel⟩
abbrev s_l_divided : Stmt := topS 15
theorem sc_l_divided : FnScope ["_law_value", "_law_other", "e"] ["_law_value", "_law_other"] (defScope s_l_divided) := ⟨rfl, rfl, rfl, by decide +kernel, rfl, by decide +kernel, by decide +kernel⟩
abbrev s_l_pair_holds : Stmt := topS 16
theorem sc_l_pair_holds : FnScope ["_law_one", "_law_two", "_law_a", "_law_b", "_law_c", "_law_d"] ["_law_one", "_law_two", "_law_a", "_law_b", "_law_c", "_law_d"] (defScope s_l_pair_holds) := ⟨rfl, rfl, rfl, by decide +kernel, rfl, by decide +kernel, by decide +kernel⟩
abbrev s_l_integer_holds : Stmt := topS 17
theorem sc_l_integer_holds : FnScope ["_law_one", "_law_a", "_law_b", "_law_n"] ["_law_one", "_law_a", "_law_b", "_law_n"] (defScope s_l_integer_holds) := ⟨rfl, rfl, rfl, by decide +kernel, rfl, by decide +kernel, by decide +kernel⟩
abbrev s_law : Stmt := topS 18
theorem sc_law : FnScope ["_law_script", "_law_state", "_law_terms", "_law_k", "_law_made", "_law_over", "_law_under", "_law_at", "_law_other", "_law_a", "_law_b", "_law_c", "_law_d", "_law_n"] ["_law_script"] (defScope s_law) := ⟨rfl, rfl, rfl, by decide +kernel, rfl, by decide +kernel, by decide +kernel⟩
/-! ## What every law's text wants: heaps, exceptions, the draws -/
theorem same_upd {H : Hp} {p : Addr} {o : HO} (h : H p = none) : Same H (upd H p o) := fun b x e => by
  rw [upd_ne (ne_of_none e h)]
  exact e
theorem same_upd2 {H H' : Hp} {p : Addr} {o : HO} (e : Same H H') (h : H p = none) : Same H (upd H' p o) := fun b x k => by
  rw [upd_ne (ne_of_none k h)]
  exact e b x k
/-- an except clause that names an own class -/
theorem exm_own {K : PySem.W.Frag} {cls : Value} {S : Addr} {b : Bool} (h1 : PySem.W.subIn K (.ref S) (.type "BaseException") = some true) (h2 : PySem.W.isClsIn K S = true) (h3 : PySem.W.typeIn K (.ref S) = some (.type "type")) (h4 : PySem.W.subIn K cls (.ref S) = some b) :
    PySem.W.exmOne K cls (.ref S) = some b := by
  have e1 : (PySem.W.subIn K (.ref S) (.type "BaseException") == some true) = true := by rw [h1] <;> rfl
  have e2 : ((PySem.W.clsIn K S).isSome && PySem.W.typeIn K (.ref S) == some (.type "type")) = true := by
    have h2' : (PySem.W.clsIn K S).isSome = true := h2
    rw [h2', h3] <;> rfl
  show (if (PySem.W.subIn K (.ref S) (.type "BaseException") == some true) = true then (if ((PySem.W.clsIn K S).isSome && PySem.W.typeIn K (.ref S) == some (.type "type")) = true then PySem.W.subIn K cls (.ref S) else none) else none) = some b
  rw [if_pos e1, if_pos e2]
  exact h4
/-- what isinstance asks of an own exception class -/
structure XiC (K : PySem.W.Frag) (C : Addr) : Prop where
  cl : PySem.W.isClsIn K C = true
  ga : PySem.W.findIn K (.ref C) "__getattribute__" = some (some (.builtin "BaseException.__getattribute__"))
  gg : PySem.W.findIn K (.ref C) "__getattr__" = some none
  sb : PySem.W.subIn K (.ref C) (.type "BaseException") = some true
  ha : PySem.W.findIn K (.ref C) "__class__" = some (some (.builtin "object.__class__"))
  hn : PySem.W.specialIn K (.builtin "object.__class__") "__get__" = some (some (.builtin "getset_descriptor.__get__"))
  ht : PySem.W.takesIn K (.builtin "object.__class__") = some true
  hm : PySem.W.mroIn K C (.type "object") = some true
/-- isinstance(e, c) within the suite that holds e, an error with its own dict -/
def rIsX (K : PySem.W.Frag) (a C : Addr) (cls : Value) (d : Option Addr) : List V → Hp → VK → Prop := fun xs H Q => ∃ (c : V) (cv : Value) (b : Bool) (dd : Addr) (fs : List (Str × V)), xs = [.ref a, c] ∧ cls = .ref C ∧ d = some dd ∧ H dd = some (.xd fs) ∧ ClsV c cv ∧ PySem.W.kitOne K (.ref C) cv = some b ∧ Q (.bl b) H
theorem call_isX {X : Cx} {a C : Addr} {oe : Obj} {cls : Value} {d : Option Addr} {pn : List (Addr × Obj)} (T : XiC X.K C) (hz : Zc cls d oe) (hf : ∃ vs, oe.data = .fields vs) : CallR (X.suite a ((a, oe) :: pn)) (.builtin "isinstance") (rIsX X.K a C cls d) := by
  intro pins s σ H xs us Q I r h
  obtain ⟨c, cv, b, dd, fs, rfl, rfl, rfl, ea, hcv, e, q⟩ := h
  obtain ⟨u1, u2, rfl, r1, r2⟩ := vals2 r
  cases (show u1 = Value.ref a from r1)
  have ec := hcv.eq r2
  subst ec
  obtain ⟨ha, _⟩ := I.pin (a, oe) (List.mem_append_left _ List.mem_cons_self)
  obtain ⟨vs, hd⟩ := hf
  have hx : ObjOk X.prog X.w H s.heap dd (.xd fs) := I.hok dd _ ea
  obtain ⟨mA, hns, hr⟩ := hx
  obtain ⟨od, ho, hl⟩ := lookIn_ns hns
  have J : PySem.W.InstAt s.heap a oe C (some od) := ⟨ha, hz.1, by unfold PySem.W.notCls; rw [hd] <;> rfl, by rw [hz.2]; exact ho⟩
  exact PySem.W.kia_one (PySem.W.kitx_exc T.cl T.ga T.gg T.sb T.ha T.hn T.ht T.hm) I.kIn J e (fun z => nomatch z) fun tk => ⟨.bl b, H, I.kept (t' := tk) fun _ _ z => z, rfl, q⟩
/-! ### the state of the draws -/
def St4 (H : Hp) (t : Addr) : Prop := ∃ a b c d : Int, H t = some (.lst [.int a, .int b, .int c, .int d])
/-- H0: the heap of old, t: the state's list, l: the script -/
structure Drw (K : PySem.W.Frag) (H0 : Hp) (l t : Addr) (H : Hp) : Prop where
  scr : ∃ ns : List Int, SqL K H0 l (ns.map V.int)
  new : H0 t = none
  same : Same H0 H
  st : St4 H t
theorem Drw.sc {K : PySem.W.Frag} {H0 H : Hp} {l t : Addr} (D : Drw K H0 l t H) : ∃ ns : List Int, SqL K H l (ns.map V.int) := by
  obtain ⟨ns, h⟩ := D.scr
  exact ⟨ns, D.same.seq h⟩
theorem Drw.upd {K : PySem.W.Frag} {H0 H : Hp} {l t : Addr} {a b c d : Int} (D : Drw K H0 l t H) : Drw K H0 l t (upd H t (.lst [.int a, .int b, .int c, .int d])) :=
  ⟨D.scr, D.new, same_upd2 D.same D.new, ⟨a, b, c, d, upd_same⟩⟩
theorem Drw.mono {K : PySem.W.Frag} {H0 H H' : Hp} {l t : Addr} (D : Drw K H0 l t H) (e : Same H H') : Drw K H0 l t H' := by
  obtain ⟨a, b, c, d, h⟩ := D.st
  exact ⟨D.scr, D.new, D.same.trans e, ⟨a, b, c, d, e _ _ h⟩⟩
/-- all but what stands at t -/
def But (t : Addr) (H H' : Hp) : Prop := ∀ b, b ≠ t → H' b = H b
theorem But.refl {t : Addr} {H : Hp} : But t H H := fun _ _ => rfl
theorem But.trans {t : Addr} {H H1 H2 : Hp} (a : But t H H1) (b : But t H1 H2) : But t H H2 := fun c h => (b c h).trans (a c h)
theorem But.upd {t : Addr} {H H1 : Hp} {o : HO} (a : But t H H1) : But t H (upd H1 t o) := fun c h => (upd_ne h).trans (a c h)
def spStart (K : PySem.W.Frag) : Sp := fun vs H Q _ => ∃ (l : Addr) (ns : List Int), vs = [.ref l] ∧ SqL K H l (ns.map V.int) ∧ ∀ t H', H t = none → Drw K H l t H' → But t H H' → Q (.ref t) H'
def spDraw (K : PySem.W.Frag) : Sp := fun vs H Q _ => ∃ (l t : Addr) (m : Int) (H0 : Hp), vs = [.ref l, .ref t, .int m] ∧ Drw K H0 l t H ∧ 0 < m ∧ m < 1073741824 ∧ ∀ (v : Int) H', 0 ≤ v → v < m → But t H H' → Drw K H0 l t H' → Q (.int v) H'
theorem at0 {a b c d : V} : atI [a, b, c, d] 0 = some a := rfl
theorem at1 {a b c d : V} : atI [a, b, c, d] 1 = some b := rfl
theorem at2 {a b c d : V} : atI [a, b, c, d] 2 = some c := rfl
theorem at3 {a b c d : V} : atI [a, b, c, d] 3 = some d := rfl
/-- the plain steps of a reading -/
local macro_rules | `(tactic| walk_at "rd") => `(tactic| repeat (first | refine ⟨_, rfl, ?_⟩ | refine ⟨_, _, rfl, rfl, ?_⟩ | refine ⟨⟨by decide, by decide⟩, ?_⟩ | refine ⟨⟨by decide, by decide, by decide⟩, ?_⟩ | refine ⟨show (0 : Int) < _ by decide, ?_⟩))
/-! ### data, errors, numbers -/
theorem Same.seqT {K : PySem.W.Frag} {H H' : Hp} {a : Addr} {xs : List V} (e : Same H H') (h : SqT K H a xs) : SqT K H' a xs := by
  rcases h with (h | ⟨o, h⟩) | h
  · exact .inl (.inl (e _ _ h))
  · exact .inl (.inr ⟨o, e _ _ h⟩)
  · exact .inr h
mutual
theorem dp_same {K : PySem.W.Frag} {H H' : Hp} (e : Same H H') : ∀ {v : V} {d : PyData}, Dp K H v d → Dp K H' v d
  | _, _, .non => .non
  | _, _, .bl b => .bl b
  | _, _, .int i => .int i
  | _, _, .str x => .str x
  | _, _, .lst h a => .lst (e.seq h) (dps_same e a)
  | _, _, .tup h a => .tup (Same.seqT e h) (dps_same e a)
theorem dps_same {K : PySem.W.Frag} {H H' : Hp} (e : Same H H') : ∀ {vs : List V} {ds : List PyData}, DpAll K H vs ds → DpAll K H' vs ds
  | _, _, .nil => .nil
  | _, _, .cons h a => .cons (dp_same e h) (dps_same e a)
end
theorem ne_self {d : PyData} (h : SeqAt.shaped d = true) : (!PyData.eqv d d) = false := by
  rw [SeqAt.eqv_refl d (SeqAt.canLay_of_shaped h)] <;> rfl
theorem eq_self {d : PyData} (h : SeqAt.shaped d = true) : PyData.eqv d d = true := SeqAt.eqv_refl d (SeqAt.canLay_of_shaped h)
/-- an error of two fields, being made -/
def spX2 (C : Addr) (f1 f2 : Str) : Sp := fun vs H Q _ => ∃ (a : Addr) (x y : V), vs = [.ref a, x, y] ∧ H a = some (exo a C none) ∧
  ∀ d, H d = none → d ≠ a → Q .non (upd (upd (upd H d (exd d [(f1, x)])) a (exo a C (some d))) d (exd d [(f2, y), (f1, x)]))
theorem mk2 {C : Addr} {f1 f2 : Str} {H1 : Hp} {x y : V} {Q : XK} (h : ∀ d H', H1 d = none → Same H1 H' → H' d = some (.xd [(f2, y), (f1, x)]) → Q (.ref C) (some d) H') :
    ([x, y] : List V).length ≤ 1000 ∧ ∀ a, H1 a = none → spX2 C f1 f2 (.ref a :: ([x, y] ++ [])) (upd H1 a (exo a C none)) (fun v H2 => v = .non ∧ ∃ (d : Addr) (fs : List (Str × V)), H2 a = some (exo a C (some d)) ∧ H2 d = some (exd d fs) ∧ H1 d = none ∧ Q (.ref C) (some d) (upd (del H2 a) d (.xd fs))) (fun _ _ _ => False) := by
  refine ⟨by show 2 ≤ 1000; decide, fun a ha => ⟨a, x, y, rfl, upd_same, fun d hd hda => ⟨rfl, d, _, ?_, upd_same, ?_, ?_⟩⟩⟩
  · rw [upd_ne (Ne.symm hda), upd_same]
  · rw [upd_ne hda] at hd
    exact hd
  · have hd1 : H1 d = none := by
      rw [upd_ne hda] at hd
      exact hd
    refine h d _ hd1 (fun b o e => ?_) upd_same
    have hba : b ≠ a := ne_of_none e ha
    have hbd : b ≠ d := ne_of_none e hd1
    rw [upd_ne hbd, del_ne hba, upd_ne hbd, upd_ne hba, upd_ne hbd, upd_ne hba]
    exact e
/-- what is an integer -/
def isInt : V → Bool
  | .int _ => true
  | _ => false
/-- a value that isinstance can ask -/
def Kn (K : PySem.W.Frag) (H : Hp) (x : V) : Prop := ∃ t b1 b2, TyX K H x t ∧ PySem.W.kitOne K t (.type "int") = some b1 ∧ (b1 = true → PySem.W.kitOne K t (.type "bool") = some b2) ∧ (b1 && !b2) = isInt x
theorem kn_int {K : PySem.W.Frag} {H : Hp} (i : Int) : Kn K H (.int i) := ⟨_, true, false, .base (.int i), kit_ty (by decide +kernel), fun _ => kit_ty (by decide +kernel), rfl⟩
theorem kn_bl {K : PySem.W.Frag} {H : Hp} (b : Bool) : Kn K H (.bl b) := ⟨_, true, true, .base (.bl b), kit_ty (by decide +kernel), fun _ => kit_ty (by decide +kernel), rfl⟩
theorem kn_non {K : PySem.W.Frag} {H : Hp} : Kn K H .non := ⟨_, false, false, .base .non, kit_ty (by decide +kernel), fun z => (nomatch z), rfl⟩
theorem kn_str {K : PySem.W.Frag} {H : Hp} (x : Str) : Kn K H (.str x) := ⟨_, false, false, .base (.str x), kit_ty (by decide +kernel), fun z => (nomatch z), rfl⟩
theorem kn_tup {K : PySem.W.Frag} {H : Hp} {a : Addr} {xs : List V} (e : H a = some (.tup xs)) : Kn K H (.ref a) := ⟨_, false, false, .base (.tup e), kit_ty (by decide +kernel), fun z => (nomatch z), rfl⟩
def spIsInt (K : PySem.W.Frag) : Sp := fun vs H Q _ => ∃ x, vs = [x] ∧ Kn K H x ∧ Q (.bl (isInt x)) H
def oV : Option Int → V
  | none => .non
  | some i => .int i
/-- within the bounds -/
def good (x : V) (lo hi : Option Int) : Bool := match x with
  | .int i => lo.all (fun l => decide (l ≤ i)) && hi.all (fun h => decide (i ≤ h))
  | _ => false
def spCheck (K : PySem.W.Frag) (C : Addr) : Sp := fun vs H Q E => ∃ (w : Str) (x : V) (lo hi : Option Int), vs = [.str w, x, oV lo, oV hi] ∧ Kn K H x ∧ (good x lo hi = true → Q x H) ∧
  (good x lo hi = false → ∀ d H', H d = none → Same H H' → H' d = some (.xd [("value", x), ("what", .str w)]) → E (.ref C) (some d) H')
/-- subscripts whose written part is named (within a comprehension) -/
theorem ixK_list {X : Cx} {K : PySem.W.Frag} (h : X.K = K) : IxR X (rIxL K) := h ▸ ix_list
theorem ixK_tup {X : Cx} {K : PySem.W.Frag} (h : X.K = K) : IxR X (rIxT K) := h ▸ ix_tup
/-- a field, the written part named (within a try) -/
theorem pe_fldK {X : Cx} {K : PySem.W.Frag} {e : Expr} {f : Str} {pos : Pos} {ta : TE} (h : X.K = K) (he : PE X e ta) (hb : attributeBase e f X.env (eval e X.env) = eval e X.env) : PE X (.Attribute e f pos) (tFld K ta f) := h ▸ pe_fld he hb
/-! ### operators of an own class: x op y, x op int, int op x, !=, str -/
section
variable {prog : Program} {w : World} {A : Around} {E : Value → Shared → Prop} {s : Shared} {K : PySem.W.Frag} {x C f : Addr} {ox : Obj} {od : Option Obj}
theorem bin_declines {nm : String} {g : Int → Int → Sem Fin} {n : Int} {t : Tok} {Q : Fin → Shared → Prop} {R : Value → Shared → Prop} (hs : slotArgs nm 1 ⟨[.int n t, .ref x], []⟩ = pure (.int n t, [.ref x]))
    (hx : s.heap.get? x = some ox) (hp : ∀ v, ox.data ≠ .prim v) (h : Q (.done (.ret .notImplemented)) s) :
    wpAny (model prog w) A (Builtin.Int.intBinary nm g false ⟨[.int n t, .ref x], []⟩) Q R s := by
  unfold Builtin.Int.intBinary
  refine wpAny_bind (wpAny_of_eq (a := ((Value.int n t, [Value.ref x]) : Value × List Value)) hs ?_)
  dsimp only
  unfold Builtin.Int.intOfSelf asInt?
  refine wpAny_bind (wpAny_bind (wpAny_pure ?_))
  dsimp only
  refine wpAny_pure (wpAny_bind ?_)
  show wpAny _ _ (load x >>= _) _ _ _
  refine wpAny_bind (wpAny_load hx ?_)
  have fin : wpAny (model prog w) A (do rule "int.binary.not-an-int"; ret Value.notImplemented) Q R s := wpAny_bind (wpAny_rule (wpAny_pure h))
  cases e : ox.data with
  | prim v => exact absurd e (hp v)
  | _ => exact wpAny_pure fin
/-- int's slot with an instance on the right declines -/
theorem int_try {name : Str} {id nm : String} {g : Int → Int → Sem Fin} {n : Int} {t : Tok} {Q : Value → Shared → Prop} (slot : Slot "int" name id) (entry : entryFor table id = some (Builtin.Int.intBinary nm g false)) (args : argsOk id ⟨[.int n t, .ref x], []⟩)
    (hs : slotArgs nm 1 ⟨[.int n t, .ref x], []⟩ = pure (.int n t, [.ref x])) (hx : s.heap.get? x = some ox) (hp : ∀ v, ox.data ≠ .prim v) (h : Q .notImplemented s) : wpAny (model prog w) A (call (.builtin id) [.int n t, .ref x]) Q E s :=
  GQ.call_here slot (typeIs_int s n t) entry args (bin_declines hs hx hp h)
theorem refl_bin {op : Operator} {id nm : String} {g : Int → Int → Sem Fin} {n : Int} {t : Tok} {fr : Addr} {cd : ClassData} {rest : List Value} {Q : Value → Shared → Prop} (X : K.In s.heap) (I : PySem.W.InstAt s.heap x ox C od)
    (slot : Slot "int" (PySem.dunder op.info.2) id) (entry : entryFor table id = some (Builtin.Int.intBinary nm g false)) (args : argsOk id ⟨[.int n t, .ref x], []⟩) (hs : slotArgs nm 1 ⟨[.int n t, .ref x], []⟩ = pure (.int n t, [.ref x])) (hp : ∀ v, ox.data ≠ .prim v)
    (hfI : fillsNumberSlot (.type "int") op.info.2 = pure true) (hcd : PySem.W.clsIn K C = some cd) (hm : cd.mro = .ref C :: rest) (hf : PySem.W.findIn K (.ref C) (PySem.dunder op.info.2) = some (some (.ref f))) (hsub : PySem.W.subIn K (.ref C) (.type "int") = some false)
    (hr : PySem.W.findIn K (.ref C) (dunderR op.info.2) = some (some (.ref fr))) (hfn : PySem.W.isFn K (.ref fr) = true) (h : wpAny (model prog w) A (call (.ref fr) [.ref x, .int n t]) (PySem.W.CmpBack Q) E s) :
    wpAny (model prog w) A (binaryOp op (.int n t) (.ref x)) Q E s := by
  rcases hi : op.info with ⟨sym, nm'⟩
  rw [hi] at slot hfI hf hr
  dsimp only at slot hfI hf hr
  simp only [binaryOp, hi]
  refine wpAny_holding (wpAny_bind ?_)
  unfold binaryOp1
  have hne : (Value.type "int" == Value.ref C) = false := Bool.eq_false_iff.mpr fun q => by cases beq_iff_eq.mp q
  refine wpAny_bind (wpAny_typeOf (typeIs_int s n t) (wpAny_bind (I.type.here (wpAny_bind (wpAny_of_eq hfI ?_)))))
  simp only [hne, Bool.false_eq_true, if_false]
  refine wpAny_bind ((PySem.W.fills_K X hcd hm hf).here ?_)
  simp only [Bool.and_self, if_true]
  refine wpAny_bind ((PySem.W.looks_subIn X hsub).here ?_)
  have hpy : numberSlotInPython (.type "int") nm' = pure false := rfl
  simp only [Bool.false_eq_true, if_false, pure_bind, Bool.not_false, Bool.and_self, if_true, hpy]
  refine wpAny_bind (wpAny_tryMethod_declines (typeIs_int s n t) slot (int_try slot entry args hs I.1 hp ⟨rfl, ?_⟩))
  refine wpAny_bind (wpAny_mono (PySem.W.ksp_try X I hr hfn h) (fun r s' z => ?_) fun _ _ e => e)
  obtain ⟨v, rfl, hq⟩ := z
  exact wpAny_bind (wpAny_rule (wpAny_pure (wpAny_pure hq)))
theorem cmp_try {name : Str} {b : Value} {Q : Value → Shared → Prop} (X : K.In s.heap) (I : PySem.W.InstAt s.heap x ox C od) (hs : PySem.W.findIn K (.ref C) name = some (some (.ref f))) (hf : PySem.W.isFn K (.ref f) = true)
    (h : wpAny (model prog w) A (call (.ref f) [.ref x, b]) (PySem.W.CmpBack Q) E s) : wpAny (model prog w) A (tryCompare (.ref x) name b) (fun r s' => ∃ v, r = some v ∧ Q v s') E s := by
  unfold tryCompare
  refine wpAny_bind (PySem.W.ifBound_K X I hs hf (wpAny_mono h (fun v s' hv => ?_) fun _ _ e => e))
  cases v <;> first | exact hv.elim | exact wpAny_pure ⟨_, rfl, hv⟩
theorem refl_cmp {op : CmpOp} {id nm : String} {g : Int → Int → Sem Fin} {n : Int} {t : Tok} {fr : Addr} {Q : Value → Shared → Prop} (hu : A.units < cLine) (X : K.In s.heap) (I : PySem.W.InstAt s.heap x ox C od)
    (slot : Slot "int" (cmpInfo op).2.1 id) (entry : entryFor table id = some (Builtin.Int.intBinary nm g false)) (args : argsOk id ⟨[.int n t, .ref x], []⟩) (hs : slotArgs nm 1 ⟨[.int n t, .ref x], []⟩ = pure (.int n t, [.ref x])) (hp : ∀ v, ox.data ≠ .prim v)
    (hot : oneThing? op (.int n t) (.ref x) = none) (hsub : PySem.W.subIn K (.ref C) (.type "int") = some false)
    (hr : PySem.W.findIn K (.ref C) (cmpInfo op).2.2 = some (some (.ref fr))) (hfn : PySem.W.isFn K (.ref fr) = true) (h : wpAny (model prog w) A (call (.ref fr) [.ref x, .int n t]) (PySem.W.CmpBack Q) E s) :
    wpAny (model prog w) A (richCompare op (.int n t) (.ref x)) Q E s := by
  unfold richCompare
  rw [hot]
  have hne : (Value.type "int" != Value.ref C) = true := by
    have q : (Value.type "int" == Value.ref C) = false := Bool.eq_false_iff.mpr fun q => by cases beq_iff_eq.mp q
    rw [bne, q] <;> rfl
  refine wpAny_holding (wpAny_bind (wpAny_cRoomFor hu ?_))
  dsimp only
  refine wpAny_bind (wpAny_typeOf (typeIs_int s n t) (wpAny_bind (I.type.here ?_)))
  rw [hne]
  simp only [if_true]
  refine wpAny_bind ((PySem.W.looks_subIn X hsub).here ?_)
  simp only [Bool.false_eq_true, if_false, Bool.not_false, if_true]
  have one : ∀ {Q' : Option Value → Shared → Prop}, Q' none s → wpAny (model prog w) A (tryCompare (.int n t) (cmpInfo op).2.1 (.ref x)) Q' E s := fun {Q'} q => by
    unfold tryCompare
    exact wpAny_bind (wpAny_callSpecialIfBound?_slot (typeIs_int s n t) slot (int_try slot entry args hs I.1 hp (wpAny_pure q)))
  refine wpAny_bind (one ?_)
  dsimp only
  refine wpAny_bind (wpAny_mono (cmp_try X I hr hfn h) (fun r s' z => ?_) fun _ _ e => e)
  obtain ⟨v, rfl, hq⟩ := z
  exact wpAny_pure hq
end
section
variable {prog : Program} {w : World} {A : Around} {E : Value → Shared → Prop} {s : Shared} {K : PySem.W.Frag} {x C f : Addr} {ox : Obj} {od : Option Obj}
/-- a special method that the class has from object -/
theorem ifBound_slot {M : Model} {name : Str} {id : String} {args : List Value} {Q : Option Value → Shared → Prop} (X : K.In s.heap) (I : PySem.W.InstAt s.heap x ox C od) (S : Slot "object" name id) (hs : PySem.W.findIn K (.ref C) name = some (some (.builtin id)))
    (h : wpAny M A (call (.builtin id) (.ref x :: args)) (fun v => Q (some v)) E s) : wpAny M A (callSpecialIfBound? (.ref x) name args) Q E s := by
  simp only [callSpecialIfBound?, bindSpecialIfBound?]
  refine wpAny_holding (wpAny_bind (wpAny_bind (wpAny_bind (I.type.here ((PySem.W.looks_findIn X hs).here ?_)))))
  simp only [S.bind]
  refine wpAny_bind (wpAny_askSetting (wpAny_ite ?_))
  have fin : wpAny M A (call (.builtin id) ([.ref x] ++ args) >>= fun v => pure (some v)) Q E s := wpAny_bind (wpAny_mono h (fun v s' z => wpAny_pure z) fun _ _ z => z)
  split
  · exact wpAny_bind (wpAny_pure (wpAny_pure fin))
  · exact wpAny_tryCatch (wpAny_bind (wpAny_pure (wpAny_pure fin)))
/-- x != b by the own == -/
theorem own_ne {b tb : Value} {Q : Value → Shared → Prop} (hu : A.units + 1 < cLine) (X : K.In s.heap) (I : PySem.W.InstAt s.heap x ox C od) (hb : PySem.W.Looks (model prog w) s.heap (typeOf b) tb) (hn : PySem.W.notFirst K C tb = true)
    (hne : PySem.W.findIn K (.ref C) "__ne__" = some (some (.builtin "object.__ne__"))) (hm : PySem.W.mroIn K C (.type "object") = some true) (heq : PySem.W.findIn K (.ref C) "__eq__" = some (some (.ref f))) (hf : PySem.W.isFn K (.ref f) = true)
    (h : wpAny (model prog w) A.in1 (call (.ref f) [.ref x, b]) (fun v s' => ∃ r, v = .bool r ∧ Q (.bool (!r)) s') E s) : wpAny (model prog w) A (richCompare .NotEq (.ref x) b) Q E s := by
  have S := PySem.F.cmp_object.ne
  have sub : PySem.W.Looks (model prog w) s.heap (isInstance (.ref x) (.type "object")) true := I.type.andThen (PySem.W.looks_mroIn X hm)
  have inner : wpAny (model prog w) A.in1 (Builtin.«object.__ne__» ⟨[.ref x, b], []⟩) (GQ.FinOf prog w A (wants (fun v s' => ∃ r, v = .bool r ∧ Q (.bool r) s') E)) (fun e s' => wants (fun v s' => ∃ r, v = .bool r ∧ Q (.bool r) s') E (.error e) s') s := by
    unfold Builtin.«object.__ne__»
    refine wpAny_bind (wpAny_of_eq (a := ((Value.ref x, [b]) : Value × List Value)) (by first | rfl | (simp only [slotArgs]; rfl)) ?_)
    dsimp only
    refine wpAny_bind (wpAny_cRoomFor (by show A.units + 1 < cLine; exact hu) ?_)
    refine wpAny_bind (PySem.W.ifBound_K X I heq hf (wpAny_mono h (fun v s' z => ?_) fun _ _ e => e))
    obtain ⟨r, rfl, q⟩ := z
    refine wpAny_bind (wpAny_truthy_bool ?_)
    exact wpAny_pure ⟨!r, rfl, q⟩
  have one : wpAny (model prog w) A (tryCompare (.ref x) "__ne__" b) (fun r s' => ∃ v, r = some (.bool v) ∧ Q (.bool v) s') E s := by
    unfold tryCompare
    have callne : wpAny (model prog w) A (call (.builtin "object.__ne__") [.ref x, b]) (fun v s' => ∃ r, v = .bool r ∧ Q (.bool r) s') E s :=
      wpAny_call (codeAny_call_builtin S.plain PySem.F.cmpEntry_ne (@PySem.W.check_slot (model prog w) _ _ s "object.__ne__" "object" "__ne__" (.ref x) [b] [] _ PySem.F.cmpKind_ne PySem.F.cmpSplit_ne sub (PySem.F.cmpArgs_ne _ _) inner))
    refine wpAny_bind (ifBound_slot X I S hne (wpAny_mono callne (fun v s' z => ?_) fun _ _ e => e))
    obtain ⟨r, rfl, q⟩ := z
    exact wpAny_pure ⟨r, rfl, q⟩
  unfold richCompare
  simp only [oneThing_ref]
  refine wpAny_holding (wpAny_bind (wpAny_cRoomFor (Nat.lt_of_succ_lt hu) ?_))
  refine wpAny_bind (I.type.here (wpAny_bind (hb.here ?_)))
  split
  · rename_i q
    have e : PySem.W.subIn K tb (.ref C) = some false := by
      rcases Bool.or_eq_true_iff.mp hn with e | e
      · rw [beq_iff_eq.mp e] at q; simp at q
      · exact beq_iff_eq.mp e
    refine wpAny_bind ((PySem.W.looks_subIn X e).here ?_)
    simp only [Bool.false_eq_true, if_false]
    refine wpAny_bind (wpAny_mono one (fun r s' z => ?_) fun _ _ e => e)
    obtain ⟨v, rfl, hq⟩ := z
    exact wpAny_pure hq
  · refine wpAny_bind (wpAny_pure ?_)
    simp only [Bool.false_eq_true, if_false]
    refine wpAny_bind (wpAny_mono one (fun r s' z => ?_) fun _ _ e => e)
    obtain ⟨v, rfl, hq⟩ := z
    exact wpAny_pure hq
end
/-! ### the same over the layer -/
section
variable {X : Cx} {CX : CXT} {k : Nat} {f C : Addr} {fd : FuncData} {ps : List Str} {sp : Sp} {E : XK} {pins : List (Addr × Obj)} {σ : L2.St} {H : Hp} {s : Shared}
/-- a def runs, at whatever depth -/
theorem run_deep {A : Around} {Q : VK} {us : List Value} {vs : List V} (F : FnOk X.prog X.w X.K X.mg X.base CX k f fd ps sp) (hr : Room k A) (e0 : Env0 X.prog X.w X.K X.mg X.base A X.stack s H) (hb : Binds X.K fd ps []) (hx : Passes CX X E)
    (I : Inv X pins σ H s) (r : Vals vs us) (h : sp vs H Q E) : wpAny (model X.prog X.w) A (call (.ref f) us) (EP X pins σ Q) X.xe s := by
  have hl : (us ++ []).length = ps.length := by rw [List.append_nil, ← r.length]; exact F.len _ _ _ _ h
  have hbind := hb s us I.kIn hl
  rw [List.append_nil] at hbind
  refine wpAny_call (codeAny_mono (F.run A X.stack s H ⟨us, []⟩ us vs Q E hr e0 hbind r h) fun r s' hq => ?_)
  cases r with
  | error e => exact hx pins σ H s e s' I hq
  | ok fl =>
    cases fl with
    | ret u => exact I.after hq
    | next => exact False.elim hq
    | brk => exact False.elim hq
    | cont => exact False.elim hq
theorem back_of {P : Value → Shared → Prop} {z : V} {v : Value} {s' : Shared} (r : RelV z v) (h : P v s') : PySem.W.CmpBack P v s' := by
  cases z with
  | non => cases (show v = Value.none from r); exact h
  | bl b => cases (show v = Value.bool b from r); exact h
  | ref a => cases (show v = Value.ref a from r); exact h
  | ty n => cases (show v = Value.type n from r); exact h
  | int i => obtain ⟨t, e⟩ := (show ∃ t, v = Value.int i t from r); cases e; exact h
  | str x => obtain ⟨t, e⟩ := (show ∃ t, v = Value.str x t from r); cases e; exact h
  | byt b => obtain ⟨t, e⟩ := (show ∃ t, v = Value.bytes b t from r); cases e; exact h
  | flt b => obtain ⟨t, e⟩ := (show ∃ t, v = Value.float b t from r); cases e; exact h
theorem inst_of (I : Inv X pins σ H s) {a dx : Addr} {fs : List (Str × V)} (h : H a = some (.ins C dx fs)) : ∃ od, PySem.W.InstAt s.heap a (PySem.W.instObj C dx) C (some od) := by
  obtain ⟨mA, J, _⟩ := ins_get I.hok h
  obtain ⟨od, J, _⟩ := J.look
  exact ⟨od, J⟩
/-- an instance of the class at C -/
def IsC (C : Addr) (H : Hp) (y : V) : Prop := ∃ a dx fs, y = .ref a ∧ H a = some (.ins C dx fs)
/-- what the operators ask of the class -/
structure OpC (K : PySem.W.Frag) (C : Addr) : Prop where
  first : PySem.W.selfFirst K C = true
  cls : ∃ cd rest, PySem.W.clsIn K C = some cd ∧ cd.mro = .ref C :: rest
  noInt : PySem.W.subIn K (.ref C) (.type "int") = some false
  intNo : PySem.W.subIn K (.type "int") (.ref C) = some false
  ne : PySem.W.findIn K (.ref C) "__ne__" = some (some (.builtin "object.__ne__"))
  ob : PySem.W.mroIn K C (.type "object") = some true
/-- x op y, both of C -/
def rOwnB (C : Addr) (sp : Sp) (E : XK) : R2 := fun x y H Q => IsC C H x ∧ IsC C H y ∧ sp [x, y] H Q E
theorem op_ownB {op : Operator} (T : OpC X.K C) (hs : PySem.W.findIn X.K (.ref C) (PySem.dunder op.info.2) = some (some (.ref f))) (hf : PySem.W.isFn X.K (.ref f) = true) (F : FnOk X.prog X.w X.K X.mg X.base CX k f fd ps sp) (hr : Room k X.A) (hb : Binds X.K fd ps []) (hx : Passes CX X E) :
    OpR X (binaryOp op) (rOwnB C sp E) := by
  intro pins s σ H x y v u Q I rx ry h
  obtain ⟨⟨a, dx, fs, rfl, ha⟩, ⟨b, dy, gs, rfl, hb'⟩, q⟩ := h
  cases (show v = Value.ref a from rx)
  cases (show u = Value.ref b from ry)
  obtain ⟨oa, J⟩ := inst_of I ha
  obtain ⟨ob, J'⟩ := inst_of I hb'
  obtain ⟨m, hF⟩ := I.fr
  refine PySem.W.binop_K hF I.ok.mod.kin J J'.type T.first hs hf (wpAny_mono (run_deep (vs := [.ref a, .ref b]) F hr I.env0 hb hx I (.cons rfl (.cons rfl .nil)) q) (fun w s' z => ?_) fun _ _ x => x)
  obtain ⟨z', H', I', rz, qz⟩ := z
  exact back_of rz ⟨z', H', I', rz, qz⟩
/-- x op n, n an int -/
def rOwnI (C : Addr) (sp : Sp) (E : XK) : R2 := fun x y H Q => IsC C H x ∧ (∃ n, y = .int n) ∧ sp [x, y] H Q E
theorem op_ownI {op : Operator} {fo ro rc : Option Value} (T : OpC X.K C) (hs : PySem.W.findIn X.K (.ref C) (PySem.dunder op.info.2) = some (some (.ref f))) (hf : PySem.W.isFn X.K (.ref f) = true) (hr' : PySem.W.findIn X.K (.ref C) (dunderR op.info.2) = some rc) (hp : rc = none ∨ ∃ g : Addr, rc = some (.ref g))
    (h1 : PySem.W.findIn X.K (.type "int") (PySem.dunder op.info.2) = some fo) (h2 : PySem.W.findIn X.K (.type "int") (dunderR op.info.2) = some ro)
    (F : FnOk X.prog X.w X.K X.mg X.base CX k f fd ps sp) (hr : Room k X.A) (hb : Binds X.K fd ps []) (hx : Passes CX X E) : OpR X (binaryOp op) (rOwnI C sp E) := by
  intro pins s σ H x y v u Q I rx ry h
  obtain ⟨⟨a, dx, fs, rfl, ha⟩, ⟨n, rfl⟩, q⟩ := h
  cases (show v = Value.ref a from rx)
  obtain ⟨t, rfl⟩ := (show ∃ t, u = Value.int n t from ry)
  obtain ⟨oa, J⟩ := inst_of I ha
  obtain ⟨m, hF⟩ := I.fr
  refine PySem.W.ksp_binT (T := "int") hF I.ok.mod.kin J rfl T.first hs hf hr' hp h1 h2 T.intNo (wpAny_mono (run_deep (vs := [.ref a, .int n]) F hr I.env0 hb hx I (.cons rfl (.cons ⟨t, rfl⟩ .nil)) q) (fun w s' z => ?_) fun _ _ x => x)
  obtain ⟨z', H', I', rz, qz⟩ := z
  exact back_of rz ⟨z', H', I', rz, qz⟩
/-- n op x, n an int: the reflected method -/
def rOwnR (C : Addr) (sp : Sp) (E : XK) : R2 := fun x y H Q => (∃ n, x = .int n) ∧ IsC C H y ∧ sp [y, x] H Q E
theorem op_ownR {op : Operator} {id nm : String} {g : Int → Int → Sem Fin} {fl : Addr} (T : OpC X.K C) (slot : Slot "int" (PySem.dunder op.info.2) id) (entry : entryFor table id = some (Builtin.Int.intBinary nm g false)) (args : ∀ a b : Value, argsOk id ⟨[a, b], []⟩)
    (hsl : ∀ (n : Int) (t : Tok) (x : Addr), slotArgs nm 1 ⟨[.int n t, .ref x], []⟩ = pure (.int n t, [.ref x])) (hfI : fillsNumberSlot (.type "int") op.info.2 = pure true) (hl : PySem.W.findIn X.K (.ref C) (PySem.dunder op.info.2) = some (some (.ref fl)))
    (hs : PySem.W.findIn X.K (.ref C) (dunderR op.info.2) = some (some (.ref f))) (hf : PySem.W.isFn X.K (.ref f) = true)
    (F : FnOk X.prog X.w X.K X.mg X.base CX k f fd ps sp) (hr : Room k X.A) (hb : Binds X.K fd ps []) (hx : Passes CX X E) : OpR X (binaryOp op) (rOwnR C sp E) := by
  intro pins s σ H x y v u Q I rx ry h
  obtain ⟨⟨n, rfl⟩, ⟨a, dx, fs, rfl, ha⟩, q⟩ := h
  cases (show u = Value.ref a from ry)
  obtain ⟨t, rfl⟩ := (show ∃ t, v = Value.int n t from rx)
  obtain ⟨oa, J⟩ := inst_of I ha
  obtain ⟨cd, rest, hcd, hm⟩ := T.cls
  refine refl_bin I.kIn J slot entry (args _ _) (hsl n t a) (fun v z => nomatch z) hfI hcd hm hl T.noInt hs hf (wpAny_mono (run_deep (vs := [.ref a, .int n]) F hr I.env0 hb hx I (.cons rfl (.cons ⟨t, rfl⟩ .nil)) q) (fun w s' z => ?_) fun _ _ x => x)
  obtain ⟨z', H', I', rz, qz⟩ := z
  exact back_of rz ⟨z', H', I', rz, qz⟩
/-- x op y by the own comparison, y of a known type -/
def rOwnC (K : PySem.W.Frag) (C : Addr) (sp : Sp) (E : XK) : R2 := fun x y H Q => IsC C H x ∧ (∃ t, TyX K H y t ∧ PySem.W.notFirst K C t = true) ∧ sp [x, y] H Q E
theorem op_ownC {op : CmpOp} (hop : ∀ a b, compareOp op a b = richCompare op a b) (hs : PySem.W.findIn X.K (.ref C) (cmpInfo op).2.1 = some (some (.ref f))) (hf : PySem.W.isFn X.K (.ref f) = true)
    (F : FnOk X.prog X.w X.K X.mg X.base CX k f fd ps sp) (hr : Room k X.A) (hb : Binds X.K fd ps []) (hx : Passes CX X E) : OpR X (compareOp op) (rOwnC X.K C sp E) := by
  intro pins s σ H x y v u Q I rx ry h
  obtain ⟨⟨a, dx, fs, rfl, ha⟩, ⟨ty, hty, hn⟩, q⟩ := h
  cases (show v = Value.ref a from rx)
  obtain ⟨oa, J⟩ := inst_of I ha
  obtain ⟨m, hF⟩ := I.fr
  obtain ⟨Pk, Z, p, _⟩ := kit_of I ry hty
  rw [hop]
  refine PySem.W.cmp_K (op := op) hr.units0 hF I.ok.mod.kin J (Z.ty _ _ I.kIn p) hn hs hf (wpAny_mono (run_deep (vs := [.ref a, y]) F hr I.env0 hb hx I (.cons rfl (.cons ry .nil)) q) (fun w s' z => ?_) fun _ _ x => x)
  obtain ⟨z', H', I', rz, qz⟩ := z
  exact back_of rz ⟨z', H', I', rz, qz⟩
/-- n op x, n an int: the mirrored comparison -/
theorem op_ownM {op : CmpOp} {id nm : String} {g : Int → Int → Sem Fin} (hop : ∀ a b, compareOp op a b = richCompare op a b) (T : OpC X.K C) (slot : Slot "int" (cmpInfo op).2.1 id) (entry : entryFor table id = some (Builtin.Int.intBinary nm g false)) (args : ∀ a b : Value, argsOk id ⟨[a, b], []⟩)
    (hsl : ∀ (n : Int) (t : Tok) (x : Addr), slotArgs nm 1 ⟨[.int n t, .ref x], []⟩ = pure (.int n t, [.ref x])) (hot : ∀ (n : Int) (t : Tok) (x : Addr), oneThing? op (.int n t) (.ref x) = none)
    (hs : PySem.W.findIn X.K (.ref C) (cmpInfo op).2.2 = some (some (.ref f))) (hf : PySem.W.isFn X.K (.ref f) = true)
    (F : FnOk X.prog X.w X.K X.mg X.base CX k f fd ps sp) (hr : Room k X.A) (hb : Binds X.K fd ps []) (hx : Passes CX X E) : OpR X (compareOp op) (rOwnR C sp E) := by
  intro pins s σ H x y v u Q I rx ry h
  obtain ⟨⟨n, rfl⟩, ⟨a, dx, fs, rfl, ha⟩, q⟩ := h
  cases (show u = Value.ref a from ry)
  obtain ⟨t, rfl⟩ := (show ∃ t, v = Value.int n t from rx)
  obtain ⟨oa, J⟩ := inst_of I ha
  rw [hop]
  refine refl_cmp hr.units0 I.kIn J slot entry (args _ _) (hsl n t a) (fun v z => nomatch z) (hot n t a) T.noInt hs hf (wpAny_mono (run_deep (vs := [.ref a, .int n]) F hr I.env0 hb hx I (.cons rfl (.cons ⟨t, rfl⟩ .nil)) q) (fun w s' z => ?_) fun _ _ x => x)
  obtain ⟨z', H', I', rz, qz⟩ := z
  exact back_of rz ⟨z', H', I', rz, qz⟩
/-- x != y by the own == -/
def rOwnNe (K : PySem.W.Frag) (C : Addr) (sp : Sp) (E : XK) : R2 := fun x y H Q => IsC C H x ∧ (∃ t, TyX K H y t ∧ PySem.W.notFirst K C t = true) ∧ sp [x, y] H (fun z H' => ∃ r, z = .bl r ∧ Q (.bl (!r)) H') E
theorem op_ownNe (T : OpC X.K C) (hs : PySem.W.findIn X.K (.ref C) "__eq__" = some (some (.ref f))) (hf : PySem.W.isFn X.K (.ref f) = true)
    (F : FnOk X.prog X.w X.K X.mg X.base CX k f fd ps sp) (hr : Room (k + 1) X.A) (hb : Binds X.K fd ps []) (hx : Passes CX X E) : OpR X (compareOp .NotEq) (rOwnNe X.K C sp E) := by
  intro pins s σ H x y v u Q I rx ry h
  obtain ⟨⟨a, dx, fs, rfl, ha⟩, ⟨ty, hty, hn⟩, q⟩ := h
  cases (show v = Value.ref a from rx)
  obtain ⟨oa, J⟩ := inst_of I ha
  obtain ⟨Pk, Z, p, _⟩ := kit_of I ry hty
  show wpAny _ _ (richCompare .NotEq (.ref a) u) _ _ _
  refine own_ne (by have := hr.units; omega) I.kIn J (Z.ty _ _ I.kIn p) hn T.ne T.ob hs hf (wpAny_mono (run_deep (vs := [.ref a, y]) F (Room.in1 hr) I.env0.in1 hb hx I (.cons rfl (.cons ry .nil)) q) (fun w s' z => ?_) fun _ _ x => x)
  obtain ⟨z', H', I', rz, r, rfl, qz⟩ := z
  cases (show w = Value.bool r from rz)
  exact ⟨r, rfl, .bl (!r), H', I', rfl, qz⟩
end
theorem notFirst_of {K : PySem.W.Frag} {C : Addr} {t : Value} (h : PySem.W.subIn K t (.ref C) = some false) : PySem.W.notFirst K C t = true := by simp [PySem.W.notFirst, h]
/-! ### instances of an own class; exceptions that pass -/
structure InsC (K : PySem.W.Frag) (C : Addr) : Prop where
  cl : Cls K C
  ha : PySem.W.findIn K (.ref C) "__class__" = some (some (.builtin "object.__class__"))
  hn : PySem.W.specialIn K (.builtin "object.__class__") "__get__" = some (some (.builtin "getset_descriptor.__get__"))
  ht : PySem.W.takesIn K (.builtin "object.__class__") = some true
  hm : PySem.W.mroIn K C (.type "object") = some true
theorem InsC.ty {K : PySem.W.Frag} {C : Addr} (T : InsC K C) {H : Hp} {a dx : Addr} {fs : List (Str × V)} (e : H a = some (.ins C dx fs)) : TyX K H (.ref a) (.ref C) := .base (.ins e T.cl T.ha T.hn T.ht T.hm)
theorem passLen {X : Cx} {W : WX} (tk : Takes X W) : Passes (L2.CX X.prog X.w) X (fun cls d H => ∀ σ : L2.St, σ.length = X.N.length → W cls d σ H) := fun _ σ _ _ e s' I c => tk e s' (XE.of_call I (fun _ _ _ h => h σ I.len) c)
theorem passLenN {X : Cx} {W : WX} {n : Nat} (tk : Takes X W) (hn : X.N.length = n) : Passes (L2.CX X.prog X.w) X (fun cls d H => ∀ σ : L2.St, σ.length = n → W cls d σ H) := fun _ σ _ _ e s' I c => tk e s' (XE.of_call I (fun _ _ _ h => h σ (I.len.trans hn)) c)
/-! ### ratios: the mathematics -/
/-- p / q is O / U in lowest terms -/
structure Nf (O U p q : Int) : Prop where
  pos : 0 < q
  cop : Nat.gcd p.natAbs q.natAbs = 1
  eq : p * U = O * q
  le1 : p.natAbs ≤ O.natAbs
  le2 : q.natAbs ≤ U.natAbs
theorem nf_make {O U : Int} (hU : U ≠ 0) {d : Int} (hd : d = if U < 0 then -((Nat.gcd O.natAbs U.natAbs : Nat) : Int) else ((Nat.gcd O.natAbs U.natAbs : Nat) : Int)) : d ≠ 0 ∧ d.natAbs ≤ U.natAbs ∧ Nf O U (O.fdiv d) (U.fdiv d) := by
  have hg : 0 < Nat.gcd O.natAbs U.natAbs := Nat.gcd_pos_of_pos_right _ (Int.natAbs_pos.mpr hU)
  have hgle : Nat.gcd O.natAbs U.natAbs ≤ U.natAbs := Nat.gcd_le_right _ (Int.natAbs_pos.mpr hU)
  generalize hgg : Nat.gcd O.natAbs U.natAbs = g at hd hg hgle
  have hd0 : d ≠ 0 := by
    rw [hd]
    split <;> omega
  have hda : d.natAbs = g := by
    rw [hd]
    split <;> omega
  have dO : d ∣ O := by
    rw [← Int.natAbs_dvd_natAbs, hda, ← hgg]
    exact Nat.gcd_dvd_left _ _
  have dU : d ∣ U := by
    rw [← Int.natAbs_dvd_natAbs, hda, ← hgg]
    exact Nat.gcd_dvd_right _ _
  obtain ⟨o, rfl⟩ := dO
  obtain ⟨u, rfl⟩ := dU
  rw [Int.mul_fdiv_cancel_left _ hd0, Int.mul_fdiv_cancel_left _ hd0]
  have ho : (d * o).natAbs = g * o.natAbs := by rw [Int.natAbs_mul, hda]
  have hu : (d * u).natAbs = g * u.natAbs := by rw [Int.natAbs_mul, hda]
  refine ⟨hd0, by omega, ?_, ?_, ?_, ?_, ?_⟩
  · have hu0 : u ≠ 0 := fun z => hU (by rw [z, Int.mul_zero])
    by_cases hn : d * u < 0
    · rw [if_pos hn] at hd
      have hdn : d < 0 := by omega
      by_cases h : 0 < u
      · exact h
      · have : 0 ≤ d * u := Int.mul_nonneg_of_nonpos_of_nonpos (by omega) (by omega)
        omega
    · rw [if_neg hn] at hd
      have hdp : 0 < d := by omega
      by_cases h : 0 < u
      · exact h
      · have : d * u ≤ 0 := Int.mul_nonpos_of_nonneg_of_nonpos (by omega) (by omega)
        have : d * u ≠ 0 := hU
        omega
  · rw [ho, hu, Nat.gcd_mul_left] at hgg
    exact Nat.eq_of_mul_eq_mul_left hg (by omega)
  · grind
  · rw [ho]
    exact Nat.le_mul_of_pos_left _ hg
  · rw [hu]
    exact Nat.le_mul_of_pos_left _ hg
theorem cross_unique {p q p' q' : Int} (h : 0 < q) (h' : 0 < q') (c : Nat.gcd p.natAbs q.natAbs = 1) (c' : Nat.gcd p'.natAbs q'.natAbs = 1) (e : p * q' = p' * q) : p = p' ∧ q = q' := by
  have e2 : p.natAbs * q'.natAbs = p'.natAbs * q.natAbs := by rw [← Int.natAbs_mul, ← Int.natAbs_mul, e]
  have d1 : q.natAbs ∣ q'.natAbs := Nat.Coprime.dvd_of_dvd_mul_left (k := q.natAbs) (m := p.natAbs) (n := q'.natAbs) (by rw [Nat.Coprime, Nat.gcd_comm]; exact c) ⟨p'.natAbs, by rw [e2, Nat.mul_comm]⟩
  have d2 : q'.natAbs ∣ q.natAbs := Nat.Coprime.dvd_of_dvd_mul_left (k := q'.natAbs) (m := p'.natAbs) (n := q.natAbs) (by rw [Nat.Coprime, Nat.gcd_comm]; exact c') ⟨p.natAbs, by rw [← e2, Nat.mul_comm]⟩
  have eq : q.natAbs = q'.natAbs := Nat.dvd_antisymm d1 d2
  have eq2 : q = q' := by omega
  subst eq2
  exact ⟨Int.eq_of_mul_eq_mul_right (by omega) e, rfl⟩
theorem Nf.unique {O U p q p' q' : Int} (hU : U ≠ 0) (h : Nf O U p q) (h' : Nf O U p' q') : p = p' ∧ q = q' := by
  refine cross_unique h.pos h'.pos h.cop h'.cop (Int.eq_of_mul_eq_mul_right hU ?_)
  have e1 := h.eq
  have e2 := h'.eq
  grind
/-- the same fraction by other terms -/
theorem Nf.unique2 {O U O' U' p q p' q' : Int} (hU : U ≠ 0) (hU' : U' ≠ 0) (e : O * U' = O' * U) (h : Nf O U p q) (h' : Nf O' U' p' q') : p = p' ∧ q = q' := by
  refine cross_unique h.pos h'.pos h.cop h'.cop (Int.eq_of_mul_eq_mul_right (Int.mul_ne_zero hU hU') ?_)
  have e1 := h.eq
  have e2 := h'.eq
  grind
theorem nf_self {p q : Int} (h : 0 < q) (c : Nat.gcd p.natAbs q.natAbs = 1) : Nf p q p q := ⟨h, c, rfl, Nat.le_refl _, Nat.le_refl _⟩
theorem gcd_one (n : Int) : Nat.gcd n.natAbs (1 : Int).natAbs = 1 := Nat.gcd_one_right _
/-! ### ratios: the objects -/
theorem op_fdivZ {X : Cx} : OpR X (binaryOp .FloorDiv) (rI (fun _ j => j ≠ 0 ∧ j.natAbs.log2 < 9000) fun i j => .int (i.fdiv j)) := opI fun _ _ _ _ _ _ _ hc q => floordiv_int hc.1 q (.inl (PyProof.noPylong_of_log2 hc.2))
theorem ou : ¬ (("over" : Str) = "under") := by decide +kernel
def rfR (p q : Int) : List (Str × V) := putF "under" (.int q) (putF "over" (.int p) [])
theorem rfR_eq (p q : Int) : rfR p q = ([("over", V.int p), ("under", V.int q)] : List (Str × V)) := by
  show (if ("over" : Str) = "under" then [(("over" : Str), V.int q)] else (("over" : Str), V.int p) :: putF "under" (V.int q) []) = ([("over", V.int p), ("under", V.int q)] : List (Str × V))
  rw [if_neg ou]
  all_goals rfl
theorem rfR_over (p q : Int) : (rfR p q).lookup ("over" : Str) = some (.int p) := by
  unfold rfR
  rw [lookup_putF, if_neg ou, lookup_putF, if_pos rfl]
theorem rfR_under (p q : Int) : (rfR p q).lookup ("under" : Str) = some (.int q) := by
  unfold rfR
  rw [lookup_putF, if_pos rfl]
theorem rfR_no (p q : Int) {m : Str} (h1 : ¬ m = "under") (h2 : ¬ m = "over") : (rfR p q).lookup m = none := by
  unfold rfR
  rw [lookup_putF, if_neg h1, lookup_putF, if_neg h2]
  all_goals rfl
/-- v is a ratio, p / q in lowest terms -/
structure Rat (C : Addr) (H : Hp) (v : V) (p q : Int) : Prop where
  at_ : ∃ a dx, v = .ref a ∧ H a = some (.ins C dx (rfR p q))
  pos : 0 < q
  cop : Nat.gcd p.natAbs q.natAbs = 1
theorem Rat.same {C : Addr} {H H' : Hp} {v : V} {p q : Int} (R : Rat C H v p q) (e : Same H H') : Rat C H' v p q := by
  obtain ⟨⟨a, dx, rfl, h⟩, h1, h2⟩ := R
  exact ⟨⟨a, dx, rfl, e _ _ h⟩, h1, h2⟩
theorem Rat.isC {C : Addr} {H : Hp} {v : V} {p q : Int} (R : Rat C H v p q) : IsC C H v := by
  obtain ⟨⟨a, dx, rfl, h⟩, _⟩ := R
  exact ⟨a, dx, _, rfl, h⟩
theorem Rat.ty {K : PySem.W.Frag} {C : Addr} {H : Hp} {v : V} {p q : Int} (R : Rat C H v p q) (T : InsC K C) : TyX K H v (.ref C) := by
  obtain ⟨⟨a, dx, rfl, h⟩, _⟩ := R
  exact T.ty h
theorem Rat.inj {C : Addr} {H : Hp} {v : V} {p q p' q' : Int} (R : Rat C H v p q) (R' : Rat C H v p' q') : p = p' ∧ q = q' := by
  obtain ⟨⟨a, dx, rfl, h⟩, _⟩ := R
  obtain ⟨⟨b, dy, e, h'⟩, _⟩ := R'
  cases e
  rw [h] at h'
  have e : rfR p q = rfR p' q' := by
    injection h' with h'
    injection h'
  rw [rfR_eq, rfR_eq] at e
  simp at e
  exact e
/-- a ratio, or an int that counts as one -/
inductive Num (C : Addr) (H : Hp) : V → Int → Int → Prop where
  | rat {v : V} {p q : Int} (R : Rat C H v p q) : Num C H v p q
  | int (n : Int) : Num C H (.int n) n 1
theorem Num.same {C : Addr} {H H' : Hp} {v : V} {p q : Int} (N : Num C H v p q) (e : Same H H') : Num C H' v p q := by
  cases N with
  | rat R => exact .rat (R.same e)
  | int => exact .int _
theorem Num.pos {C : Addr} {H : Hp} {v : V} {p q : Int} (N : Num C H v p q) : 0 < q := by
  cases N with
  | rat R => exact R.pos
  | int => decide
theorem log2_le {a b : Int} {n : Nat} (h : a.natAbs ≤ b.natAbs) (ha : a ≠ 0) (hb : b.natAbs.log2 < n) : a.natAbs.log2 < n := by
  have ha' : a.natAbs ≠ 0 := fun z => ha (Int.natAbs_eq_zero.mp z)
  have hb' : b.natAbs ≠ 0 := fun z => ha' (by omega)
  exact (Nat.log2_lt ha').mpr (Nat.lt_of_le_of_lt h ((Nat.log2_lt hb').mp hb))
/-- sizes: terms of at most n bits -/
def Sz (n : Nat) (p q : Int) : Prop := p.natAbs < 2 ^ n ∧ q.natAbs < 2 ^ n
theorem Sz.mono {n m : Nat} {p q : Int} (h : Sz n p q) (l : n ≤ m) : Sz m p q := ⟨Nat.lt_of_lt_of_le h.1 (Nat.pow_le_pow_right (by decide) l), Nat.lt_of_lt_of_le h.2 (Nat.pow_le_pow_right (by decide) l)⟩
theorem pow_two_succ (n : Nat) : 2 ^ n + 2 ^ n = 2 ^ (n + 1) := by rw [Nat.pow_succ]; omega
theorem sz_add {a b c d : Int} {n : Nat} (ha : a.natAbs < 2 ^ n) (hb : b.natAbs < 2 ^ n) (hc : c.natAbs < 2 ^ n) (hd : d.natAbs < 2 ^ n) : (a * b + c * d).natAbs < 2 ^ (n + n + 1) := by
  have h1 := wide_lt ha hb
  have h2 := wide_lt hc hd
  have := pow_two_succ (n + n)
  omega
theorem sz_sub {a b c d : Int} {n : Nat} (ha : a.natAbs < 2 ^ n) (hb : b.natAbs < 2 ^ n) (hc : c.natAbs < 2 ^ n) (hd : d.natAbs < 2 ^ n) : (a * b - c * d).natAbs < 2 ^ (n + n + 1) := by
  have h1 := wide_lt ha hb
  have h2 := wide_lt hc hd
  have := pow_two_succ (n + n)
  omega
theorem sz_log {a : Int} {n : Nat} (h : a.natAbs < 2 ^ n) (h0 : 0 < n) (h1 : n ≤ 9000) : a.natAbs.log2 < 9000 := Nat.lt_of_lt_of_le (PySem.Flt.log2_lt_of h0 h) h1
theorem sz_mul {a b : Int} {n : Nat} (ha : a.natAbs < 2 ^ n) (hb : b.natAbs < 2 ^ n) (h0 : 0 < n) (h1 : n ≤ 4000) : CMulW a b := wide_mul ha hb h0 h0 (by omega)
/-- what is wrong with the terms of a ratio, and how it is told -/
def BadR (x y : V) (w : Str) (z : V) : Prop := (isInt x = false ∧ w = "over" ∧ z = x) ∨ (isInt x = true ∧ isInt y = false ∧ w = "under" ∧ z = y) ∨ (isInt x = true ∧ y = .int 0 ∧ w = "under" ∧ z = .int 0)
def spInit (K : PySem.W.Frag) (C CB : Addr) : Sp := fun vs H Q E => ∃ (a dx : Addr) (x y : V), vs = [.ref a, x, y] ∧ H a = some (.ins C dx []) ∧ Kn K H x ∧ Kn K H y ∧
  (∀ O U, x = .int O → y = .int U → U ≠ 0 → U.natAbs.log2 < 9000 ∧ ∀ p q H', Nf O U p q → H' a = some (.ins C dx (rfR p q)) → (∀ b o, H b = some o → b ≠ a → H' b = some o) → Q .non H') ∧
  (∀ w z, BadR x y w z → ∀ d H', H d = none → Same H H' → H' d = some (.xd [("value", z), ("what", .str w)]) → E (.ref CB) (some d) H')
/-- a made ratio, from the terms' own use -/
theorem mk_ratio {K : PySem.W.Frag} {C CB : Addr} {H : Hp} {O U : Int} {Q : Addr → Hp → Prop} {E : XK} (hU : U ≠ 0) (hz : U.natAbs.log2 < 9000) (h : ∀ a p q H', Same H H' → Rat C H' (.ref a) p q → Nf O U p q → Q a H') :
    ∀ x dx, H x = none → H dx = none → dx ≠ x → spInit K C CB (.ref x :: ([.int O, .int U] ++ [])) (upd (upd H dx (.own x)) x (.ins C dx [])) (fun v H2 => v = .non ∧ Q x H2) E := by
  intro x dx nx nd ne
  refine ⟨x, dx, .int O, .int U, rfl, upd_same, kn_int O, kn_int U, fun O' U' e1 e2 _ => ?_, fun w z hb => ?_⟩
  · cases e1
    cases e2
    exact ⟨hz, fun p q H' nf ha k => ⟨rfl, h x p q H' (Same.made nx nd k) ⟨⟨x, dx, rfl, ha⟩, nf.pos, nf.cop⟩ nf⟩⟩
  · rcases hb with ⟨e, _⟩ | ⟨_, e, _⟩ | ⟨_, e, _⟩
    · cases e
    · cases e
    · cases e
      exact absurd rfl hU
/-- C(n): with the default under -/
theorem mk_ratio1 {K : PySem.W.Frag} {C CB : Addr} {H : Hp} {O : Int} {Q : Addr → Hp → Prop} {E : XK} (h : ∀ a H', Same H H' → Rat C H' (.ref a) O 1 → Q a H') :
    ∀ x dx, H x = none → H dx = none → dx ≠ x → spInit K C CB (.ref x :: ([.int O] ++ [.int 1])) (upd (upd H dx (.own x)) x (.ins C dx [])) (fun v H2 => v = .non ∧ Q x H2) E :=
  mk_ratio (U := 1) (by decide) (by decide) fun a p q H' sm R nf => by
    obtain ⟨rfl, rfl⟩ := nf.unique (by decide) (nf_self (by decide) (gcd_one O))
    exact h a H' sm R
def spRatioOf (C : Addr) : Sp := fun vs H Q _ => ∃ (x : V) (p q : Int), vs = [x] ∧ Num C H x p q ∧ ∀ r H', Same H H' → Rat C H' r p q → Q r H'
/-- a method with a ratio and a number: the ratio fO / fU -/
def spArith (C : Addr) (fO fU : Int → Int → Int → Int → Int) : Sp := fun vs H Q _ => ∃ (x y : V) (p1 q1 p2 q2 : Int) (n : Nat), vs = [x, y] ∧ Rat C H x p1 q1 ∧ Num C H y p2 q2 ∧ Sz n p1 q1 ∧ Sz n p2 q2 ∧ 0 < n ∧ n ≤ 4000 ∧
  ∀ r p q H', Same H H' → Rat C H' r p q → Nf (fO p1 q1 p2 q2) (fU p1 q1 p2 q2) p q → Q r H'
/-- a comparison -/
def spOrd (C : Addr) (f : Int → Int → Bool) : Sp := fun vs H Q _ => ∃ (x y : V) (p1 q1 p2 q2 : Int) (n : Nat), vs = [x, y] ∧ Rat C H x p1 q1 ∧ Num C H y p2 q2 ∧ Sz n p1 q1 ∧ Sz n p2 q2 ∧ 0 < n ∧ n ≤ 4000 ∧
  ∀ H', Same H H' → Q (.bl (f (p1 * q2) (p2 * q1))) H'
/-- == -/
def spEqR (K : PySem.W.Frag) (C : Addr) : Sp := fun vs H Q _ => ∃ (x y : V) (p q : Int), vs = [x, y] ∧ Rat C H x p q ∧
  ((∃ p' q', Rat C H y p' q' ∧ Q (.bl (decide (p = p') && decide (q = q'))) H) ∨ (∃ t, TyX K H y t ∧ PySem.W.kitOne K t (.ref C) = some false ∧ Q (.bl false) H))
theorem slotargs_lt (n : Int) (t : Tok) (x : Addr) : slotArgs "__lt__" 1 ⟨[.int n t, .ref x], []⟩ = pure (.int n t, [.ref x]) := by first | rfl | (simp only [slotArgs]; rfl)
theorem slotargs_le (n : Int) (t : Tok) (x : Addr) : slotArgs "__le__" 1 ⟨[.int n t, .ref x], []⟩ = pure (.int n t, [.ref x]) := by first | rfl | (simp only [slotArgs]; rfl)
theorem slotargs_gt (n : Int) (t : Tok) (x : Addr) : slotArgs "__gt__" 1 ⟨[.int n t, .ref x], []⟩ = pure (.int n t, [.ref x]) := by first | rfl | (simp only [slotArgs]; rfl)
theorem slotargs_ge (n : Int) (t : Tok) (x : Addr) : slotArgs "__ge__" 1 ⟨[.int n t, .ref x], []⟩ = pure (.int n t, [.ref x]) := by first | rfl | (simp only [slotArgs]; rfl)
theorem slotargs_add (n : Int) (t : Tok) (x : Addr) : slotArgs "__add__" 1 ⟨[.int n t, .ref x], []⟩ = pure (.int n t, [.ref x]) := by first | rfl | (simp only [slotArgs]; rfl)
theorem slotargs_sub (n : Int) (t : Tok) (x : Addr) : slotArgs "__sub__" 1 ⟨[.int n t, .ref x], []⟩ = pure (.int n t, [.ref x]) := by first | rfl | (simp only [slotArgs]; rfl)
theorem slotargs_mul (n : Int) (t : Tok) (x : Addr) : slotArgs "__mul__" 1 ⟨[.int n t, .ref x], []⟩ = pure (.int n t, [.ref x]) := by first | rfl | (simp only [slotArgs]; rfl)
/-- the same with an int on the right -/
def spArithI (C : Addr) (fO fU : Int → Int → Int → Int → Int) : Sp := fun vs H Q E => ∃ n : Int, vs[1]? = some (.int n) ∧ spArith C fO fU vs H Q E
def spDiv (C CB : Addr) : Sp := fun vs H Q E => ∃ (x y : V) (p1 q1 p2 q2 : Int) (n : Nat), vs = [x, y] ∧ Rat C H x p1 q1 ∧ Num C H y p2 q2 ∧ Sz n p1 q1 ∧ Sz n p2 q2 ∧ 0 < n ∧ n ≤ 4000 ∧
  (p2 ≠ 0 → ∀ r p q H', Same H H' → Rat C H' r p q → Nf (p1 * q2) (q1 * p2) p q → Q r H') ∧
  (p2 = 0 → ∀ d H', H d = none → Same H H' → H' d = some (.xd [("value", .int 0), ("what", .str "under")]) → E (.ref CB) (some d) H')
/-- a made ratio that may be refused for its under -/
theorem mk_ratioE {K : PySem.W.Frag} {C CB : Addr} {H : Hp} {O U : Int} {Q : Addr → Hp → Prop} {E : XK} (hz : U.natAbs.log2 < 9000) (h : U ≠ 0 → ∀ a p q H', Same H H' → Rat C H' (.ref a) p q → Nf O U p q → Q a H')
    (he : U = 0 → ∀ d H', H d = none → Same H H' → H' d = some (.xd [("value", .int 0), ("what", .str "under")]) → E (.ref CB) (some d) H') :
    ∀ x dx, H x = none → H dx = none → dx ≠ x → spInit K C CB (.ref x :: ([.int O, .int U] ++ [])) (upd (upd H dx (.own x)) x (.ins C dx [])) (fun v H2 => v = .non ∧ Q x H2) E := by
  intro x dx nx nd ne
  refine ⟨x, dx, .int O, .int U, rfl, upd_same, kn_int O, kn_int U, fun O' U' e1 e2 hU => ?_, fun w z hb d H' hd sm hx => ?_⟩
  · cases e1
    cases e2
    exact ⟨hz, fun p q H' nf ha k => ⟨rfl, h hU x p q H' (Same.made nx nd k) ⟨⟨x, dx, rfl, ha⟩, nf.pos, nf.cop⟩ nf⟩⟩
  · rcases hb with ⟨e, _⟩ | ⟨_, e, _⟩ | ⟨_, e, rfl, rfl⟩
    · cases e
    · cases e
    · cases e
      have s0 : Same H (upd (upd H dx (.own x)) x (.ins C dx [])) := fun b o e => by
        rw [upd_ne (ne_of_none e nx), upd_ne (ne_of_none e nd)]
        exact e
      exact he rfl d H' (s0.free hd) (s0.trans sm) hx
/-! ### rational numbers: v is the fraction O / U, its terms below 2 ^ n -/
def Rp (C : Addr) (H : Hp) (v : V) (O U : Int) (n : Nat) : Prop := ∃ p q, Rat C H v p q ∧ p * U = O * q ∧ U ≠ 0 ∧ Sz n p q ∧ 0 < n
theorem Rp.same {C : Addr} {H H' : Hp} {v : V} {O U : Int} {n : Nat} (R : Rp C H v O U n) (e : Same H H') : Rp C H' v O U n := by
  obtain ⟨p, q, R, h⟩ := R
  exact ⟨p, q, R.same e, h⟩
theorem Rp.mono {C : Addr} {H : Hp} {v : V} {O U : Int} {n m : Nat} (R : Rp C H v O U n) (l : n ≤ m) : Rp C H v O U m := by
  obtain ⟨p, q, R, h1, h2, h3, h4⟩ := R
  exact ⟨p, q, R, h1, h2, h3.mono l, by omega⟩
theorem Rp.isC {C : Addr} {H : Hp} {v : V} {O U : Int} {n : Nat} (R : Rp C H v O U n) : IsC C H v := by
  obtain ⟨p, q, R, _⟩ := R
  exact R.isC
theorem Rp.nz {C : Addr} {H : Hp} {v : V} {O U : Int} {n : Nat} (R : Rp C H v O U n) : U ≠ 0 := by
  obtain ⟨p, q, _, _, h, _⟩ := R
  exact h
theorem Rp.obj {C : Addr} {H : Hp} {v : V} {O U : Int} {n : Nat} (R : Rp C H v O U n) : ∃ a dx p q, v = .ref a ∧ H a = some (.ins C dx (rfR p q)) := by
  obtain ⟨p, q, ⟨⟨a, dx, e, h⟩, _⟩, _⟩ := R
  exact ⟨a, dx, p, q, e, h⟩
/-- the same number by other terms -/
theorem Rp.as {C : Addr} {H : Hp} {v : V} {O U O' U' : Int} {n : Nat} (R : Rp C H v O U n) (hU : U' ≠ 0) (e : O * U' = O' * U) : Rp C H v O' U' n := by
  obtain ⟨p, q, R, h1, h2, h3⟩ := R
  refine ⟨p, q, R, Int.eq_of_mul_eq_mul_right h2 ?_, hU, h3⟩
  grind
theorem rp_make {C : Addr} {H : Hp} {v : V} {O U p q : Int} {n : Nat} (R : Rat C H v p q) (nf : Nf O U p q) (hU : U ≠ 0) (hO : O.natAbs < 2 ^ n) (hU2 : U.natAbs < 2 ^ n) (n0 : 0 < n) : Rp C H v O U n :=
  ⟨p, q, R, nf.eq, hU, ⟨Nat.lt_of_le_of_lt nf.le1 hO, Nat.lt_of_le_of_lt nf.le2 hU2⟩, n0⟩
theorem rp_int {C : Addr} {H : Hp} {v : V} {m : Int} {n : Nat} (R : Rat C H v m 1) (h : m.natAbs < 2 ^ n) (h0 : 0 < n) : Rp C H v m 1 n := ⟨m, 1, R, rfl, by decide, ⟨h, Nat.one_lt_two_pow (by omega)⟩, h0⟩
theorem mul_ne3 {a b : Int} (ha : a ≠ 0) (hb : b ≠ 0) : a * b ≠ 0 := Int.mul_ne_zero ha hb
section
variable {K : PySem.W.Frag} {C CB : Addr} {H : Hp} {x y : V} {O1 U1 O2 U2 : Int} {n m : Nat} {Q : VK}
theorem st_eq (T : InsC K C) (R1 : Rp C H x O1 U1 n) (R2 : Rp C H y O2 U2 m) (k : Q (.bl (decide (O1 * U2 = O2 * U1))) H) : rOwnC K C (spEqR K C) E0 x y H Q := by
  have c1 := R1.isC
  obtain ⟨p1, q1, R1, e1, u1, _⟩ := R1
  obtain ⟨p2, q2, R2, e2, u2, _⟩ := R2
  refine ⟨c1, ⟨_, R2.ty T, by simp [PySem.W.notFirst]⟩, x, y, p1, q1, rfl, R1, .inl ⟨p2, q2, R2, ?_⟩⟩
  have : (decide (p1 = p2) && decide (q1 = q2)) = decide (O1 * U2 = O2 * U1) := by
    by_cases e : O1 * U2 = O2 * U1
    · have h : p1 * q2 = p2 * q1 := Int.eq_of_mul_eq_mul_right (Int.mul_ne_zero u1 u2) (by grind)
      obtain ⟨rfl, rfl⟩ := cross_unique R1.pos R2.pos R1.cop R2.cop h
      simp [e]
    · rw [decide_eq_false e]
      by_cases hp : p1 = p2
      · by_cases hq : q1 = q2
        · subst hp
          subst hq
          exact absurd (Int.eq_of_mul_eq_mul_right (show q1 ≠ 0 from by have := R1.pos; omega) (by grind)) e
        · simp [hq]
      · simp [hp]
  rw [this]
  exact k
theorem st_eqT (T : InsC K C) (R1 : Rp C H x O1 U1 n) (R2 : Rp C H y O2 U2 m) (e : O1 * U2 = O2 * U1) (k : Q (.bl true) H) : rOwnC K C (spEqR K C) E0 x y H Q := st_eq T R1 R2 (by rw [decide_eq_true e]; exact k)
theorem st_ne (T : InsC K C) (R1 : Rp C H x O1 U1 n) (R2 : Rp C H y O2 U2 m) (k : Q (.bl (!decide (O1 * U2 = O2 * U1))) H) : rOwnNe K C (spEqR K C) E0 x y H Q := by
  obtain ⟨h1, h2, h3⟩ := st_eq (Q := fun z H' => ∃ r, z = .bl r ∧ Q (.bl (!r)) H') T R1 R2 ⟨_, rfl, k⟩
  exact ⟨h1, h2, h3⟩
theorem st_neF (T : InsC K C) (R1 : Rp C H x O1 U1 n) (R2 : Rp C H y O2 U2 m) (e : O1 * U2 = O2 * U1) (k : Q (.bl false) H) : rOwnNe K C (spEqR K C) E0 x y H Q := st_ne T R1 R2 (by rw [decide_eq_true e]; exact k)
theorem st_div (R1 : Rp C H x O1 U1 n) (R2 : Rp C H y O2 U2 n) (h2 : O2 ≠ 0) (hn : n ≤ 2000) (k : ∀ r H', Same H H' → Rp C H' r (O1 * U2) (U1 * O2) (n + n) → Q r H') {E : XK} : spDiv C CB [x, y] H Q E := by
  obtain ⟨p1, q1, R1, e1, u1, z1, n0⟩ := R1
  obtain ⟨p2, q2, R2, e2, u2, z2, _⟩ := R2
  have hp2 : p2 ≠ 0 := fun z => by
    have : O2 * q2 = 0 := by rw [← e2, z, Int.zero_mul]
    rcases Int.mul_eq_zero.mp this with z | z
    · exact h2 z
    · have := R2.pos
      omega
  have hq1 : q1 ≠ 0 := by have := R1.pos; omega
  have hq2 : q2 ≠ 0 := by have := R2.pos; omega
  refine ⟨x, y, p1, q1, p2, q2, n, rfl, R1, .rat R2, z1, z2, n0, by omega, fun _ r p q H' sm R nf => k r H' sm ⟨p, q, R, ?_, Int.mul_ne_zero u1 h2, ⟨Nat.lt_of_le_of_lt nf.le1 (wide_lt z1.1 z2.2), Nat.lt_of_le_of_lt nf.le2 (wide_lt z1.2 z2.1)⟩, by omega⟩, fun z => absurd z hp2⟩
  have e3 := nf.eq
  exact Int.eq_of_mul_eq_mul_right (Int.mul_ne_zero hq1 hp2) (by grind)
theorem st_divI {k0 : Int} (R1 : Rp C H x O1 U1 n) (hk : k0.natAbs < 2 ^ n) (h2 : k0 ≠ 0) (hn : n ≤ 2000) (k : ∀ r H', Same H H' → Rp C H' r O1 (U1 * k0) (n + n) → Q r H') {E : XK} : spDiv C CB [x, .int k0] H Q E := by
  obtain ⟨p1, q1, R1, e1, u1, z1, n0⟩ := R1
  have hq1 : q1 ≠ 0 := by have := R1.pos; omega
  have h1n : (1 : Int).natAbs < 2 ^ n := Nat.one_lt_two_pow (by omega)
  refine ⟨x, _, p1, q1, k0, 1, n, rfl, R1, .int k0, z1, ⟨hk, h1n⟩, n0, by omega, fun _ r p q H' sm R nf => k r H' sm ⟨p, q, R, ?_, Int.mul_ne_zero u1 h2, ⟨Nat.lt_of_le_of_lt nf.le1 (wide_lt z1.1 h1n), Nat.lt_of_le_of_lt nf.le2 (wide_lt z1.2 hk)⟩, by omega⟩, fun z => absurd z h2⟩
  have e3 := nf.eq
  exact Int.eq_of_mul_eq_mul_right (Int.mul_ne_zero hq1 h2) (by grind)
theorem st_add (R1 : Rp C H x O1 U1 n) (R2 : Rp C H y O2 U2 n) (hn : n ≤ 2000) (k : ∀ r H', Same H H' → Rp C H' r (O1 * U2 + O2 * U1) (U1 * U2) (n + n + 1) → Q r H') : rOwnB C (spArith C (fun p1 q1 p2 q2 => p1 * q2 + p2 * q1) (fun p1 q1 p2 q2 => q1 * q2)) E0 x y H Q := by
  have c1 := R1.isC
  have c2 := R2.isC
  obtain ⟨p1, q1, R1, e1, u1, z1, n0⟩ := R1
  obtain ⟨p2, q2, R2, e2, u2, z2, _⟩ := R2
  have hq1 : q1 ≠ 0 := by have := R1.pos; omega
  have hq2 : q2 ≠ 0 := by have := R2.pos; omega
  refine ⟨c1, c2, x, y, p1, q1, p2, q2, n, rfl, R1, .rat R2, z1, z2, n0, by omega, fun r p q H' sm R nf => k r H' sm ⟨p, q, R, ?_, Int.mul_ne_zero u1 u2, ⟨Nat.lt_of_le_of_lt nf.le1 (sz_add z1.1 z2.2 z2.1 z1.2), Nat.lt_of_le_of_lt nf.le2 (Nat.lt_of_lt_of_le (wide_lt z1.2 z2.2) (Nat.pow_le_pow_right (by decide) (by omega)))⟩, by omega⟩⟩
  have e3 := nf.eq
  exact Int.eq_of_mul_eq_mul_right (Int.mul_ne_zero hq1 hq2) (by grind)
theorem st_addI {k0 : Int} (R1 : Rp C H x O1 U1 n) (hk : k0.natAbs < 2 ^ n) (hn : n ≤ 2000) (k : ∀ r H', Same H H' → Rp C H' r (O1 + k0 * U1) U1 (n + n + 1) → Q r H') : rOwnI C (spArith C (fun p1 q1 p2 q2 => p1 * q2 + p2 * q1) (fun p1 q1 p2 q2 => q1 * q2)) E0 x (.int k0) H Q := by
  have c1 := R1.isC
  obtain ⟨p1, q1, R1, e1, u1, z1, n0⟩ := R1
  have hq1 : q1 ≠ 0 := by have := R1.pos; omega
  have h1n : (1 : Int).natAbs < 2 ^ n := Nat.one_lt_two_pow (by omega)
  have z2 : Sz n k0 1 := ⟨hk, h1n⟩
  refine ⟨c1, ⟨_, rfl⟩, x, _, p1, q1, k0, 1, n, rfl, R1, .int k0, z1, z2, n0, by omega, fun r p q H' sm R nf => k r H' sm ⟨p, q, R, ?_, u1, ⟨Nat.lt_of_le_of_lt nf.le1 (sz_add z1.1 z2.2 z2.1 z1.2), Nat.lt_of_le_of_lt nf.le2 (Nat.lt_of_lt_of_le (wide_lt z1.2 z2.2) (Nat.pow_le_pow_right (by decide) (by omega)))⟩, by omega⟩⟩
  have e3 := nf.eq
  exact Int.eq_of_mul_eq_mul_right hq1 (by grind)
theorem st_sub (R1 : Rp C H x O1 U1 n) (R2 : Rp C H y O2 U2 n) (hn : n ≤ 2000) (k : ∀ r H', Same H H' → Rp C H' r (O1 * U2 - O2 * U1) (U1 * U2) (n + n + 1) → Q r H') : rOwnB C (spArith C (fun p1 q1 p2 q2 => p1 * q2 - p2 * q1) (fun p1 q1 p2 q2 => q1 * q2)) E0 x y H Q := by
  have c1 := R1.isC
  have c2 := R2.isC
  obtain ⟨p1, q1, R1, e1, u1, z1, n0⟩ := R1
  obtain ⟨p2, q2, R2, e2, u2, z2, _⟩ := R2
  have hq1 : q1 ≠ 0 := by have := R1.pos; omega
  have hq2 : q2 ≠ 0 := by have := R2.pos; omega
  refine ⟨c1, c2, x, y, p1, q1, p2, q2, n, rfl, R1, .rat R2, z1, z2, n0, by omega, fun r p q H' sm R nf => k r H' sm ⟨p, q, R, ?_, Int.mul_ne_zero u1 u2, ⟨Nat.lt_of_le_of_lt nf.le1 (sz_sub z1.1 z2.2 z2.1 z1.2), Nat.lt_of_le_of_lt nf.le2 (Nat.lt_of_lt_of_le (wide_lt z1.2 z2.2) (Nat.pow_le_pow_right (by decide) (by omega)))⟩, by omega⟩⟩
  have e3 := nf.eq
  exact Int.eq_of_mul_eq_mul_right (Int.mul_ne_zero hq1 hq2) (by grind)
theorem st_subI {k0 : Int} (R1 : Rp C H x O1 U1 n) (hk : k0.natAbs < 2 ^ n) (hn : n ≤ 2000) (k : ∀ r H', Same H H' → Rp C H' r (O1 - k0 * U1) U1 (n + n + 1) → Q r H') : rOwnI C (spArith C (fun p1 q1 p2 q2 => p1 * q2 - p2 * q1) (fun p1 q1 p2 q2 => q1 * q2)) E0 x (.int k0) H Q := by
  have c1 := R1.isC
  obtain ⟨p1, q1, R1, e1, u1, z1, n0⟩ := R1
  have hq1 : q1 ≠ 0 := by have := R1.pos; omega
  have h1n : (1 : Int).natAbs < 2 ^ n := Nat.one_lt_two_pow (by omega)
  have z2 : Sz n k0 1 := ⟨hk, h1n⟩
  refine ⟨c1, ⟨_, rfl⟩, x, _, p1, q1, k0, 1, n, rfl, R1, .int k0, z1, z2, n0, by omega, fun r p q H' sm R nf => k r H' sm ⟨p, q, R, ?_, u1, ⟨Nat.lt_of_le_of_lt nf.le1 (sz_sub z1.1 z2.2 z2.1 z1.2), Nat.lt_of_le_of_lt nf.le2 (Nat.lt_of_lt_of_le (wide_lt z1.2 z2.2) (Nat.pow_le_pow_right (by decide) (by omega)))⟩, by omega⟩⟩
  have e3 := nf.eq
  exact Int.eq_of_mul_eq_mul_right hq1 (by grind)
theorem st_mul (R1 : Rp C H x O1 U1 n) (R2 : Rp C H y O2 U2 n) (hn : n ≤ 2000) (k : ∀ r H', Same H H' → Rp C H' r (O1 * O2) (U1 * U2) (n + n + 1) → Q r H') : rOwnB C (spArith C (fun p1 q1 p2 q2 => p1 * p2) (fun p1 q1 p2 q2 => q1 * q2)) E0 x y H Q := by
  have c1 := R1.isC
  have c2 := R2.isC
  obtain ⟨p1, q1, R1, e1, u1, z1, n0⟩ := R1
  obtain ⟨p2, q2, R2, e2, u2, z2, _⟩ := R2
  have hq1 : q1 ≠ 0 := by have := R1.pos; omega
  have hq2 : q2 ≠ 0 := by have := R2.pos; omega
  refine ⟨c1, c2, x, y, p1, q1, p2, q2, n, rfl, R1, .rat R2, z1, z2, n0, by omega, fun r p q H' sm R nf => k r H' sm ⟨p, q, R, ?_, Int.mul_ne_zero u1 u2, ⟨Nat.lt_of_le_of_lt nf.le1 (Nat.lt_of_lt_of_le (wide_lt z1.1 z2.1) (Nat.pow_le_pow_right (by decide) (by omega))), Nat.lt_of_le_of_lt nf.le2 (Nat.lt_of_lt_of_le (wide_lt z1.2 z2.2) (Nat.pow_le_pow_right (by decide) (by omega)))⟩, by omega⟩⟩
  have e3 := nf.eq
  exact Int.eq_of_mul_eq_mul_right (Int.mul_ne_zero hq1 hq2) (by grind)
theorem st_mulI {k0 : Int} (R1 : Rp C H x O1 U1 n) (hk : k0.natAbs < 2 ^ n) (hn : n ≤ 2000) (k : ∀ r H', Same H H' → Rp C H' r (O1 * k0) U1 (n + n + 1) → Q r H') : rOwnI C (spArith C (fun p1 q1 p2 q2 => p1 * p2) (fun p1 q1 p2 q2 => q1 * q2)) E0 x (.int k0) H Q := by
  have c1 := R1.isC
  obtain ⟨p1, q1, R1, e1, u1, z1, n0⟩ := R1
  have hq1 : q1 ≠ 0 := by have := R1.pos; omega
  have h1n : (1 : Int).natAbs < 2 ^ n := Nat.one_lt_two_pow (by omega)
  have z2 : Sz n k0 1 := ⟨hk, h1n⟩
  refine ⟨c1, ⟨_, rfl⟩, x, _, p1, q1, k0, 1, n, rfl, R1, .int k0, z1, z2, n0, by omega, fun r p q H' sm R nf => k r H' sm ⟨p, q, R, ?_, u1, ⟨Nat.lt_of_le_of_lt nf.le1 (Nat.lt_of_lt_of_le (wide_lt z1.1 z2.1) (Nat.pow_le_pow_right (by decide) (by omega))), Nat.lt_of_le_of_lt nf.le2 (Nat.lt_of_lt_of_le (wide_lt z1.2 z2.2) (Nat.pow_le_pow_right (by decide) (by omega)))⟩, by omega⟩⟩
  have e3 := nf.eq
  exact Int.eq_of_mul_eq_mul_right hq1 (by grind)
theorem st_addR {k0 : Int} (R1 : Rp C H x O1 U1 n) (hk : k0.natAbs < 2 ^ n) (hn : n ≤ 2000) (k : ∀ r H', Same H H' → Rp C H' r (O1 + k0 * U1) U1 (n + n + 1) → Q r H') : rOwnR C (spArithI C (fun p1 q1 p2 q2 => p1 * q2 + p2 * q1) (fun p1 q1 p2 q2 => q1 * q2)) E0 (.int k0) x H Q := by
  have c1 := R1.isC
  obtain ⟨p1, q1, R1, e1, u1, z1, n0⟩ := R1
  have hq1 : q1 ≠ 0 := by have := R1.pos; omega
  have h1n : (1 : Int).natAbs < 2 ^ n := Nat.one_lt_two_pow (by omega)
  have z2 : Sz n k0 1 := ⟨hk, h1n⟩
  refine ⟨⟨_, rfl⟩, c1, k0, rfl, x, _, p1, q1, k0, 1, n, rfl, R1, .int k0, z1, z2, n0, by omega, fun r p q H' sm R nf => k r H' sm ⟨p, q, R, ?_, u1, ⟨Nat.lt_of_le_of_lt nf.le1 (sz_add z1.1 z2.2 z2.1 z1.2), Nat.lt_of_le_of_lt nf.le2 (Nat.lt_of_lt_of_le (wide_lt z1.2 z2.2) (Nat.pow_le_pow_right (by decide) (by omega)))⟩, by omega⟩⟩
  have e3 := nf.eq
  exact Int.eq_of_mul_eq_mul_right hq1 (by grind)
theorem st_subR {k0 : Int} (R1 : Rp C H x O1 U1 n) (hk : k0.natAbs < 2 ^ n) (hn : n ≤ 2000) (k : ∀ r H', Same H H' → Rp C H' r (k0 * U1 - O1) U1 (n + n + 1) → Q r H') : rOwnR C (spArithI C (fun p1 q1 p2 q2 => p2 * q1 - p1 * q2) (fun p1 q1 p2 q2 => q2 * q1)) E0 (.int k0) x H Q := by
  have c1 := R1.isC
  obtain ⟨p1, q1, R1, e1, u1, z1, n0⟩ := R1
  have hq1 : q1 ≠ 0 := by have := R1.pos; omega
  have h1n : (1 : Int).natAbs < 2 ^ n := Nat.one_lt_two_pow (by omega)
  have z2 : Sz n k0 1 := ⟨hk, h1n⟩
  refine ⟨⟨_, rfl⟩, c1, k0, rfl, x, _, p1, q1, k0, 1, n, rfl, R1, .int k0, z1, z2, n0, by omega, fun r p q H' sm R nf => k r H' sm ⟨p, q, R, ?_, u1, ⟨Nat.lt_of_le_of_lt nf.le1 (sz_sub z2.1 z1.2 z1.1 z2.2), Nat.lt_of_le_of_lt nf.le2 (Nat.lt_of_lt_of_le (wide_lt z2.2 z1.2) (Nat.pow_le_pow_right (by decide) (by omega)))⟩, by omega⟩⟩
  have e3 := nf.eq
  exact Int.eq_of_mul_eq_mul_right hq1 (by grind)
theorem st_mulR {k0 : Int} (R1 : Rp C H x O1 U1 n) (hk : k0.natAbs < 2 ^ n) (hn : n ≤ 2000) (k : ∀ r H', Same H H' → Rp C H' r (O1 * k0) U1 (n + n + 1) → Q r H') : rOwnR C (spArithI C (fun p1 q1 p2 q2 => p1 * p2) (fun p1 q1 p2 q2 => q1 * q2)) E0 (.int k0) x H Q := by
  have c1 := R1.isC
  obtain ⟨p1, q1, R1, e1, u1, z1, n0⟩ := R1
  have hq1 : q1 ≠ 0 := by have := R1.pos; omega
  have h1n : (1 : Int).natAbs < 2 ^ n := Nat.one_lt_two_pow (by omega)
  have z2 : Sz n k0 1 := ⟨hk, h1n⟩
  refine ⟨⟨_, rfl⟩, c1, k0, rfl, x, _, p1, q1, k0, 1, n, rfl, R1, .int k0, z1, z2, n0, by omega, fun r p q H' sm R nf => k r H' sm ⟨p, q, R, ?_, u1, ⟨Nat.lt_of_le_of_lt nf.le1 (Nat.lt_of_lt_of_le (wide_lt z1.1 z2.1) (Nat.pow_le_pow_right (by decide) (by omega))), Nat.lt_of_le_of_lt nf.le2 (Nat.lt_of_lt_of_le (wide_lt z1.2 z2.2) (Nat.pow_le_pow_right (by decide) (by omega)))⟩, by omega⟩⟩
  have e3 := nf.eq
  exact Int.eq_of_mul_eq_mul_right hq1 (by grind)
end
/-- what the top has left -/
structure Ctx (K : PySem.W.Frag) (mg : Str → Option Value) where
  c_VoteError : Addr
  gc_VoteError : mg "VoteError" = some (.ref c_VoteError)
  c_BadNumber : Addr
  gc_BadNumber : mg "BadNumber" = some (.ref c_BadNumber)
  c_Ratio : Addr
  gc_Ratio : mg "Ratio" = some (.ref c_Ratio)
  f_BadNumber_init : Addr
  fd_BadNumber_init : FuncData
  F_BadNumber_init : Fun K "__init__" "BadNumber.__init__" s_BadNumber_init f_BadNumber_init fd_BadNumber_init
  b_BadNumber_init : Binds K fd_BadNumber_init ["self", "what", "value"] []
  f_is_integer : Addr
  fd_is_integer : FuncData
  F_is_integer : Fun K "is_integer" "is_integer" s_is_integer f_is_integer fd_is_integer
  b_is_integer : Binds K fd_is_integer ["value"] []
  g_is_integer : mg "is_integer" = some (.ref f_is_integer)
  f_check_number : Addr
  fd_check_number : FuncData
  F_check_number : Fun K "check_number" "check_number" s_check_number f_check_number fd_check_number
  b_check_number : Binds K fd_check_number ["what", "value", "low", "high"] []
  g_check_number : mg "check_number" = some (.ref f_check_number)
  f_Ratio_init : Addr
  fd_Ratio_init : FuncData
  F_Ratio_init : FunD K "__init__" "Ratio.__init__" (defArgs s_Ratio_init) (defBody s_Ratio_init) (defScope s_Ratio_init) [.int 1] [] f_Ratio_init fd_Ratio_init
  d_Ratio_init1 : List Value
  v_Ratio_init1 : Vals (List.drop 0 [.int 1]) d_Ratio_init1
  b_Ratio_init1 : Binds K fd_Ratio_init ["self", "over", "under"] d_Ratio_init1
  d_Ratio_init2 : List Value
  v_Ratio_init2 : Vals (List.drop 1 [.int 1]) d_Ratio_init2
  b_Ratio_init2 : Binds K fd_Ratio_init ["self", "over", "under"] d_Ratio_init2
  f_ratio_of : Addr
  fd_ratio_of : FuncData
  F_ratio_of : Fun K "ratio_of" "ratio_of" s_ratio_of f_ratio_of fd_ratio_of
  b_ratio_of : Binds K fd_ratio_of ["value"] []
  g_ratio_of : mg "ratio_of" = some (.ref f_ratio_of)
  f_Ratio_eq : Addr
  fd_Ratio_eq : FuncData
  F_Ratio_eq : Fun K "__eq__" "Ratio.__eq__" s_Ratio_eq f_Ratio_eq fd_Ratio_eq
  b_Ratio_eq : Binds K fd_Ratio_eq ["self", "other"] []
  me_Ratio_eq : Meth K c_Ratio "__eq__" f_Ratio_eq
  f_Ratio_add : Addr
  fd_Ratio_add : FuncData
  F_Ratio_add : Fun K "__add__" "Ratio.__add__" s_Ratio_add f_Ratio_add fd_Ratio_add
  b_Ratio_add : Binds K fd_Ratio_add ["self", "other"] []
  me_Ratio_add : Meth K c_Ratio "__add__" f_Ratio_add
  f_Ratio_radd : Addr
  fd_Ratio_radd : FuncData
  F_Ratio_radd : Fun K "__radd__" "Ratio.__radd__" s_Ratio_radd f_Ratio_radd fd_Ratio_radd
  b_Ratio_radd : Binds K fd_Ratio_radd ["self", "other"] []
  me_Ratio_radd : Meth K c_Ratio "__radd__" f_Ratio_radd
  f_Ratio_sub : Addr
  fd_Ratio_sub : FuncData
  F_Ratio_sub : Fun K "__sub__" "Ratio.__sub__" s_Ratio_sub f_Ratio_sub fd_Ratio_sub
  b_Ratio_sub : Binds K fd_Ratio_sub ["self", "other"] []
  me_Ratio_sub : Meth K c_Ratio "__sub__" f_Ratio_sub
  f_Ratio_rsub : Addr
  fd_Ratio_rsub : FuncData
  F_Ratio_rsub : Fun K "__rsub__" "Ratio.__rsub__" s_Ratio_rsub f_Ratio_rsub fd_Ratio_rsub
  b_Ratio_rsub : Binds K fd_Ratio_rsub ["self", "other"] []
  me_Ratio_rsub : Meth K c_Ratio "__rsub__" f_Ratio_rsub
  f_Ratio_mul : Addr
  fd_Ratio_mul : FuncData
  F_Ratio_mul : Fun K "__mul__" "Ratio.__mul__" s_Ratio_mul f_Ratio_mul fd_Ratio_mul
  b_Ratio_mul : Binds K fd_Ratio_mul ["self", "other"] []
  me_Ratio_mul : Meth K c_Ratio "__mul__" f_Ratio_mul
  f_Ratio_rmul : Addr
  fd_Ratio_rmul : FuncData
  F_Ratio_rmul : Fun K "__rmul__" "Ratio.__rmul__" s_Ratio_rmul f_Ratio_rmul fd_Ratio_rmul
  b_Ratio_rmul : Binds K fd_Ratio_rmul ["self", "other"] []
  me_Ratio_rmul : Meth K c_Ratio "__rmul__" f_Ratio_rmul
  f_Ratio_divided : Addr
  fd_Ratio_divided : FuncData
  F_Ratio_divided : Fun K "divided" "Ratio.divided" s_Ratio_divided f_Ratio_divided fd_Ratio_divided
  b_Ratio_divided : Binds K fd_Ratio_divided ["self", "other"] []
  me_Ratio_divided : Meth K c_Ratio "divided" f_Ratio_divided
  f_l_start : Addr
  fd_l_start : FuncData
  F_l_start : Fun K "_law_start" "_law_start" s_l_start f_l_start fd_l_start
  b_l_start : Binds K fd_l_start ["_law_script"] []
  g_l_start : mg "_law_start" = some (.ref f_l_start)
  f_l_draw : Addr
  fd_l_draw : FuncData
  F_l_draw : Fun K "_law_draw" "_law_draw" s_l_draw f_l_draw fd_l_draw
  b_l_draw : Binds K fd_l_draw ["_law_script", "_law_state", "_law_limit"] []
  g_l_draw : mg "_law_draw" = some (.ref f_l_draw)
  f_l_is : Addr
  fd_l_is : FuncData
  F_l_is : Fun K "_law_is" "_law_is" s_l_is f_l_is fd_l_is
  b_l_is : Binds K fd_l_is ["_law_value", "_law_over", "_law_under"] []
  g_l_is : mg "_law_is" = some (.ref f_l_is)
  f_l_divided : Addr
  fd_l_divided : FuncData
  F_l_divided : Fun K "_law_divided" "_law_divided" s_l_divided f_l_divided fd_l_divided
  b_l_divided : Binds K fd_l_divided ["_law_value", "_law_other"] []
  g_l_divided : mg "_law_divided" = some (.ref f_l_divided)
  f_l_pair_holds : Addr
  fd_l_pair_holds : FuncData
  F_l_pair_holds : Fun K "_law_pair_holds" "_law_pair_holds" s_l_pair_holds f_l_pair_holds fd_l_pair_holds
  b_l_pair_holds : Binds K fd_l_pair_holds ["_law_one", "_law_two", "_law_a", "_law_b", "_law_c", "_law_d"] []
  g_l_pair_holds : mg "_law_pair_holds" = some (.ref f_l_pair_holds)
  f_l_integer_holds : Addr
  fd_l_integer_holds : FuncData
  F_l_integer_holds : Fun K "_law_integer_holds" "_law_integer_holds" s_l_integer_holds f_l_integer_holds fd_l_integer_holds
  b_l_integer_holds : Binds K fd_l_integer_holds ["_law_one", "_law_a", "_law_b", "_law_n"] []
  g_l_integer_holds : mg "_law_integer_holds" = some (.ref f_l_integer_holds)
  f_law : Addr
  fd_law : FuncData
  F_law : Fun K "law" "law" s_law f_law fd_law
  b_law : Binds K fd_law ["_law_script"] []
  g_law : mg "law" = some (.ref f_law)
  ox_BadNumber : OexC K c_BadNumber
  xn_BadNumber : PySem.W.findIn K (.ref c_BadNumber) "__init__" = some (some (.ref f_BadNumber_init))
  xt_BadNumber : PySem.W.typeIn K (.ref f_BadNumber_init) = some (.type "function")
  xf_BadNumber : XfC K c_BadNumber
  xi_BadNumber : XiC K c_BadNumber
  n_BadNumber_what : PySem.W.findIn K (.ref c_BadNumber) "what" = some none
  n_BadNumber_value : PySem.W.findIn K (.ref c_BadNumber) "value" = some none
  cl_Ratio : Cls K c_Ratio
  M_Ratio : Mk K c_Ratio f_Ratio_init
  oh_Ratio_add : PySem.W.findIn K (.ref c_Ratio) (PySem.dunder "add") = some (some (.ref f_Ratio_add))
  oh_Ratio_radd : PySem.W.findIn K (.ref c_Ratio) (PySem.dunderR "add") = some (some (.ref f_Ratio_radd))
  oh_Ratio_sub : PySem.W.findIn K (.ref c_Ratio) (PySem.dunder "sub") = some (some (.ref f_Ratio_sub))
  oh_Ratio_rsub : PySem.W.findIn K (.ref c_Ratio) (PySem.dunderR "sub") = some (some (.ref f_Ratio_rsub))
  oh_Ratio_mul : PySem.W.findIn K (.ref c_Ratio) (PySem.dunder "mul") = some (some (.ref f_Ratio_mul))
  oh_Ratio_rmul : PySem.W.findIn K (.ref c_Ratio) (PySem.dunderR "mul") = some (some (.ref f_Ratio_rmul))
  oc_Ratio : OpC K c_Ratio
  ic_Ratio : InsC K c_Ratio
  n_Ratio_over : NoAttr K c_Ratio "over"
  n_Ratio_under : NoAttr K c_Ratio "under"
  ih_add : PySem.W.findIn K (.type "int") (PySem.dunder "add") = some (some (.builtin "int.__add__"))
  ihr_add : PySem.W.findIn K (.type "int") (PySem.dunderR "add") = some (some (.builtin "int.__radd__"))
  ih_sub : PySem.W.findIn K (.type "int") (PySem.dunder "sub") = some (some (.builtin "int.__sub__"))
  ihr_sub : PySem.W.findIn K (.type "int") (PySem.dunderR "sub") = some (some (.builtin "int.__rsub__"))
  ih_mul : PySem.W.findIn K (.type "int") (PySem.dunder "mul") = some (some (.builtin "int.__mul__"))
  ihr_mul : PySem.W.findIn K (.type "int") (PySem.dunderR "mul") = some (some (.builtin "int.__rmul__"))
  ki_Ratio_Ratio : PySem.W.kitOne K (.ref c_Ratio) (.ref c_Ratio) = some true
  ki_int_Ratio : PySem.W.kitOne K (.type "int") (.ref c_Ratio) = some false
  ex_BadNumber_BadNumber : PySem.W.exmOne K (.ref c_BadNumber) (.ref c_BadNumber) = some true
  gi_gcd : mg "gcd" = some (.builtin "math.gcd")
  m_abs : mg "abs" = none
  m_all : mg "all" = none
  m_bool : mg "bool" = none
  m_int : mg "int" = none
  m_isinstance : mg "isinstance" = none
  m_len : mg "len" = none
  m_range : mg "range" = none

section
variable {P : Program} {w : World} {K : PySem.W.Frag} {mg : Str → Option Value} {base : Heap}
theorem ok_l_start (T : Ctx K mg) : FnOk P w K mg base CX0 1 T.f_l_start T.fd_l_start ["_law_script"] (spStart K) := by
  refine T.F_l_start.ok sc_l_start (fun vs H Q E h => ?_) (fun cdv A outer s H vs Q E hr h => ?_)
  · obtain ⟨l, ns, rfl, _⟩ := h
    rfl
  · obtain ⟨l, ns, rfl, hS, q⟩ := h
    refine ⟨_, (pss_cons (ps_set (i := 1) sc_l_start.nd rfl (Or.inl rfl) pe_int)
      (Evl.pss_cut (ps_if (pt_cmpR op_gt (pe_callB call_len_seq (by rfl) T.m_len (by decide +kernel) (pa_cons (pv 0) pa_nil)) pe_int (nomark _))
        (pss_one (ps_set (i := 1) sc_l_start.nd rfl (Or.inl rfl) (pe_ix ix_list (pv 0) pe_int (fun _ _ => rfl))))
        pss_nil)
      (pss_one (ps_ret (pe_lst (pa_cons (pe_callB call_abs (by rfl) T.m_abs (by decide +kernel) (pa_cons (pe_callTy call_int1 (by rfl) T.m_int (by decide +kernel) (pa_cons (pv 1) pa_nil)) pa_nil)) (pa_cons (pe_callTy call_int1 (by rfl) T.m_int (by decide +kernel) (pa_cons (pe_cmpR op_ge (pe_callB call_abs (by rfl) T.m_abs (by decide +kernel) (pa_cons (pe_callTy call_int1 (by rfl) T.m_int (by decide +kernel) (pa_cons (pv 1) pa_nil)) pa_nil)) (pe_op op_pow pe_int pe_int) (nomark _)) pa_nil)) (pa_cons pe_int (pa_cons pe_int pa_nil))))))))), ?_⟩
    refine ⟨fun σ' H' => H' = H ∧ ∃ z : Int, σ' = [some (.ref l), some (.int z)], ?_, ?_⟩
    · refine ⟨_, rfl, l, _, rfl, .inl hS, _, _, rfl, rfl, _, rfl, ?_⟩
      refine ite2 (fun hc => ?_) fun hc => ⟨rfl, 0, rfl⟩
      have hn : 0 < ns.length := by
        have := of_decide_eq_true hc
        rw [List.length_map] at this
        omega
      refine ⟨_, rfl, l, _, _, .int ns[0], rfl, rfl, hS, at_of (j := 0) rfl (by rw [List.getElem?_map, List.getElem?_eq_getElem hn]; rfl), ?_⟩
      exact ⟨rfl, _, rfl⟩
    · rintro σ' H' ⟨rfl, z, rfl⟩
      refine ⟨_, rfl, .inl ⟨_, rfl, _, rfl, ?_⟩⟩
      refine ⟨_, rfl, .inl ⟨_, rfl, _, rfl, _, _, rfl, rfl, ⟨by decide, by decide, by decide⟩, _, _, rfl, rfl, .inr ⟨_, rfl, ?_⟩⟩⟩
      refine ⟨by show 4 ≤ sizeLine; decide, fun t ht => ?_⟩
      exact q t _ ht ⟨⟨ns, hS⟩, ht, same_upd ht, ⟨_, _, _, _, upd_same⟩⟩ (But.refl.upd)
theorem ok_l_draw (T : Ctx K mg) : FnOk P w K mg base CX0 1 T.f_l_draw T.fd_l_draw ["_law_script", "_law_state", "_law_limit"] (spDraw K) := by
  refine T.F_l_draw.ok sc_l_draw (fun vs H Q E h => ?_) (fun cdv A outer s H vs Q E hr h => ?_)
  · obtain ⟨l, t, m, H0, rfl, _⟩ := h
    rfl
  · obtain ⟨l, t, m, H0, rfl, D, hm, hm2, q⟩ := h
    obtain ⟨a, b, c, d, ht⟩ := D.st
    have fin : ∀ (z : Int) H', But t H H' → Drw K H0 l t H' → Q (.int (z.fmod m)) H' := fun z H' e1 D' =>
      q _ _ (Int.fmod_nonneg_of_pos _ hm) (Int.fmod_lt_of_pos _ hm) e1 D'
    refine ⟨_, (pss_cons (ps_asg (pe_op op_add (pe_ix ix_list (pv 1) pe_int (fun _ _ => rfl)) pe_int) (pg_sub (pv 1) pe_int set_list))
      (Evl.pss_cut (ps_if (PW.pt (pw_and (pt_cmpR op_eq (pe_ix ix_list (pv 1) pe_int (fun _ _ => rfl)) pe_int (nomark _)) (pw_and1 (pt_cmpR op_gt (pe_ix ix_list (pv 1) pe_int (fun _ _ => rfl)) pe_int (nomark _)))))
        (pss_cons (ps_set (i := 3) sc_l_draw.nd rfl (Or.inl rfl) (pe_op op_modN (pe_callTy call_int1 (by rfl) T.m_int (by decide +kernel) (pa_cons (pe_ix ix_list (pv 1) pe_int (fun _ _ => rfl)) pa_nil)) (pv 2)))
        (pss_cons (ps_asg (pe_op op_fdivN (pe_ix ix_list (pv 1) pe_int (fun _ _ => rfl)) (pv 2)) (pg_sub (pv 1) pe_int set_list))
        (pss_one (ps_ret (pv 3)))))
        pss_nil)
      (pss_cons (ps_asg pe_int (pg_sub (pv 1) pe_int set_list))
      (pss_cons (ps_set (i := 4) sc_l_draw.nd rfl (Or.inl rfl) pe_int)
      (Evl.pss_cut (ps_if (pt_cmpR op_gt (pe_callB call_len_seq (by rfl) T.m_len (by decide +kernel) (pa_cons (pv 0) pa_nil)) pe_int (nomark _))
        (pss_one (ps_set (i := 4) sc_l_draw.nd rfl (Or.inl rfl) (pe_ix ix_list (pv 0) (pe_op op_modN (pe_callTy call_int1 (by rfl) T.m_int (by decide +kernel) (pa_cons (pe_ix ix_list (pv 1) pe_int (fun _ _ => rfl)) pa_nil)) (pe_callB call_len_seq (by rfl) T.m_len (by decide +kernel) (pa_cons (pv 0) pa_nil))) (fun _ _ => rfl))))
        pss_nil)
      (pss_cons (ps_asg (pe_op op_add (pe_ix ix_list (pv 1) pe_int (fun _ _ => rfl)) pe_int) (pg_sub (pv 1) pe_int set_list))
      (pss_cons (ps_set (i := 5) sc_l_draw.nd rfl (Or.inl rfl) (pe_op op_mul (pe_op op_mod (pe_callTy call_int1 (by rfl) T.m_int (by decide +kernel) (pa_cons (pe_ix ix_list (pv 1) pe_int (fun _ _ => rfl)) pa_nil)) pe_int) pe_int))
      (pss_cons (ps_set (i := 5) sc_l_draw.nd rfl (Or.inl rfl) (pe_op op_add (pe_op op_add (pe_op op_add (pv 5) (pe_op op_mod (pe_callTy call_int1 (by rfl) T.m_int (by decide +kernel) (pa_cons (pv 4) pa_nil)) pe_int)) (pe_op op_mul pe_int (pe_ix ix_list (pv 1) pe_int (fun _ _ => rfl)))) pe_int))
      (pss_cons (ps_asg (pe_op op_mod (pe_callTy call_int1 (by rfl) T.m_int (by decide +kernel) (pa_cons (pv 5) pa_nil)) pe_int) (pg_sub (pv 1) pe_int set_list))
      (pss_cons (ps_set (i := 5) sc_l_draw.nd rfl (Or.inl rfl) (pe_op op_mod (pe_callTy call_int1 (by rfl) T.m_int (by decide +kernel) (pa_cons (pe_op op_add (pe_op op_mul (pe_ix ix_list (pv 1) pe_int (fun _ _ => rfl)) pe_int) (pe_ix ix_list (pv 1) pe_int (fun _ _ => rfl))) pa_nil)) pe_int))
      (pss_one (ps_ret (pe_op op_modN (pe_callTy call_int1 (by rfl) T.m_int (by decide +kernel) (pa_cons (pe_op op_fdiv (pv 5) pe_int) pa_nil)) (pv 2)))))))))))))), ?_⟩
    -- state[3] = state[3] + 1
    refine ⟨_, rfl, t, _, _, _, rfl, rfl, SqL.of ht, at3, _, _, rfl, rfl, _, rfl, t, _, _, 3, rfl, rfl, ht, rfl, ?_⟩
    -- the first way
    refine ⟨fun σ' H' => σ' = [some (.ref l), some (.ref t), some (.int m), none, none, none] ∧ H' = upd H t (.lst [.int a, .int b, .int c, .int (d + 1)]), ?_, ?_⟩
    · refine ⟨_, rfl, t, _, _, _, rfl, rfl, SqL.of upd_same, at1, rfl, _, rfl, ?_⟩
      refine ite2 (fun hc => ?_) fun hc => iteF ⟨rfl, rfl⟩
      refine ⟨_, rfl, t, _, _, _, rfl, rfl, SqL.of upd_same, at0, _, _, rfl, rfl, _, rfl, ?_⟩
      refine ite2 (fun hc => ?_) fun hc => ⟨rfl, rfl⟩
      refine ⟨_, rfl, t, _, _, _, rfl, rfl, SqL.of upd_same, at0, .inl ⟨_, rfl, _, rfl, _, _, rfl, rfl, by omega, ?_⟩⟩
      refine ⟨_, rfl, t, _, _, _, rfl, rfl, SqL.of upd_same, at0, _, rfl, _, _, rfl, rfl, ⟨by omega, by omega⟩, _, rfl, t, _, _, 0, rfl, rfl, upd_same, rfl, ?_⟩
      exact ⟨_, rfl, fin _ _ (But.refl.upd.upd) (D.upd.upd)⟩
    · rintro σ' H' ⟨rfl, rfl⟩
      -- state[1] = 0; cell = 0
      refine ⟨_, rfl, t, _, _, 1, rfl, rfl, upd_same, rfl, ?_⟩
      have e1 : upd (upd H t (.lst [.int a, .int b, .int c, .int (d + 1)])) t (.lst ([V.int a, .int b, .int c, .int (d + 1)].set 1 (.int 0))) = upd H t (.lst [.int a, .int 0, .int c, .int (d + 1)]) := upd_upd
      rw [e1]
      have D1 : Drw K H0 l t (upd H t (.lst [.int a, .int 0, .int c, .int (d + 1)])) := D.upd
      obtain ⟨ns, hS⟩ := D1.sc
      refine ⟨fun σ' H' => H' = upd H t (.lst [.int a, .int 0, .int c, .int (d + 1)]) ∧ ∃ z : Int, σ' = [some (.ref l), some (.ref t), some (.int m), none, some (.int z), none], ?_, ?_⟩
      · refine ⟨_, rfl, l, _, rfl, .inl hS, _, _, rfl, rfl, _, rfl, ?_⟩
        refine ite2 (fun hc => ?_) fun hc => ⟨rfl, 0, rfl⟩
        have hn : 0 < ns.length := by
          have := of_decide_eq_true hc
          rw [List.length_map] at this
          omega
        have hn' : (0 : Int) < (((ns.map V.int).length : Nat) : Int) := by
          rw [List.length_map]
          omega
        have h0 := Int.fmod_nonneg_of_pos c hn'
        have h1 := Int.fmod_lt_of_pos c hn'
        rw [List.length_map] at h1
        have hj : (c.fmod ((ns.map V.int).length : Nat)).toNat < ns.length := by
          rw [List.length_map] at h0 ⊢
          omega
        refine ⟨_, rfl, _, rfl, t, _, _, _, rfl, rfl, SqL.of upd_same, at2, .inl ⟨_, rfl, _, rfl, l, _, rfl, .inl hS, _, _, rfl, rfl, by omega, ?_⟩⟩
        refine ⟨l, _, _, .int ns[(c.fmod ((ns.map V.int).length : Nat)).toNat], rfl, rfl, hS, at_of (j := (c.fmod ((ns.map V.int).length : Nat)).toNat) (by omega) (by rw [List.getElem?_map, List.getElem?_eq_getElem hj]; rfl), ?_⟩
        exact ⟨rfl, _, rfl⟩
      · rintro σ' H' ⟨rfl, z, rfl⟩
        -- state[2] = state[2] + 1
        refine ⟨_, rfl, t, _, _, _, rfl, rfl, SqL.of upd_same, at2, _, _, rfl, rfl, _, rfl, t, _, _, 2, rfl, rfl, upd_same, rfl, ?_⟩
        have e2 : upd (upd H t (.lst [.int a, .int 0, .int c, .int (d + 1)])) t (.lst ([V.int a, .int 0, .int c, .int (d + 1)].set 2 (.int (c + 1)))) = upd H t (.lst [.int a, .int 0, .int (c + 1), .int (d + 1)]) := upd_upd
        rw [e2]
        have hb := Int.emod_nonneg a (b := 2147483647) (by decide)
        have hb2 := Int.emod_lt_of_pos a (b := 2147483647) (by decide)
        refine ⟨_, rfl, t, _, _, _, rfl, rfl, SqL.of upd_same, at0, .inl ⟨_, rfl, _, _, rfl, rfl, (show (0 : Int) < 2147483647 by decide), _, _, rfl, rfl, .inl ⟨by omega, by omega⟩, ?_⟩⟩
        refine ⟨_, rfl, _, rfl, .inl ⟨_, rfl, _, _, rfl, rfl, (show (0 : Int) < 2147483629 by decide), _, _, rfl, rfl, _, rfl, t, _, _, _, rfl, rfl, SqL.of upd_same, at3, _, _, rfl, rfl, .inl ⟨by decide, by decide⟩, _, _, rfl, rfl, _, _, rfl, rfl, ?_⟩⟩
        refine ⟨_, rfl, .inl ⟨_, rfl, _, _, rfl, rfl, (show (0 : Int) < 2147483647 by decide), _, rfl, t, _, _, 0, rfl, rfl, upd_same, rfl, ?_⟩⟩
        generalize hw : (a % 2147483647 * 48271 + z % 2147483629 + 7 * (d + 1) + 11) = w'
        have e3 : upd (upd H t (.lst [.int a, .int 0, .int (c + 1), .int (d + 1)])) t (.lst ([V.int a, .int 0, .int (c + 1), .int (d + 1)].set 0 (.int (w' % 2147483647)))) = upd H t (.lst [.int (w' % 2147483647), .int 0, .int (c + 1), .int (d + 1)]) := upd_upd
        rw [e3]
        have hc := Int.emod_nonneg w' (b := 2147483647) (by decide)
        have hc2 := Int.emod_lt_of_pos w' (b := 2147483647) (by decide)
        refine ⟨_, rfl, t, _, _, _, rfl, rfl, SqL.of upd_same, at0, _, _, rfl, rfl, .inl ⟨by omega, by omega⟩, _, rfl, t, _, _, _, rfl, rfl, SqL.of upd_same, at3, _, _, rfl, rfl, .inl ⟨_, rfl, _, _, rfl, rfl, (show (0 : Int) < 2147483629 by decide), ?_⟩⟩
        refine ⟨_, rfl, _, _, rfl, rfl, ⟨by decide, by decide⟩, .inl ⟨_, rfl, _, rfl, _, _, rfl, rfl, by omega, ?_⟩⟩
        exact fin _ _ But.refl.upd D.upd
end
section
variable {P : Program} {w : World} {K : PySem.W.Frag} {mg : Str → Option Value} {base : Heap}
theorem ok_BadNumber_init (T : Ctx K mg) : FnOk P w K mg base CX0 1 T.f_BadNumber_init T.fd_BadNumber_init ["self", "what", "value"] (spX2 T.c_BadNumber "what" "value") := by
  refine T.F_BadNumber_init.ok sc_BadNumber_init (fun vs H Q E h => ?_) (fun cdv A outer s H vs Q E hr h => ?_)
  · obtain ⟨a, x, y, rfl, _⟩ := h
    rfl
  · obtain ⟨a, x, y, rfl, ha, q⟩ := h
    refine ⟨_, (pss_cons (ps_ost (pv 0) (pv 1))
      (pss_one (ps_ost (pv 0) (pv 2)))), ?_⟩
    refine ⟨_, rfl, _, rfl, a, T.c_BadNumber, rfl, T.ox_BadNumber, T.n_BadNumber_what, .inl ⟨ha, fun d hd hda => ?_⟩⟩
    refine ⟨_, rfl, _, rfl, a, T.c_BadNumber, rfl, T.ox_BadNumber, T.n_BadNumber_value, .inr ⟨d, [("what", x)], upd_same, ?_, by show 1 ≤ 900; decide, ?_⟩⟩
    · rw [upd_ne hda, upd_same]
    · exact q d hd hda
theorem ok_is_integer (T : Ctx K mg) : FnOk P w K mg base CX0 1 T.f_is_integer T.fd_is_integer ["value"] (spIsInt K) := by
  refine T.F_is_integer.ok sc_is_integer (fun vs H Q E h => ?_) (fun cdv A outer s H vs Q E hr h => ?_)
  · obtain ⟨x, rfl, _⟩ := h
    rfl
  · obtain ⟨x, rfl, ⟨t, b1, b2, ty, k1, k2, e⟩, q⟩ := h
    refine ⟨_, (pss_one (ps_ret (pe_and (pe_callB call_isi (by rfl) T.m_isinstance (by decide +kernel) (pa_cons (pv 0) (pa_cons (pe_bltn (v := .ty "int") (by rfl) T.m_int (by decide +kernel) rfl) pa_nil))) (pe_one (pe_not (pe_callB call_isi (by rfl) T.m_isinstance (by decide +kernel) (pa_cons (pv 0) (pa_cons (pe_bltn (v := .ty "bool") (by rfl) T.m_bool (by decide +kernel) rfl) pa_nil)))))))), ?_⟩
    refine ⟨_, rfl, _, _, _, _, _, rfl, .ty _, ty, k1, b1, rfl, ?_⟩
    rw [← e] at q
    cases b1 with
    | false => exact iteF q
    | true => exact iteT ⟨_, rfl, _, _, _, _, _, rfl, .ty _, ty, k2 rfl, b2, rfl, q⟩
theorem ok_check_number (T : Ctx K mg) : FnOk P w K mg base (L2.CX P w) 3 T.f_check_number T.fd_check_number ["what", "value", "low", "high"] (spCheck K T.c_BadNumber) := by
  refine T.F_check_number.okX sc_check_number (fun vs H Q E h => ?_) (fun cdv A outer s H vs Q E hr h => ?_)
  · obtain ⟨w, x, lo, hi, rfl, _⟩ := h
    rfl
  · obtain ⟨w, x, lo, hi, rfl, kn, q1, q2⟩ := h
    refine ⟨_, (pss_cons (ps_if (pt_not (pt_val (pe_call (ok_is_integer T) (hr.mono (by decide)) (by rfl) T.g_is_integer T.F_is_integer.kp T.b_is_integer .nil pass0 (pa_cons (pv 1) pa_nil))))
        (pss_one (ps_raise rfl (takes_of rfl rfl rfl rfl) (pmk_oex T.ox_BadNumber T.xn_BadNumber T.xt_BadNumber (ok_BadNumber_init T) (hr.mono (by decide)) T.b_BadNumber_init .nil pass0 (by rfl) T.gc_BadNumber (pa_cons (pv 0) (pa_cons (pv 1) pa_nil)))))
        pss_nil)
      (Evl.pss_cut (ps_if (PW.pt (pw_and (pt_cmpR op_notN (pv 2) pe_non (nomark _)) (pw_and1 (pt_cmpR op_lt (pv 1) (pv 2) (nomark _)))))
        (pss_one (ps_raise rfl (takes_of rfl rfl rfl rfl) (pmk_oex T.ox_BadNumber T.xn_BadNumber T.xt_BadNumber (ok_BadNumber_init T) (hr.mono (by decide)) T.b_BadNumber_init .nil pass0 (by rfl) T.gc_BadNumber (pa_cons (pv 0) (pa_cons (pv 1) pa_nil)))))
        pss_nil)
      (Evl.pss_cut (ps_if (PW.pt (pw_and (pt_cmpR op_notN (pv 3) pe_non (nomark _)) (pw_and1 (pt_cmpR op_gt (pv 1) (pv 3) (nomark _)))))
        (pss_one (ps_raise rfl (takes_of rfl rfl rfl rfl) (pmk_oex T.ox_BadNumber T.xn_BadNumber T.xt_BadNumber (ok_BadNumber_init T) (hr.mono (by decide)) T.b_BadNumber_init .nil pass0 (by rfl) T.gc_BadNumber (pa_cons (pv 0) (pa_cons (pv 1) pa_nil)))))
        pss_nil)
      (pss_one (ps_ret (pv 1)))))), ?_⟩
    refine ⟨_, rfl, x, rfl, kn, _, rfl, ?_⟩
    cases x with
    | int i =>
      refine iteF ?_
      refine ⟨fun σ' H' => σ' = [some (.str w), some (.int i), some (oV lo), some (oV hi)] ∧ H' = H ∧ lo.all (fun l => decide (l ≤ i)) = true, ?_, ?_⟩
      · cases lo with
        | none => exact ⟨_, rfl, rfl, _, rfl, iteF ⟨rfl, rfl, rfl⟩⟩
        | some l =>
          refine ⟨_, rfl, rfl, _, rfl, iteT ⟨_, rfl, _, rfl, _, _, rfl, rfl, _, rfl, ?_⟩⟩
          refine ite2 (fun hc => ?_) fun hc => ⟨rfl, rfl, ?_⟩
          · have hlt := of_decide_eq_true hc
            refine ⟨_, rfl, _, rfl, mk2 (q2 ?_)⟩
            have z : decide (l ≤ i) = false := decide_eq_false (by omega)
            simp [good, z]
          · have hlt := of_decide_eq_false (Bool.eq_false_iff.mpr hc)
            exact decide_eq_true (show l ≤ i by omega)
      · rintro σ' H' ⟨rfl, rfl, hlo⟩
        refine ⟨fun σ' H'' => σ' = [some (.str w), some (.int i), some (oV lo), some (oV hi)] ∧ H'' = H' ∧ hi.all (fun h => decide (i ≤ h)) = true, ?_, ?_⟩
        · cases hi with
          | none => exact ⟨_, rfl, rfl, _, rfl, iteF ⟨rfl, rfl, rfl⟩⟩
          | some l =>
            refine ⟨_, rfl, rfl, _, rfl, iteT ⟨_, rfl, _, rfl, _, _, rfl, rfl, _, rfl, ?_⟩⟩
            refine ite2 (fun hc => ?_) fun hc => ⟨rfl, rfl, ?_⟩
            · have hlt := of_decide_eq_true hc
              refine ⟨_, rfl, _, rfl, mk2 (q2 ?_)⟩
              have z : decide (i ≤ l) = false := decide_eq_false (by omega)
              simp [good, z]
            · have hlt := of_decide_eq_false (Bool.eq_false_iff.mpr hc)
              exact decide_eq_true (show i ≤ l by omega)
        · rintro σ' H'' ⟨rfl, rfl, hhi⟩
          refine ⟨_, rfl, q1 ?_⟩
          show (lo.all (fun l => decide (l ≤ i)) && hi.all (fun h => decide (i ≤ h))) = true
          rw [hlo, hhi] <;> rfl
    | _ => exact iteT ⟨_, rfl, _, rfl, mk2 (q2 rfl)⟩
end
section
variable {P : Program} {w : World} {K : PySem.W.Frag} {mg : Str → Option Value} {base : Heap}
theorem ok_Ratio_init (T : Ctx K mg) : FnOk P w K mg base (L2.CX P w) 4 T.f_Ratio_init T.fd_Ratio_init ["self", "over", "under"] (spInit K T.c_Ratio T.c_BadNumber) := by
  refine T.F_Ratio_init.ok (CX := L2.CX P w) sc_Ratio_init (fun vs H Q E h => ?_) (fun cdv A outer s H vs Q E hr h => ?_)
  · obtain ⟨a, dx, x, y, rfl, _⟩ := h
    rfl
  · obtain ⟨a, dx, x, y, rfl, ha, kx, ky, hok, hbad⟩ := h
    refine ⟨_, (pss_cons (ps_expr (pe_call (ok_check_number T) (hr.mono (by decide)) (by rfl) T.g_check_number T.F_check_number.kp T.b_check_number .nil (passes_call (takes_of rfl rfl rfl rfl) (fun _ _ _ _ h => h)) (pa_cons pe_str (pa_cons (pv 1) (pa_cons pe_non (pa_cons pe_non pa_nil))))))
      (pss_cons (ps_expr (pe_call (ok_check_number T) (hr.mono (by decide)) (by rfl) T.g_check_number T.F_check_number.kp T.b_check_number .nil (passes_call (takes_of rfl rfl rfl rfl) (fun _ _ _ _ h => h)) (pa_cons pe_str (pa_cons (pv 2) (pa_cons pe_non (pa_cons pe_non pa_nil))))))
      (pss_cons (ps_if (pt_cmpR op_eq (pv 2) pe_int (nomark _))
        (pss_one (ps_raise rfl (takes_of rfl rfl rfl rfl) (pmk_oex T.ox_BadNumber T.xn_BadNumber T.xt_BadNumber (ok_BadNumber_init T) (hr.mono (by decide)) T.b_BadNumber_init .nil pass0 (by rfl) T.gc_BadNumber (pa_cons pe_str (pa_cons (pv 2) pa_nil)))))
        pss_nil)
      (pss_cons (ps_set (i := 3) sc_Ratio_init.nd rfl (Or.inl rfl) (pe_callBfun cr_gcd (by rfl) T.gi_gcd (pa_cons (pv 1) (pa_cons (pv 2) pa_nil))))
      (Evl.pss_cut (ps_if (pt_cmpR op_lt (pv 2) pe_int (nomark _))
        (pss_one (ps_set (i := 3) sc_Ratio_init.nd rfl (Or.inl rfl) (pe_un un_neg (pv 3))))
        pss_nil)
      (pss_cons (ps_fld (pv 0) (pe_op op_fdivZ (pv 1) (pv 3)) rfl)
      (pss_one (ps_fld (pv 0) (pe_op op_fdivZ (pv 2) (pv 3)) rfl)))))))), ?_⟩
    -- check_number("over", over)
    refine ⟨_, rfl, "over", x, none, none, rfl, kx, fun hg => ?_, fun hg => ?_⟩
    · obtain ⟨O, rfl⟩ : ∃ O, x = .int O := by
        cases x with
        | int i => exact ⟨i, rfl⟩
        | _ => cases hg
      refine ⟨_, rfl, "under", y, none, none, rfl, ky, fun hg2 => ?_, fun hg2 => ?_⟩
      · obtain ⟨U, rfl⟩ : ∃ U, y = .int U := by
          cases y with
          | int i => exact ⟨i, rfl⟩
          | _ => cases hg2
        refine ⟨_, rfl, rfl, _, rfl, ite2 (fun hc => ?_) fun hc => ?_⟩
        · have e0 : V.int U = .int 0 := of_decide_eq_true hc
          cases e0
          exact ⟨_, rfl, mk2 (hbad "under" (.int 0) (.inr (.inr ⟨rfl, rfl, rfl, rfl⟩)))⟩
        · have hU : U ≠ 0 := fun z => hc (decide_eq_true (by rw [z]))
          obtain ⟨hz, k⟩ := hok O U rfl rfl hU
          obtain ⟨h1, h2, h3⟩ := nf_make (O := O) hU rfl
          refine ⟨_, rfl, _, rfl, O, U, rfl, ?_⟩
          refine ⟨fun σ' H' => H' = H ∧ σ' = [some (.ref a), some (.int O), some (.int U), some (.int (if U < 0 then -((Nat.gcd O.natAbs U.natAbs : Nat) : Int) else ((Nat.gcd O.natAbs U.natAbs : Nat) : Int)))], ?_, ?_⟩
          · refine ⟨_, rfl, _, _, rfl, rfl, _, rfl, ite2 (fun hn => ?_) fun hn => ?_⟩
            · have hn' := of_decide_eq_true hn
              rw [if_pos hn']
              exact ⟨_, rfl, _, rfl, rfl, rfl⟩
            · have hn' := of_decide_eq_false (Bool.eq_false_iff.mpr hn)
              rw [if_neg hn']
              exact ⟨rfl, rfl⟩
          · rintro σ' H' ⟨rfl, rfl⟩
            have hl : (if U < 0 then -((Nat.gcd O.natAbs U.natAbs : Nat) : Int) else ((Nat.gcd O.natAbs U.natAbs : Nat) : Int)).natAbs.log2 < 9000 := log2_le h2 h1 hz
            refine ⟨_, rfl, _, rfl, _, _, rfl, rfl, ⟨h1, hl⟩, _, rfl, a, T.c_Ratio, dx, [], rfl, ha, T.cl_Ratio, T.n_Ratio_over, (by show 0 < 1000; decide), ?_⟩
            refine ⟨_, rfl, _, rfl, _, _, rfl, rfl, ⟨h1, hl⟩, _, rfl, a, T.c_Ratio, dx, _, rfl, upd_same, T.cl_Ratio, T.n_Ratio_under, (by show 1 < 1000; decide), ?_⟩
            exact k _ _ _ h3 upd_same fun b o e hb => by rw [upd_ne hb, upd_ne hb]; exact e
      · exact hbad "under" y (.inr (.inl ⟨rfl, by
          cases y with
          | int i => cases hg2
          | _ => rfl, rfl, rfl⟩))
    · exact hbad "over" x (.inl ⟨by
        cases x with
        | int i => cases hg
        | _ => rfl, rfl, rfl⟩)
theorem ok_ratio_of (T : Ctx K mg) : FnOk P w K mg base CX0 6 T.f_ratio_of T.fd_ratio_of ["value"] (spRatioOf T.c_Ratio) := by
  refine T.F_ratio_of.ok sc_ratio_of (fun vs H Q E h => ?_) (fun cdv A outer s H vs Q E hr h => ?_)
  · obtain ⟨x, p, q, rfl, _⟩ := h
    rfl
  · obtain ⟨x, p, q, rfl, hx, k⟩ := h
    refine ⟨_, (pss_cons (ps_if (pt_val (pe_callB call_isi (by rfl) T.m_isinstance (by decide +kernel) (pa_cons (pv 0) (pa_cons (pe_glob (v := .ref T.c_Ratio) (by rfl) T.gc_Ratio rfl) pa_nil))))
        (pss_one (ps_ret (pv 0)))
        pss_nil)
      (pss_cons (ps_if (pt_val (pe_call (ok_is_integer T) (hr.mono (by decide)) (by rfl) T.g_is_integer T.F_is_integer.kp T.b_is_integer .nil pass0 (pa_cons (pv 0) pa_nil)))
        (pss_one (ps_ret (pe_make T.M_Ratio (ok_Ratio_init T) (hr.mono (by decide)) (by rfl) T.gc_Ratio T.b_Ratio_init1 T.v_Ratio_init1 passL (pa_cons (pv 0) pa_nil))))
        pss_nil)
      (pss_one (ps_ret pe_non)))), ?_⟩
    cases hx with
    | rat R => exact ⟨_, rfl, _, _, _, _, true, rfl, .own _, R.ty T.ic_Ratio, T.ki_Ratio_Ratio, true, rfl, iteT ⟨_, rfl, k _ _ (Same.refl _) R⟩⟩
    | int =>
      refine ⟨_, rfl, _, _, _, _, false, rfl, .own _, .base (.int _), T.ki_int_Ratio, false, rfl, iteF ?_⟩
      exact ⟨_, rfl, _, rfl, kn_int _, true, rfl, iteT ⟨_, rfl, mk_ratio1 fun r H' sm R => k _ H' sm R⟩⟩
theorem ok_Ratio_eq (T : Ctx K mg) : FnOk P w K mg base CX0 1 T.f_Ratio_eq T.fd_Ratio_eq ["self", "other"] (spEqR K T.c_Ratio) := by
  refine T.F_Ratio_eq.ok sc_Ratio_eq (fun vs H Q E h => ?_) (fun cdv A outer s H vs Q E hr h => ?_)
  · obtain ⟨x, y, p, q, rfl, _⟩ := h
    rfl
  · obtain ⟨x, y, p, q, rfl, R, h⟩ := h
    refine ⟨_, (pss_one (ps_ret (pe_and (pe_callB call_isi (by rfl) T.m_isinstance (by decide +kernel) (pa_cons (pv 1) (pa_cons (pe_glob (v := .ref T.c_Ratio) (by rfl) T.gc_Ratio rfl) pa_nil))) (pe_and (pe_cmpR op_eq (pe_fld (pv 0) rfl) (pe_fld (pv 1) rfl) (nomark _)) (pe_one (pe_cmpR op_eq (pe_fld (pv 0) rfl) (pe_fld (pv 1) rfl) (nomark _))))))), ?_⟩
    obtain ⟨⟨a, dx, rfl, ha⟩, _⟩ := id R
    rcases h with ⟨p', q', R', k⟩ | ⟨t, ty, hk, k⟩
    · obtain ⟨⟨b, dy, rfl, hb⟩, _⟩ := id R'
      refine ⟨_, rfl, _, _, _, _, true, rfl, .own _, R'.ty T.ic_Ratio, T.ki_Ratio_Ratio, true, rfl, iteT ?_⟩
      refine ⟨_, rfl, a, T.c_Ratio, dx, _, _, rfl, ha, T.cl_Ratio, T.n_Ratio_over, rfR_over _ _, _, rfl, b, T.c_Ratio, dy, _, _, rfl, hb, T.cl_Ratio, T.n_Ratio_over, rfR_over _ _, rfl, decide (p = p'), congrArg V.bl ?_, ?_⟩
      · by_cases e : p = p'
        · subst e
          simp
        · rw [decide_eq_false e]
          exact decide_eq_false fun z => e (by injection z)
      · by_cases e : p = p'
        · rw [decide_eq_true e]
          rw [decide_eq_true e] at k
          refine iteT ⟨_, rfl, a, T.c_Ratio, dx, _, _, rfl, ha, T.cl_Ratio, T.n_Ratio_under, rfR_under _ _, _, rfl, b, T.c_Ratio, dy, _, _, rfl, hb, T.cl_Ratio, T.n_Ratio_under, rfR_under _ _, rfl, ?_⟩
          have e2 : decide (V.int q = V.int q') = decide (q = q') := by
            by_cases e : q = q'
            · subst e
              simp
            · rw [decide_eq_false e]
              exact decide_eq_false fun z => e (by injection z)
          rw [e2]
          exact k
        · rw [decide_eq_false e]
          rw [decide_eq_false e] at k
          exact iteF k
    · exact ⟨_, rfl, _, _, _, _, false, rfl, .own _, ty, hk, false, rfl, iteF k⟩
end
section
variable {P : Program} {w : World} {K : PySem.W.Frag} {mg : Str → Option Value} {base : Heap}
theorem ok_Ratio_add (T : Ctx K mg) : FnOk P w K mg base CX0 7 T.f_Ratio_add T.fd_Ratio_add ["self", "other"] (spArith T.c_Ratio (fun p1 q1 p2 q2 => p1 * q2 + p2 * q1) (fun p1 q1 p2 q2 => q1 * q2)) := by
  refine T.F_Ratio_add.ok sc_Ratio_add (fun vs H Q E h => ?_) (fun cdv A outer s H vs Q E hr h => ?_)
  · obtain ⟨x, y, p1, q1, p2, q2, n, rfl, _⟩ := h
    rfl
  · obtain ⟨x, y, p1, q1, p2, q2, n, rfl, R, N, z1, z2, n0, n1, k⟩ := h
    refine ⟨_, (pss_cons (ps_set (i := 2) sc_Ratio_add.nd rfl (Or.inl rfl) (pe_call (ok_ratio_of T) (hr.mono (by decide)) (by rfl) T.g_ratio_of T.F_ratio_of.kp T.b_ratio_of .nil pass0 (pa_cons (pv 1) pa_nil)))
      (pss_cons (ps_if (pt_cmpR op_isN (pv 2) pe_non (nomark _))
        (pss_one ps_never)
        pss_nil)
      (pss_cons (ps_set (i := 3) sc_Ratio_add.nd rfl (Or.inl rfl) (pe_op op_add (pe_op op_mulW (pe_fld (pv 0) rfl) (pe_fld (pv 2) rfl)) (pe_op op_mulW (pe_fld (pv 2) rfl) (pe_fld (pv 0) rfl))))
      (pss_one (ps_ret (pe_make T.M_Ratio (ok_Ratio_init T) (hr.mono (by decide)) (by rfl) T.gc_Ratio T.b_Ratio_init2 T.v_Ratio_init2 passL (pa_cons (pv 3) (pa_cons (pe_op op_mulW (pe_fld (pv 0) rfl) (pe_fld (pv 2) rfl)) pa_nil)))))))), ?_⟩
    refine ⟨_, rfl, y, p2, q2, rfl, N, fun r H' sm R2 => ?_⟩
    have R1 := R.same sm
    have hq : q1 * q2 ≠ 0 := Int.mul_ne_zero (by have := R.pos; omega) (by have := N.pos; omega)
    have hzq : (q1 * q2).natAbs.log2 < 9000 := sz_log (wide_lt z1.2 z2.2) (by omega) (by omega)
    obtain ⟨⟨b, dy, rfl, hb⟩, _⟩ := id R2
    obtain ⟨⟨a, dx, rfl, ha⟩, _⟩ := id R1
    refine ⟨_, rfl, rfl, _, rfl, iteF ?_⟩
    refine ⟨_, rfl, a, T.c_Ratio, dx, _, _, rfl, ha, T.cl_Ratio, T.n_Ratio_over, rfR_over _ _, _, rfl, b, T.c_Ratio, dy, _, _, rfl, hb, T.cl_Ratio, T.n_Ratio_under, rfR_under _ _, _, _, rfl, rfl, sz_mul z1.1 z2.2 n0 n1, ?_⟩
    refine ⟨_, rfl, b, T.c_Ratio, dy, _, _, rfl, hb, T.cl_Ratio, T.n_Ratio_over, rfR_over _ _, _, rfl, a, T.c_Ratio, dx, _, _, rfl, ha, T.cl_Ratio, T.n_Ratio_under, rfR_under _ _, _, _, rfl, rfl, sz_mul z2.1 z1.2 n0 n1, _, _, rfl, rfl, ?_⟩
    refine ⟨_, rfl, _, rfl, a, T.c_Ratio, dx, _, _, rfl, ha, T.cl_Ratio, T.n_Ratio_under, rfR_under _ _, _, rfl, b, T.c_Ratio, dy, _, _, rfl, hb, T.cl_Ratio, T.n_Ratio_under, rfR_under _ _, _, _, rfl, rfl, sz_mul z1.2 z2.2 n0 n1, ?_⟩
    refine mk_ratio hq hzq fun r p q H2 s2 R3 nf => k _ p q H2 (sm.trans s2) R3 nf
theorem ok_Ratio_sub (T : Ctx K mg) : FnOk P w K mg base CX0 7 T.f_Ratio_sub T.fd_Ratio_sub ["self", "other"] (spArith T.c_Ratio (fun p1 q1 p2 q2 => p1 * q2 - p2 * q1) (fun p1 q1 p2 q2 => q1 * q2)) := by
  refine T.F_Ratio_sub.ok sc_Ratio_sub (fun vs H Q E h => ?_) (fun cdv A outer s H vs Q E hr h => ?_)
  · obtain ⟨x, y, p1, q1, p2, q2, n, rfl, _⟩ := h
    rfl
  · obtain ⟨x, y, p1, q1, p2, q2, n, rfl, R, N, z1, z2, n0, n1, k⟩ := h
    refine ⟨_, (pss_cons (ps_set (i := 2) sc_Ratio_sub.nd rfl (Or.inl rfl) (pe_call (ok_ratio_of T) (hr.mono (by decide)) (by rfl) T.g_ratio_of T.F_ratio_of.kp T.b_ratio_of .nil pass0 (pa_cons (pv 1) pa_nil)))
      (pss_cons (ps_if (pt_cmpR op_isN (pv 2) pe_non (nomark _))
        (pss_one ps_never)
        pss_nil)
      (pss_cons (ps_set (i := 3) sc_Ratio_sub.nd rfl (Or.inl rfl) (pe_op op_sub (pe_op op_mulW (pe_fld (pv 0) rfl) (pe_fld (pv 2) rfl)) (pe_op op_mulW (pe_fld (pv 2) rfl) (pe_fld (pv 0) rfl))))
      (pss_one (ps_ret (pe_make T.M_Ratio (ok_Ratio_init T) (hr.mono (by decide)) (by rfl) T.gc_Ratio T.b_Ratio_init2 T.v_Ratio_init2 passL (pa_cons (pv 3) (pa_cons (pe_op op_mulW (pe_fld (pv 0) rfl) (pe_fld (pv 2) rfl)) pa_nil)))))))), ?_⟩
    refine ⟨_, rfl, y, p2, q2, rfl, N, fun r H' sm R2 => ?_⟩
    have R1 := R.same sm
    have hq : q1 * q2 ≠ 0 := Int.mul_ne_zero (by have := R.pos; omega) (by have := N.pos; omega)
    have hzq : (q1 * q2).natAbs.log2 < 9000 := sz_log (wide_lt z1.2 z2.2) (by omega) (by omega)
    obtain ⟨⟨b, dy, rfl, hb⟩, _⟩ := id R2
    obtain ⟨⟨a, dx, rfl, ha⟩, _⟩ := id R1
    refine ⟨_, rfl, rfl, _, rfl, iteF ?_⟩
    refine ⟨_, rfl, a, T.c_Ratio, dx, _, _, rfl, ha, T.cl_Ratio, T.n_Ratio_over, rfR_over _ _, _, rfl, b, T.c_Ratio, dy, _, _, rfl, hb, T.cl_Ratio, T.n_Ratio_under, rfR_under _ _, _, _, rfl, rfl, sz_mul z1.1 z2.2 n0 n1, ?_⟩
    refine ⟨_, rfl, b, T.c_Ratio, dy, _, _, rfl, hb, T.cl_Ratio, T.n_Ratio_over, rfR_over _ _, _, rfl, a, T.c_Ratio, dx, _, _, rfl, ha, T.cl_Ratio, T.n_Ratio_under, rfR_under _ _, _, _, rfl, rfl, sz_mul z2.1 z1.2 n0 n1, _, _, rfl, rfl, ?_⟩
    refine ⟨_, rfl, _, rfl, a, T.c_Ratio, dx, _, _, rfl, ha, T.cl_Ratio, T.n_Ratio_under, rfR_under _ _, _, rfl, b, T.c_Ratio, dy, _, _, rfl, hb, T.cl_Ratio, T.n_Ratio_under, rfR_under _ _, _, _, rfl, rfl, sz_mul z1.2 z2.2 n0 n1, ?_⟩
    refine mk_ratio hq hzq fun r p q H2 s2 R3 nf => k _ p q H2 (sm.trans s2) R3 nf
theorem ok_Ratio_mul (T : Ctx K mg) : FnOk P w K mg base CX0 7 T.f_Ratio_mul T.fd_Ratio_mul ["self", "other"] (spArith T.c_Ratio (fun p1 q1 p2 q2 => p1 * p2) (fun p1 q1 p2 q2 => q1 * q2)) := by
  refine T.F_Ratio_mul.ok sc_Ratio_mul (fun vs H Q E h => ?_) (fun cdv A outer s H vs Q E hr h => ?_)
  · obtain ⟨x, y, p1, q1, p2, q2, n, rfl, _⟩ := h
    rfl
  · obtain ⟨x, y, p1, q1, p2, q2, n, rfl, R, N, z1, z2, n0, n1, k⟩ := h
    refine ⟨_, (pss_cons (ps_set (i := 2) sc_Ratio_mul.nd rfl (Or.inl rfl) (pe_call (ok_ratio_of T) (hr.mono (by decide)) (by rfl) T.g_ratio_of T.F_ratio_of.kp T.b_ratio_of .nil pass0 (pa_cons (pv 1) pa_nil)))
      (pss_cons (ps_if (pt_cmpR op_isN (pv 2) pe_non (nomark _))
        (pss_one ps_never)
        pss_nil)
      (pss_one (ps_ret (pe_make T.M_Ratio (ok_Ratio_init T) (hr.mono (by decide)) (by rfl) T.gc_Ratio T.b_Ratio_init2 T.v_Ratio_init2 passL (pa_cons (pe_op op_mulW (pe_fld (pv 0) rfl) (pe_fld (pv 2) rfl)) (pa_cons (pe_op op_mulW (pe_fld (pv 0) rfl) (pe_fld (pv 2) rfl)) pa_nil))))))), ?_⟩
    refine ⟨_, rfl, y, p2, q2, rfl, N, fun r H' sm R2 => ?_⟩
    have R1 := R.same sm
    have hq : q1 * q2 ≠ 0 := Int.mul_ne_zero (by have := R.pos; omega) (by have := N.pos; omega)
    have hzq : (q1 * q2).natAbs.log2 < 9000 := sz_log (wide_lt z1.2 z2.2) (by omega) (by omega)
    obtain ⟨⟨b, dy, rfl, hb⟩, _⟩ := id R2
    obtain ⟨⟨a, dx, rfl, ha⟩, _⟩ := id R1
    refine ⟨_, rfl, rfl, _, rfl, iteF ?_⟩
    refine ⟨_, rfl, a, T.c_Ratio, dx, _, _, rfl, ha, T.cl_Ratio, T.n_Ratio_over, rfR_over _ _, _, rfl, b, T.c_Ratio, dy, _, _, rfl, hb, T.cl_Ratio, T.n_Ratio_over, rfR_over _ _, _, _, rfl, rfl, sz_mul z1.1 z2.1 n0 n1, ?_⟩
    refine ⟨_, rfl, a, T.c_Ratio, dx, _, _, rfl, ha, T.cl_Ratio, T.n_Ratio_under, rfR_under _ _, _, rfl, b, T.c_Ratio, dy, _, _, rfl, hb, T.cl_Ratio, T.n_Ratio_under, rfR_under _ _, _, _, rfl, rfl, sz_mul z1.2 z2.2 n0 n1, ?_⟩
    refine mk_ratio hq hzq fun r p q H2 s2 R3 nf => k _ p q H2 (sm.trans s2) R3 nf
theorem ok_Ratio_radd (T : Ctx K mg) : FnOk P w K mg base CX0 8 T.f_Ratio_radd T.fd_Ratio_radd ["self", "other"] (spArithI T.c_Ratio (fun p1 q1 p2 q2 => p1 * q2 + p2 * q1) (fun p1 q1 p2 q2 => q1 * q2)) := by
  refine T.F_Ratio_radd.ok sc_Ratio_radd (fun vs H Q E h => ?_) (fun cdv A outer s H vs Q E hr h => ?_)
  · obtain ⟨_, _, x, y, p1, q1, p2, q2, n, rfl, _⟩ := h
    rfl
  · obtain ⟨m, hm, x, y, p1, q1, p2, q2, n, rfl, R, N, z1, z2, n0, n1, k⟩ := h
    obtain rfl : y = .int m := Option.some.inj hm
    refine ⟨_, (pss_one (ps_ret (pe_op (op_ownI T.oc_Ratio T.oh_Ratio_add T.me_Ratio_add.fn T.oh_Ratio_radd (.inr ⟨_, rfl⟩) T.ih_add T.ihr_add (ok_Ratio_add T) (hr.mono (by decide)) T.b_Ratio_add pass0) (pv 0) (pv 1)))), ?_⟩
    exact ⟨_, rfl, _, rfl, R.isC, ⟨m, rfl⟩, x, _, p1, q1, p2, q2, n, rfl, R, N, z1, z2, n0, n1, k⟩
theorem ok_Ratio_rmul (T : Ctx K mg) : FnOk P w K mg base CX0 8 T.f_Ratio_rmul T.fd_Ratio_rmul ["self", "other"] (spArithI T.c_Ratio (fun p1 q1 p2 q2 => p1 * p2) (fun p1 q1 p2 q2 => q1 * q2)) := by
  refine T.F_Ratio_rmul.ok sc_Ratio_rmul (fun vs H Q E h => ?_) (fun cdv A outer s H vs Q E hr h => ?_)
  · obtain ⟨_, _, x, y, p1, q1, p2, q2, n, rfl, _⟩ := h
    rfl
  · obtain ⟨m, hm, x, y, p1, q1, p2, q2, n, rfl, R, N, z1, z2, n0, n1, k⟩ := h
    obtain rfl : y = .int m := Option.some.inj hm
    refine ⟨_, (pss_one (ps_ret (pe_op (op_ownI T.oc_Ratio T.oh_Ratio_mul T.me_Ratio_mul.fn T.oh_Ratio_rmul (.inr ⟨_, rfl⟩) T.ih_mul T.ihr_mul (ok_Ratio_mul T) (hr.mono (by decide)) T.b_Ratio_mul pass0) (pv 0) (pv 1)))), ?_⟩
    exact ⟨_, rfl, _, rfl, R.isC, ⟨m, rfl⟩, x, _, p1, q1, p2, q2, n, rfl, R, N, z1, z2, n0, n1, k⟩
theorem ok_Ratio_rsub (T : Ctx K mg) : FnOk P w K mg base CX0 8 T.f_Ratio_rsub T.fd_Ratio_rsub ["self", "other"] (spArithI T.c_Ratio (fun p1 q1 p2 q2 => p2 * q1 - p1 * q2) (fun p1 q1 p2 q2 => q2 * q1)) := by
  refine T.F_Ratio_rsub.ok sc_Ratio_rsub (fun vs H Q E h => ?_) (fun cdv A outer s H vs Q E hr h => ?_)
  · obtain ⟨_, _, x, y, p1, q1, p2, q2, n, rfl, _⟩ := h
    rfl
  · obtain ⟨m, hm, x, y, p1, q1, p2, q2, n, rfl, R, N, z1, z2, n0, n1, k⟩ := h
    refine ⟨_, (pss_cons (ps_set (i := 2) sc_Ratio_rsub.nd rfl (Or.inl rfl) (pe_call (ok_ratio_of T) (hr.mono (by decide)) (by rfl) T.g_ratio_of T.F_ratio_of.kp T.b_ratio_of .nil pass0 (pa_cons (pv 1) pa_nil)))
      (pss_cons (ps_if (pt_cmpR op_isN (pv 2) pe_non (nomark _))
        (pss_one ps_never)
        pss_nil)
      (pss_one (ps_ret (pe_op (op_ownB T.oc_Ratio T.oh_Ratio_sub T.me_Ratio_sub.fn (ok_Ratio_sub T) (hr.mono (by decide)) T.b_Ratio_sub pass0) (pv 2) (pv 0)))))), ?_⟩
    refine ⟨_, rfl, y, p2, q2, rfl, N, fun r H' sm R2 => ?_⟩
    have R1 := R.same sm
    obtain ⟨⟨b, dy, rfl, hb⟩, _⟩ := id R2
    refine ⟨_, rfl, rfl, _, rfl, iteF ?_⟩
    exact ⟨_, rfl, _, rfl, R2.isC, R1.isC, _, x, p2, q2, p1, q1, n, rfl, R2, .rat R1, z2, z1, n0, n1, fun r p q H2 s2 R3 nf => k r p q H2 (sm.trans s2) R3 nf⟩
theorem ok_Ratio_divided (T : Ctx K mg) : FnOk P w K mg base (L2.CX P w) 7 T.f_Ratio_divided T.fd_Ratio_divided ["self", "other"] (spDiv T.c_Ratio T.c_BadNumber) := by
  refine T.F_Ratio_divided.okX sc_Ratio_divided (fun vs H Q E h => ?_) (fun cdv A outer s H vs Q E hr h => ?_)
  · obtain ⟨x, y, p1, q1, p2, q2, n, rfl, _⟩ := h
    rfl
  · obtain ⟨x, y, p1, q1, p2, q2, n, rfl, R, N, z1, z2, n0, n1, k, ke⟩ := h
    refine ⟨_, (pss_cons (ps_set (i := 2) sc_Ratio_divided.nd rfl (Or.inl rfl) (pe_call (ok_ratio_of T) (hr.mono (by decide)) (by rfl) T.g_ratio_of T.F_ratio_of.kp T.b_ratio_of .nil pass0 (pa_cons (pv 1) pa_nil)))
      (pss_cons (ps_if (pt_cmpR op_isN (pv 2) pe_non (nomark _))
        (pss_one (ps_raise rfl (takes_of rfl rfl rfl rfl) (pmk_oex T.ox_BadNumber T.xn_BadNumber T.xt_BadNumber (ok_BadNumber_init T) (hr.mono (by decide)) T.b_BadNumber_init .nil pass0 (by rfl) T.gc_BadNumber (pa_cons pe_str (pa_cons (pv 1) pa_nil)))))
        pss_nil)
      (pss_one (ps_ret (pe_make T.M_Ratio (ok_Ratio_init T) (hr.mono (by decide)) (by rfl) T.gc_Ratio T.b_Ratio_init2 T.v_Ratio_init2 (passes_call (takes_of rfl rfl rfl rfl) (fun _ _ _ _ h => h)) (pa_cons (pe_op op_mulW (pe_fld (pv 0) rfl) (pe_fld (pv 2) rfl)) (pa_cons (pe_op op_mulW (pe_fld (pv 0) rfl) (pe_fld (pv 2) rfl)) pa_nil))))))), ?_⟩
    refine ⟨_, rfl, y, p2, q2, rfl, N, fun r H' sm R2 => ?_⟩
    have R1 := R.same sm
    have hq1 : q1 ≠ 0 := by have := R.pos; omega
    obtain ⟨⟨b, dy, rfl, hb⟩, _⟩ := id R2
    obtain ⟨⟨a, dx, rfl, ha⟩, _⟩ := id R1
    refine ⟨_, rfl, rfl, _, rfl, iteF ?_⟩
    refine ⟨_, rfl, a, T.c_Ratio, dx, _, _, rfl, ha, T.cl_Ratio, T.n_Ratio_over, rfR_over _ _, _, rfl, b, T.c_Ratio, dy, _, _, rfl, hb, T.cl_Ratio, T.n_Ratio_under, rfR_under _ _, _, _, rfl, rfl, sz_mul z1.1 z2.2 n0 n1, ?_⟩
    refine ⟨_, rfl, a, T.c_Ratio, dx, _, _, rfl, ha, T.cl_Ratio, T.n_Ratio_under, rfR_under _ _, _, rfl, b, T.c_Ratio, dy, _, _, rfl, hb, T.cl_Ratio, T.n_Ratio_over, rfR_over _ _, _, _, rfl, rfl, sz_mul z1.2 z2.1 n0 n1, ?_⟩
    refine mk_ratioE (sz_log (wide_lt z1.2 z2.1) (by omega) (by omega)) (fun hU r p q H2 s2 R3 nf => k (fun z => hU (by rw [z, Int.mul_zero])) _ p q H2 (sm.trans s2) R3 nf) fun hU d H2 nd s2 hx => ke ?_ d H2 (sm.free nd) (sm.trans s2) hx
    rcases Int.mul_eq_zero.mp hU with z | z
    · exact absurd z hq1
    · exact z
end

/-- value.over * under == over * value.under: true here -/
def spIs (C : Addr) : Sp := fun vs H Q _ => ∃ (v : V) (O U O' U' : Int) (n : Nat), vs = [v, .int O', .int U'] ∧ Rp C H v O U n ∧ O * U' = O' * U ∧ O'.natAbs < 2 ^ n ∧ U'.natAbs < 2 ^ n ∧ n ≤ 4000 ∧ Q (.bl true) H
def zeroD : PyData := .tuple [.str "under", .int 0]
theorem shaped_zero : SeqAt.shaped zeroD = true := by decide +kernel
/-- divided by nought -/
def spDivided (K : PySem.W.Frag) (C : Addr) : Sp := fun vs H Q _ => ∃ (x y : V) (O U : Int) (n : Nat), vs = [x, y] ∧ Rp C H x O U n ∧ n ≤ 2000 ∧ (y = .int 0 ∨ ∃ U2, Rp C H y 0 U2 n) ∧ ∀ r H', Same H H' → Dp K H' r zeroD → Q r H'
/-- terms of a drawn fraction -/
def Tm (a b : Int) : Prop := -30 ≤ a ∧ a ≤ 30 ∧ 1 ≤ b ∧ b ≤ 30
theorem tm_mul {a b : Int} (ha : a.natAbs ≤ 30) (hb : b.natAbs ≤ 30) : (a * b).natAbs ≤ 900 := by
  rw [Int.natAbs_mul]
  exact Nat.mul_le_mul ha hb
def spPair (C : Addr) : Sp := fun vs H Q _ => ∃ (x y : V) (a b c d : Int), vs = [x, y, .int a, .int b, .int c, .int d] ∧ Rp C H x a b 5 ∧ Rp C H y c d 5 ∧ Tm a b ∧ Tm c d ∧ ∀ H', Same H H' → Q (.bl true) H'
def spInteger (C : Addr) : Sp := fun vs H Q _ => ∃ (x : V) (a b n : Int), vs = [x, .int a, .int b, .int n] ∧ Rp C H x a b 5 ∧ Tm a b ∧ -10 ≤ n ∧ n ≤ 10 ∧ ∀ H', Same H H' → Q (.bl true) H'
theorem st_meth {C : Addr} {H : Hp} {v : V} {O U : Int} {n : Nat} {m : Str} {R : Prop} (r : Rp C H v O U n) (h1 : ¬ m = "under") (h2 : ¬ m = "over") (k : R) : ∃ a dx fs, v = .ref a ∧ H a = some (.ins C dx fs) ∧ fs.lookup m = none ∧ R := by
  obtain ⟨a, dx, p, q, e, h⟩ := r.obj
  exact ⟨a, dx, _, e, h, rfR_no _ _ h1 h2, k⟩
theorem div_no1 : ¬ (("divided" : Str) = "under") := by decide +kernel
theorem div_no2 : ¬ (("divided" : Str) = "over") := by decide +kernel
/-- the list of the terms -/
def TL (H : Hp) (tl : Addr) (ts : List (Int × Int)) : Prop := ∃ vs : List V, H tl = some (.lst vs) ∧ vs.length = ts.length ∧ ∀ (j : Nat) (p : Int × Int), ts[j]? = some p → ∃ a : Addr, vs[j]? = some (V.ref a) ∧ H a = some (.tup [.int p.1, .int p.2])
theorem TL.same {H H' : Hp} {tl : Addr} {ts : List (Int × Int)} (h : TL H tl ts) (e : Same H H') : TL H' tl ts := by
  obtain ⟨vs, h1, h2, h3⟩ := h
  refine ⟨vs, e _ _ h1, h2, fun j p hp => ?_⟩
  obtain ⟨a, h4, h5⟩ := h3 j p hp
  exact ⟨a, h4, e _ _ h5⟩
theorem TL.but {H H' : Hp} {tl t : Addr} {ts : List (Int × Int)} (h : TL H tl ts) (ht : St4 H t) (ne : tl ≠ t) (b : But t H H') : TL H' tl ts := by
  obtain ⟨vs, h1, h2, h3⟩ := h
  obtain ⟨_, _, _, _, h0⟩ := ht
  refine ⟨vs, (b tl ne).trans h1, h2, fun j p hp => ?_⟩
  obtain ⟨a, h4, h5⟩ := h3 j p hp
  exact ⟨a, h4, (b a (ne_of h5 h0 (by intro z; cases z))).trans h5⟩
/-- one more -/
theorem TL.push {H : Hp} {tl T : Addr} {ts : List (Int × Int)} {vs : List V} {p : Int × Int} (h1 : H tl = some (.lst vs)) (h : TL H tl ts) (hT : H T = some (.tup [.int p.1, .int p.2])) : TL (upd H tl (.lst (vs ++ [V.ref T]))) tl (ts ++ [p]) := by
  obtain ⟨vs', h1', h2, h3⟩ := h
  rw [h1] at h1'
  cases h1'
  have ne : ∀ a xs, H a = some (.tup xs) → a ≠ tl := fun a xs e => ne_of e h1 (by intro z; cases z)
  refine ⟨_, upd_same, by simp [h2], fun j q hq => ?_⟩
  by_cases hj : j < ts.length
  · rw [List.getElem?_append_left hj] at hq
    obtain ⟨a, h4, h5⟩ := h3 j q hq
    exact ⟨a, by rw [List.getElem?_append_left (by omega)]; exact h4, by rw [upd_ne (ne _ _ h5)]; exact h5⟩
  · have hj2 : j = ts.length := by
      have := (List.getElem?_eq_some_iff.mp hq).1
      simp at this
      omega
    subst hj2
    simp at hq
    subst hq
    exact ⟨T, by rw [← h2]; simp, by rw [upd_ne (ne _ _ hT)]; exact hT⟩
/-- the list of the ratios made of them -/
def ML (C : Addr) (H : Hp) (ml : Addr) (ts : List (Int × Int)) : Prop := ∃ rs : List V, H ml = some (.lst rs) ∧ rs.length = ts.length ∧ ∀ (j : Nat) (p : Int × Int), ts[j]? = some p → ∃ r, rs[j]? = some r ∧ Rp C H r p.1 p.2 5
theorem ML.same {C : Addr} {H H' : Hp} {ml : Addr} {ts : List (Int × Int)} (h : ML C H ml ts) (e : Same H H') : ML C H' ml ts := by
  obtain ⟨vs, h1, h2, h3⟩ := h
  refine ⟨vs, e _ _ h1, h2, fun j p hp => ?_⟩
  obtain ⟨a, h4, h5⟩ := h3 j p hp
  exact ⟨a, h4, h5.same e⟩
theorem ML.but {C : Addr} {H H' : Hp} {ml t : Addr} {ts : List (Int × Int)} (h : ML C H ml ts) (ht : St4 H t) (ne : ml ≠ t) (b : But t H H') : ML C H' ml ts := by
  obtain ⟨vs, h1, h2, h3⟩ := h
  obtain ⟨_, _, _, _, h0⟩ := ht
  refine ⟨vs, (b ml ne).trans h1, h2, fun j p hp => ?_⟩
  obtain ⟨r, h4, q1, q2, ⟨⟨a, dx, rfl, h5⟩, h6, h7⟩, h8⟩ := h3 j p hp
  exact ⟨_, h4, q1, q2, ⟨⟨a, dx, rfl, (b a (ne_of h5 h0 (by intro z; cases z))).trans h5⟩, h6, h7⟩, h8⟩
def spLaw (K : PySem.W.Frag) : Sp := fun vs H Q _ => ∃ (a : Addr) (ns : List Int), vs = [.ref a] ∧ SqL K H a (ns.map V.int) ∧ ns.length ≤ 63 ∧ ∀ H', Q (.bl true) H'
section
variable {P : Program} {w : World} {K : PySem.W.Frag} {mg : Str → Option Value} {base : Heap}
theorem ok_l_is (T : Ctx K mg) : FnOk P w K mg base CX0 1 T.f_l_is T.fd_l_is ["_law_value", "_law_over", "_law_under"] (spIs T.c_Ratio) := by
  refine T.F_l_is.ok sc_l_is (fun vs H Q E h => ?_) (fun cdv A outer s H vs Q E hr h => ?_)
  · obtain ⟨v, O, U, O', U', n, rfl, _⟩ := h
    rfl
  · obtain ⟨v, O, U, O', U', n, rfl, R, e, z1, z2, hn, k⟩ := h
    refine ⟨_, (Evl.pss_cut (ps_if (PW.pt (pw_or (pt_not (pt_val (pe_callB call_isi (by rfl) T.m_isinstance (by decide +kernel) (pa_cons (pv 0) (pa_cons (pe_glob (v := .ref T.c_Ratio) (by rfl) T.gc_Ratio rfl) pa_nil))))) (pw_or1 (pt_cmpR op_lt (pe_fld (pv 0) rfl) pe_int (nomark _)))))
        (pss_one (ps_ret pe_bl))
        pss_nil)
      (pss_one (ps_ret (pe_cmpR op_eq (pe_op op_mulW (pe_fld (pv 0) rfl) (pv 2)) (pe_op op_mulW (pv 1) (pe_fld (pv 0) rfl)) (nomark _))))), ?_⟩
    obtain ⟨p, q, R, e1, u1, z3, n0⟩ := R
    obtain ⟨⟨a, dx, rfl, ha⟩, _⟩ := id R
    refine ⟨fun σ' H' => H' = H ∧ σ' = [some (.ref a), some (.int O'), some (.int U')], ?_, ?_⟩
    · refine ⟨_, rfl, _, _, _, _, true, rfl, .own _, R.ty T.ic_Ratio, T.ki_Ratio_Ratio, true, rfl, iteF ?_⟩
      refine ⟨_, rfl, a, T.c_Ratio, dx, _, _, rfl, ha, T.cl_Ratio, T.n_Ratio_under, rfR_under _ _, _, _, rfl, rfl, _, rfl, ite2 (fun h => ?_) fun h => ⟨rfl, rfl⟩⟩
      have := of_decide_eq_true h
      have := R.pos
      omega
    · rintro σ' H' ⟨rfl, rfl⟩
      refine ⟨_, rfl, a, T.c_Ratio, dx, _, _, rfl, ha, T.cl_Ratio, T.n_Ratio_over, rfR_over _ _, _, rfl, _, _, rfl, rfl, sz_mul z3.1 z2 n0 hn, ?_⟩
      refine ⟨_, rfl, _, rfl, a, T.c_Ratio, dx, _, _, rfl, ha, T.cl_Ratio, T.n_Ratio_under, rfR_under _ _, _, _, rfl, rfl, sz_mul z1 z3.2 n0 hn, rfl, ?_⟩
      have : p * U' = O' * q := Int.eq_of_mul_eq_mul_right u1 (by grind)
      show Q (V.bl (decide (V.int (p * U') = V.int (O' * q)))) _
      rw [this]
      simpa using k
theorem ok_l_divided (T : Ctx K mg) : FnOk P w K mg base CX0 8 T.f_l_divided T.fd_l_divided ["_law_value", "_law_other"] (spDivided K T.c_Ratio) := by
  refine T.F_l_divided.ok sc_l_divided (fun vs H Q E h => ?_) (fun cdv A outer s H vs Q E hr h => ?_)
  · obtain ⟨x, y, O, U, n, rfl, _⟩ := h
    rfl
  · obtain ⟨x, y, O, U, n, rfl, R, hn, hy, k⟩ := h
    refine ⟨_, (pss_one (ps_try_as (i := 2) (Wout := fun _ _ _ _ => False) rfl rfl sc_l_divided.nd rfl rfl ⟨rfl, by decide, Or.inl T.gc_BadNumber⟩ takes0
        (fun W pn xe tk po => (pss_one (ps_ret (pe_meth (pv 0) T.cl_Ratio T.me_Ratio_divided (ok_Ratio_divided T) (hr.mono (by decide)) T.b_Ratio_divided .nil (passLenN (n := 3) tk rfl) (pa_cons (pv 1) pa_nil)))))
        (fun a oe cls d pn hz hf => (pss_one (ps_ret (pe_tup (pa_cons (pe_xf T.xf_BadNumber T.n_BadNumber_what hz hf (pv 2)) (pa_cons (pe_xf T.xf_BadNumber T.n_BadNumber_value hz hf (pv 2)) pa_nil)))))))), ?_⟩
    refine ⟨_, rfl, st_meth R div_no1 div_no2 ⟨_, rfl, ?_⟩⟩
    obtain ⟨p, q, R, e1, u1, z1, n0⟩ := R
    have fin : ∀ d H', H d = none → Same H H' → H' d = some (.xd [("value", .int 0), ("what", .str "under")]) → ∀ σ : L2.St, σ.length = 3 → wAs K (.ref T.c_BadNumber) 2 (fun a cls d => tRet (tTup (tCons (tXf a cls d T.c_BadNumber "what" (tVar 2)) (tCons (tXf a cls d T.c_BadNumber "value" (tVar 2)) tNil)))) (fun _ _ _ _ => False) { nx := fun _ H' => Q .non H', rt := Q } (.ref T.c_BadNumber) (some d) σ H' := fun d H' nd sm hx σ hσ => by
      refine ⟨true, T.ex_BadNumber_BadNumber, fun _ a na => ?_, fun z => nomatch z⟩
      have h2 : (σ.set 2 (some (V.ref a)))[2]? = some (some (V.ref a)) := List.getElem?_set_self (by omega)
      refine ⟨_, h2, rfl, rfl, d, _, _, rfl, hx, rfl, _, h2, rfl, rfl, d, _, _, rfl, hx, rfl, (by show 2 ≤ sizeLine; decide), fun t ht => ?_⟩
      exact k _ _ (same_upd2 sm (sm.free ht)) (.tup (.inl (.inl upd_same)) (.cons (.str _) (.cons (.int _) .nil)))
    rcases hy with rfl | ⟨U2, p2, q2, R2, e2, u2, z2, _⟩
    · exact ⟨x, _, p, q, 0, 1, n, rfl, R, .int 0, z1, ⟨Nat.pow_pos (by decide), Nat.one_lt_two_pow (by omega)⟩, n0, by omega, fun z => absurd rfl z, fun _ d H' nd sm hx σ hσ => fin d H' nd sm hx σ hσ⟩
    · have hp : p2 = 0 := by
        rw [Int.zero_mul] at e2
        rcases Int.mul_eq_zero.mp e2 with z | z
        · exact z
        · exact absurd z u2
      exact ⟨x, y, p, q, p2, q2, n, rfl, R, .rat R2, z1, z2, n0, by omega, fun z => absurd hp z, fun _ d H' nd sm hx σ hσ => fin d H' nd sm hx σ hσ⟩
theorem ok_l_pair_holds (T : Ctx K mg) : FnOk P w K mg base CX0 9 T.f_l_pair_holds T.fd_l_pair_holds ["_law_one", "_law_two", "_law_a", "_law_b", "_law_c", "_law_d"] (spPair T.c_Ratio) := by
  refine T.F_l_pair_holds.ok sc_l_pair_holds (fun vs H Q E h => ?_) (fun cdv A outer s H vs Q E hr h => ?_)
  · obtain ⟨x, y, a, b, c, d, rfl, _⟩ := h
    rfl
  · obtain ⟨x, y, a, b, c, d, rfl, R1, R2, ⟨t1, t2, t3, t4⟩, ⟨t5, t6, t7, t8⟩, k⟩ := h
    refine ⟨_, (Evl.pss_cut (ps_if (PW.pt (pw_or (pt_not (pt_val (pe_call (ok_l_is T) (hr.mono (by decide)) (by rfl) T.g_l_is T.F_l_is.kp T.b_l_is .nil pass0 (pa_cons (pe_op (op_ownB T.oc_Ratio T.oh_Ratio_add T.me_Ratio_add.fn (ok_Ratio_add T) (hr.mono (by decide)) T.b_Ratio_add pass0) (pv 0) (pv 1)) (pa_cons (pe_op op_add (pe_op op_mul (pv 2) (pv 5)) (pe_op op_mul (pv 4) (pv 3))) (pa_cons (pe_op op_mul (pv 3) (pv 5)) pa_nil)))))) (pw_or1 (pt_not (pt_val (pe_call (ok_l_is T) (hr.mono (by decide)) (by rfl) T.g_l_is T.F_l_is.kp T.b_l_is .nil pass0 (pa_cons (pe_op (op_ownB T.oc_Ratio T.oh_Ratio_sub T.me_Ratio_sub.fn (ok_Ratio_sub T) (hr.mono (by decide)) T.b_Ratio_sub pass0) (pv 0) (pv 1)) (pa_cons (pe_op op_sub (pe_op op_mul (pv 2) (pv 5)) (pe_op op_mul (pv 4) (pv 3))) (pa_cons (pe_op op_mul (pv 3) (pv 5)) pa_nil)))))))))
        (pss_one (ps_ret pe_bl))
        pss_nil)
      (Evl.pss_cut (ps_if (PW.pt (pw_or (pt_not (pt_val (pe_call (ok_l_is T) (hr.mono (by decide)) (by rfl) T.g_l_is T.F_l_is.kp T.b_l_is .nil pass0 (pa_cons (pe_op (op_ownB T.oc_Ratio T.oh_Ratio_mul T.me_Ratio_mul.fn (ok_Ratio_mul T) (hr.mono (by decide)) T.b_Ratio_mul pass0) (pv 0) (pv 1)) (pa_cons (pe_op op_mul (pv 2) (pv 4)) (pa_cons (pe_op op_mul (pv 3) (pv 5)) pa_nil)))))) (pw_or (pt_cmpR (op_ownNe T.oc_Ratio T.me_Ratio_eq.at_ T.me_Ratio_eq.fn (ok_Ratio_eq T) (hr.mono (by decide)) T.b_Ratio_eq pass0) (pe_op (op_ownB T.oc_Ratio T.oh_Ratio_add T.me_Ratio_add.fn (ok_Ratio_add T) (hr.mono (by decide)) T.b_Ratio_add pass0) (pv 0) (pv 1)) (pe_op (op_ownB T.oc_Ratio T.oh_Ratio_add T.me_Ratio_add.fn (ok_Ratio_add T) (hr.mono (by decide)) T.b_Ratio_add pass0) (pv 1) (pv 0)) (nomark _)) (pw_or1 (pt_cmpR (op_ownNe T.oc_Ratio T.me_Ratio_eq.at_ T.me_Ratio_eq.fn (ok_Ratio_eq T) (hr.mono (by decide)) T.b_Ratio_eq pass0) (pe_op (op_ownB T.oc_Ratio T.oh_Ratio_mul T.me_Ratio_mul.fn (ok_Ratio_mul T) (hr.mono (by decide)) T.b_Ratio_mul pass0) (pv 0) (pv 1)) (pe_op (op_ownB T.oc_Ratio T.oh_Ratio_mul T.me_Ratio_mul.fn (ok_Ratio_mul T) (hr.mono (by decide)) T.b_Ratio_mul pass0) (pv 1) (pv 0)) (nomark _))))))
        (pss_one (ps_ret pe_bl))
        pss_nil)
      (pss_cons (ps_if (pt_cmpR op_eq (pv 4) pe_int (nomark _))
        (pss_one (ps_ret (pe_and (pe_cmpR (op_eqD hr.units) (pe_call (ok_l_divided T) (hr.mono (by decide)) (by rfl) T.g_l_divided T.F_l_divided.kp T.b_l_divided .nil pass0 (pa_cons (pv 0) (pa_cons (pv 1) pa_nil))) (pe_tup (pa_cons pe_str (pa_cons pe_int pa_nil))) (nomark _)) (pe_one (pe_cmpR (op_ownC (fun _ _ => rfl) T.me_Ratio_eq.at_ T.me_Ratio_eq.fn (ok_Ratio_eq T) (hr.mono (by decide)) T.b_Ratio_eq pass0) (pe_op (op_ownB T.oc_Ratio T.oh_Ratio_add T.me_Ratio_add.fn (ok_Ratio_add T) (hr.mono (by decide)) T.b_Ratio_add pass0) (pv 0) (pv 1)) (pv 0) (nomark _))))))
        pss_nil)
      (pss_cons (ps_if (pt_not (pt_val (pe_call (ok_l_is T) (hr.mono (by decide)) (by rfl) T.g_l_is T.F_l_is.kp T.b_l_is .nil pass0 (pa_cons (pe_meth (pv 0) T.cl_Ratio T.me_Ratio_divided (ok_Ratio_divided T) (hr.mono (by decide)) T.b_Ratio_divided .nil passL (pa_cons (pv 1) pa_nil)) (pa_cons (pe_op op_mul (pv 2) (pv 5)) (pa_cons (pe_op op_mul (pv 3) (pv 4)) pa_nil))))))
        (pss_one (ps_ret (pe_and (pe_cmpR op_lt (pv 4) pe_int (nomark _)) (pe_one (pe_call (ok_l_is T) (hr.mono (by decide)) (by rfl) T.g_l_is T.F_l_is.kp T.b_l_is .nil pass0 (pa_cons (pe_meth (pv 0) T.cl_Ratio T.me_Ratio_divided (ok_Ratio_divided T) (hr.mono (by decide)) T.b_Ratio_divided .nil passL (pa_cons (pv 1) pa_nil)) (pa_cons (pe_op op_mul (pe_un un_neg (pv 2)) (pv 5)) (pa_cons (pe_op op_mul (pe_un un_neg (pv 3)) (pv 4)) pa_nil))))))))
        pss_nil)
      (pss_one (ps_ret (pe_and (pe_cmpR (op_ownC (fun _ _ => rfl) T.me_Ratio_eq.at_ T.me_Ratio_eq.fn (ok_Ratio_eq T) (hr.mono (by decide)) T.b_Ratio_eq pass0) (pe_meth (pe_op (op_ownB T.oc_Ratio T.oh_Ratio_mul T.me_Ratio_mul.fn (ok_Ratio_mul T) (hr.mono (by decide)) T.b_Ratio_mul pass0) (pv 0) (pv 1)) T.cl_Ratio T.me_Ratio_divided (ok_Ratio_divided T) (hr.mono (by decide)) T.b_Ratio_divided .nil passL (pa_cons (pv 1) pa_nil)) (pv 0) (nomark _)) (pe_one (pe_cmpR (op_ownC (fun _ _ => rfl) T.me_Ratio_eq.at_ T.me_Ratio_eq.fn (ok_Ratio_eq T) (hr.mono (by decide)) T.b_Ratio_eq pass0) (pe_op (op_ownB T.oc_Ratio T.oh_Ratio_sub T.me_Ratio_sub.fn (ok_Ratio_sub T) (hr.mono (by decide)) T.b_Ratio_sub pass0) (pe_op (op_ownB T.oc_Ratio T.oh_Ratio_add T.me_Ratio_add.fn (ok_Ratio_add T) (hr.mono (by decide)) T.b_Ratio_add pass0) (pv 0) (pv 1)) (pv 1)) (pv 0) (nomark _)))))))))), ?_⟩
    have had := tm_mul (a := a) (b := d) (by omega) (by omega)
    have hcb := tm_mul (a := c) (b := b) (by omega) (by omega)
    have hbd := tm_mul (a := b) (b := d) (by omega) (by omega)
    have hac := tm_mul (a := a) (b := c) (by omega) (by omega)
    have hbc := tm_mul (a := b) (b := c) (by omega) (by omega)
    have cm : ∀ x y : Int, x.natAbs ≤ 30 → CMul x y := fun x y h => .inl ⟨by omega, by omega⟩
    refine ⟨fun σ' H' => σ' = [some x, some y, some (.int a), some (.int b), some (.int c), some (.int d)] ∧ Same H H', ?_, ?_⟩
    · refine ⟨_, rfl, _, rfl, st_add R1 R2 (by decide) fun r H1 s1 R3 => ?_⟩
      refine ⟨_, rfl, _, rfl, _, _, rfl, rfl, cm _ _ (by omega), _, rfl, _, rfl, _, _, rfl, rfl, cm _ _ (by omega), _, _, rfl, rfl, _, rfl, _, rfl, _, _, rfl, rfl, cm _ _ (by omega), ?_⟩
      refine ⟨r, _, _, _, _, 11, rfl, R3, rfl, by omega, by omega, by decide, _, rfl, iteF ?_⟩
      refine ⟨_, rfl, _, rfl, st_sub (R1.same s1) (R2.same s1) (by decide) fun r H2 s2 R3 => ?_⟩
      refine ⟨_, rfl, _, rfl, _, _, rfl, rfl, cm _ _ (by omega), _, rfl, _, rfl, _, _, rfl, rfl, cm _ _ (by omega), _, _, rfl, rfl, _, rfl, _, rfl, _, _, rfl, rfl, cm _ _ (by omega), ?_⟩
      exact ⟨r, _, _, _, _, 11, rfl, R3, rfl, by omega, by omega, by decide, _, rfl, iteF ⟨rfl, s1.trans s2⟩⟩
    · rintro σ' H1 ⟨rfl, s1⟩
      have R1 := R1.same s1
      have R2 := R2.same s1
      refine ⟨fun σ' H' => σ' = [some x, some y, some (.int a), some (.int b), some (.int c), some (.int d)] ∧ Same H1 H', ?_, ?_⟩
      · refine ⟨_, rfl, _, rfl, st_mul R1 R2 (by decide) fun r H2 s2 R3 => ?_⟩
        refine ⟨_, rfl, _, rfl, _, _, rfl, rfl, cm _ _ (by omega), _, rfl, _, rfl, _, _, rfl, rfl, cm _ _ (by omega), ?_⟩
        refine ⟨r, _, _, _, _, 11, rfl, R3, rfl, by omega, by omega, by decide, _, rfl, iteF ?_⟩
        refine ⟨_, rfl, _, rfl, st_add (R1.same s2) (R2.same s2) (by decide) fun r3 H3 s3 R3 => ?_⟩
        have s23 := s2.trans s3
        refine ⟨_, rfl, _, rfl, st_add (R2.same s23) (R1.same s23) (by decide) fun r4 H4 s4 R4 => ?_⟩
        refine st_neF T.ic_Ratio (R3.same s4) R4 (by grind) ⟨_, rfl, iteF ?_⟩
        have s24 := s23.trans s4
        refine ⟨_, rfl, _, rfl, st_mul (R1.same s24) (R2.same s24) (by decide) fun r5 H5 s5 R5 => ?_⟩
        have s25 := s24.trans s5
        refine ⟨_, rfl, _, rfl, st_mul (R2.same s25) (R1.same s25) (by decide) fun r6 H6 s6 R6 => ?_⟩
        exact st_neF T.ic_Ratio (R5.same s6) R6 (by grind) ⟨_, rfl, iteF ⟨rfl, s25.trans s6⟩⟩
      · rintro σ' H2 ⟨rfl, s2⟩
        have R1 := R1.same s2
        have R2 := R2.same s2
        have s12 := s1.trans s2
        refine ⟨_, rfl, rfl, _, rfl, ite2 (fun hc => ?_) fun hc => ?_⟩
        · -- c == 0
          have hc0 : c = 0 := by
            have e : V.int c = .int 0 := of_decide_eq_true hc
            injection e
          subst hc0
          refine ⟨_, rfl, _, rfl, x, y, a, b, 5, rfl, R1, by decide, .inr ⟨d, R2⟩, fun r H3 s3 dr => ?_⟩
          refine ⟨by show 2 ≤ sizeLine; decide, fun tz ntz => ?_⟩
          have s4 : Same H2 (upd H3 tz (.tup [.str "under", .int 0])) := same_upd2 s3 (s3.free ntz)
          refine ⟨zeroD, zeroD, dp_same (same_upd ntz) dr, .tup (.inl (.inl upd_same)) (.cons (.str _) (.cons (.int _) .nil)), shaped_zero, shaped_zero, true, congrArg V.bl (eq_self shaped_zero), iteT ?_⟩
          refine ⟨_, rfl, _, rfl, st_add (R1.same s4) (R2.same s4) (by decide) fun r5 H5 s5 R5 => ?_⟩
          exact ⟨_, rfl, st_eqT T.ic_Ratio R5 (R1.same (s4.trans s5)) (by grind) (k _ (s12.trans (s4.trans s5)))⟩
        · have hc0 : c ≠ 0 := fun z => hc (decide_eq_true (by rw [z]))
          -- divided
          refine ⟨_, rfl, st_meth R1 div_no1 div_no2 ⟨_, rfl, st_div R1 R2 hc0 (by decide) fun r3 H3 s3 R3 => ?_⟩⟩
          refine ⟨_, rfl, _, rfl, _, _, rfl, rfl, cm _ _ (by omega), _, rfl, _, rfl, _, _, rfl, rfl, cm _ _ (by omega), ?_⟩
          refine ⟨r3, _, _, _, _, 10, rfl, R3, rfl, by omega, by omega, by decide, _, rfl, iteF ?_⟩
          have R1 := R1.same s3
          have R2 := R2.same s3
          refine ⟨_, rfl, _, rfl, st_mul R1 R2 (by decide) fun r4 H4 s4 R4 => ?_⟩
          refine st_meth R4 div_no1 div_no2 ⟨_, rfl, st_div R4 ((R2.same s4).mono (by decide)) hc0 (by decide) fun r5 H5 s5 R5 => ?_⟩
          have s45 := s4.trans s5
          refine ⟨_, rfl, st_eqT T.ic_Ratio R5 (R1.same s45) (by grind) ⟨_, rfl, iteT ?_⟩⟩
          refine ⟨_, rfl, _, rfl, st_add (R1.same s45) (R2.same s45) (by decide) fun r6 H6 s6 R6 => ?_⟩
          have s46 := s45.trans s6
          refine ⟨_, rfl, st_sub R6 ((R2.same s46).mono (by decide)) (by decide) fun r7 H7 s7 R7 => ?_⟩
          exact ⟨_, rfl, st_eqT T.ic_Ratio R7 (R1.same (s46.trans s7)) (by grind) (k _ (s12.trans (s3.trans (s46.trans s7))))⟩
theorem ok_l_integer_holds (T : Ctx K mg) : FnOk P w K mg base CX0 9 T.f_l_integer_holds T.fd_l_integer_holds ["_law_one", "_law_a", "_law_b", "_law_n"] (spInteger T.c_Ratio) := by
  refine T.F_l_integer_holds.ok sc_l_integer_holds (fun vs H Q E h => ?_) (fun cdv A outer s H vs Q E hr h => ?_)
  · obtain ⟨x, a, b, n, rfl, _⟩ := h
    rfl
  · obtain ⟨x, a, b, n, rfl, R1, ⟨t1, t2, t3, t4⟩, t5, t6, k⟩ := h
    refine ⟨_, (Evl.pss_cut (ps_if (PW.pt (pw_or (pt_cmpR (op_ownNe T.oc_Ratio T.me_Ratio_eq.at_ T.me_Ratio_eq.fn (ok_Ratio_eq T) (hr.mono (by decide)) T.b_Ratio_eq pass0) (pe_op (op_ownI T.oc_Ratio T.oh_Ratio_add T.me_Ratio_add.fn T.oh_Ratio_radd (.inr ⟨_, rfl⟩) T.ih_add T.ihr_add (ok_Ratio_add T) (hr.mono (by decide)) T.b_Ratio_add pass0) (pv 0) (pv 3)) (pe_op (op_ownB T.oc_Ratio T.oh_Ratio_add T.me_Ratio_add.fn (ok_Ratio_add T) (hr.mono (by decide)) T.b_Ratio_add pass0) (pv 0) (pe_make T.M_Ratio (ok_Ratio_init T) (hr.mono (by decide)) (by rfl) T.gc_Ratio T.b_Ratio_init1 T.v_Ratio_init1 passL (pa_cons (pv 3) pa_nil))) (nomark _)) (pw_or (pt_cmpR (op_ownNe T.oc_Ratio T.me_Ratio_eq.at_ T.me_Ratio_eq.fn (ok_Ratio_eq T) (hr.mono (by decide)) T.b_Ratio_eq pass0) (pe_op (op_ownR T.oc_Ratio PySem.F.slot_int_add PySem.F.entry_int_add PySem.F.args_int_add_2 slotargs_add PySem.F.fills_int_add T.oh_Ratio_add T.oh_Ratio_radd T.me_Ratio_radd.fn (ok_Ratio_radd T) (hr.mono (by decide)) T.b_Ratio_radd pass0) (pv 3) (pv 0)) (pe_op (op_ownI T.oc_Ratio T.oh_Ratio_add T.me_Ratio_add.fn T.oh_Ratio_radd (.inr ⟨_, rfl⟩) T.ih_add T.ihr_add (ok_Ratio_add T) (hr.mono (by decide)) T.b_Ratio_add pass0) (pv 0) (pv 3)) (nomark _)) (pw_or (pt_cmpR (op_ownNe T.oc_Ratio T.me_Ratio_eq.at_ T.me_Ratio_eq.fn (ok_Ratio_eq T) (hr.mono (by decide)) T.b_Ratio_eq pass0) (pe_op (op_ownI T.oc_Ratio T.oh_Ratio_sub T.me_Ratio_sub.fn T.oh_Ratio_rsub (.inr ⟨_, rfl⟩) T.ih_sub T.ihr_sub (ok_Ratio_sub T) (hr.mono (by decide)) T.b_Ratio_sub pass0) (pv 0) (pv 3)) (pe_op (op_ownB T.oc_Ratio T.oh_Ratio_sub T.me_Ratio_sub.fn (ok_Ratio_sub T) (hr.mono (by decide)) T.b_Ratio_sub pass0) (pv 0) (pe_make T.M_Ratio (ok_Ratio_init T) (hr.mono (by decide)) (by rfl) T.gc_Ratio T.b_Ratio_init1 T.v_Ratio_init1 passL (pa_cons (pv 3) pa_nil))) (nomark _)) (pw_or1 (pt_cmpR (op_ownNe T.oc_Ratio T.me_Ratio_eq.at_ T.me_Ratio_eq.fn (ok_Ratio_eq T) (hr.mono (by decide)) T.b_Ratio_eq pass0) (pe_op (op_ownR T.oc_Ratio PySem.F.slot_int_sub PySem.F.entry_int_sub PySem.F.args_int_sub_2 slotargs_sub PySem.F.fills_int_sub T.oh_Ratio_sub T.oh_Ratio_rsub T.me_Ratio_rsub.fn (ok_Ratio_rsub T) (hr.mono (by decide)) T.b_Ratio_rsub pass0) (pv 3) (pv 0)) (pe_op (op_ownB T.oc_Ratio T.oh_Ratio_sub T.me_Ratio_sub.fn (ok_Ratio_sub T) (hr.mono (by decide)) T.b_Ratio_sub pass0) (pe_make T.M_Ratio (ok_Ratio_init T) (hr.mono (by decide)) (by rfl) T.gc_Ratio T.b_Ratio_init1 T.v_Ratio_init1 passL (pa_cons (pv 3) pa_nil)) (pv 0)) (nomark _)))))))
        (pss_one (ps_ret pe_bl))
        pss_nil)
      (Evl.pss_cut (ps_if (PW.pt (pw_or (pt_cmpR (op_ownNe T.oc_Ratio T.me_Ratio_eq.at_ T.me_Ratio_eq.fn (ok_Ratio_eq T) (hr.mono (by decide)) T.b_Ratio_eq pass0) (pe_op (op_ownI T.oc_Ratio T.oh_Ratio_mul T.me_Ratio_mul.fn T.oh_Ratio_rmul (.inr ⟨_, rfl⟩) T.ih_mul T.ihr_mul (ok_Ratio_mul T) (hr.mono (by decide)) T.b_Ratio_mul pass0) (pv 0) (pv 3)) (pe_op (op_ownB T.oc_Ratio T.oh_Ratio_mul T.me_Ratio_mul.fn (ok_Ratio_mul T) (hr.mono (by decide)) T.b_Ratio_mul pass0) (pv 0) (pe_make T.M_Ratio (ok_Ratio_init T) (hr.mono (by decide)) (by rfl) T.gc_Ratio T.b_Ratio_init1 T.v_Ratio_init1 passL (pa_cons (pv 3) pa_nil))) (nomark _)) (pw_or (pt_cmpR (op_ownNe T.oc_Ratio T.me_Ratio_eq.at_ T.me_Ratio_eq.fn (ok_Ratio_eq T) (hr.mono (by decide)) T.b_Ratio_eq pass0) (pe_op (op_ownR T.oc_Ratio PySem.F.slot_int_mul PySem.F.entry_int_mul PySem.F.args_int_mul_2 slotargs_mul PySem.F.fills_int_mul T.oh_Ratio_mul T.oh_Ratio_rmul T.me_Ratio_rmul.fn (ok_Ratio_rmul T) (hr.mono (by decide)) T.b_Ratio_rmul pass0) (pv 3) (pv 0)) (pe_op (op_ownI T.oc_Ratio T.oh_Ratio_mul T.me_Ratio_mul.fn T.oh_Ratio_rmul (.inr ⟨_, rfl⟩) T.ih_mul T.ihr_mul (ok_Ratio_mul T) (hr.mono (by decide)) T.b_Ratio_mul pass0) (pv 0) (pv 3)) (nomark _)) (pw_or1 (pt_not (pt_val (pe_call (ok_l_is T) (hr.mono (by decide)) (by rfl) T.g_l_is T.F_l_is.kp T.b_l_is .nil pass0 (pa_cons (pe_op (op_ownR T.oc_Ratio PySem.F.slot_int_sub PySem.F.entry_int_sub PySem.F.args_int_sub_2 slotargs_sub PySem.F.fills_int_sub T.oh_Ratio_sub T.oh_Ratio_rsub T.me_Ratio_rsub.fn (ok_Ratio_rsub T) (hr.mono (by decide)) T.b_Ratio_rsub pass0) (pv 3) (pv 0)) (pa_cons (pe_op op_sub (pe_op op_mul (pv 3) (pv 2)) (pv 1)) (pa_cons (pv 2) pa_nil))))))))))
        (pss_one (ps_ret pe_bl))
        pss_nil)
      (pss_cons (ps_if (pt_cmpR op_eq (pv 3) pe_int (nomark _))
        (pss_one (ps_ret (pe_cmpR (op_eqD hr.units) (pe_call (ok_l_divided T) (hr.mono (by decide)) (by rfl) T.g_l_divided T.F_l_divided.kp T.b_l_divided .nil pass0 (pa_cons (pv 0) (pa_cons pe_int pa_nil))) (pe_tup (pa_cons pe_str (pa_cons pe_int pa_nil))) (nomark _))))
        pss_nil)
      (pss_one (ps_ret (pe_and (pe_cmpR (op_ownC (fun _ _ => rfl) T.me_Ratio_eq.at_ T.me_Ratio_eq.fn (ok_Ratio_eq T) (hr.mono (by decide)) T.b_Ratio_eq pass0) (pe_meth (pv 0) T.cl_Ratio T.me_Ratio_divided (ok_Ratio_divided T) (hr.mono (by decide)) T.b_Ratio_divided .nil passL (pa_cons (pv 3) pa_nil)) (pe_meth (pv 0) T.cl_Ratio T.me_Ratio_divided (ok_Ratio_divided T) (hr.mono (by decide)) T.b_Ratio_divided .nil passL (pa_cons (pe_make T.M_Ratio (ok_Ratio_init T) (hr.mono (by decide)) (by rfl) T.gc_Ratio T.b_Ratio_init1 T.v_Ratio_init1 passL (pa_cons (pv 3) pa_nil)) pa_nil)) (nomark _)) (pe_one (pe_cmpR (op_ownC (fun _ _ => rfl) T.me_Ratio_eq.at_ T.me_Ratio_eq.fn (ok_Ratio_eq T) (hr.mono (by decide)) T.b_Ratio_eq pass0) (pe_op (op_ownI T.oc_Ratio T.oh_Ratio_mul T.me_Ratio_mul.fn T.oh_Ratio_rmul (.inr ⟨_, rfl⟩) T.ih_mul T.ihr_mul (ok_Ratio_mul T) (hr.mono (by decide)) T.b_Ratio_mul pass0) (pe_meth (pv 0) T.cl_Ratio T.me_Ratio_divided (ok_Ratio_divided T) (hr.mono (by decide)) T.b_Ratio_divided .nil passL (pa_cons (pv 3) pa_nil)) (pv 3)) (pv 0) (nomark _))))))))), ?_⟩
    have hn5 : n.natAbs < 2 ^ 5 := by omega
    have hnb := tm_mul (a := n) (b := b) (by omega) (by omega)
    have cm : ∀ x y : Int, x.natAbs ≤ 30 → CMul x y := fun x y h => .inl ⟨by omega, by omega⟩
    refine ⟨fun σ' H' => σ' = [some x, some (.int a), some (.int b), some (.int n)] ∧ Same H H', ?_, ?_⟩
    · refine ⟨_, rfl, _, rfl, st_addI R1 hn5 (by decide) fun r1 H1 s1 Q1 => ?_⟩
      refine ⟨_, rfl, _, rfl, ?_⟩
      refine mk_ratio1 fun r2 H2 s2 Q2 => ?_
      have s12 := s1.trans s2
      refine st_add (R1.same s12) (rp_int Q2 hn5 (by decide)) (by decide) fun r3 H3 s3 Q3 => ?_
      refine st_neF T.ic_Ratio ((Q1.same s2).same s3) Q3 (by grind) ⟨_, rfl, iteF ?_⟩
      have s13 := s12.trans s3
      -- n + one != one + n
      refine ⟨_, rfl, _, rfl, st_addR (R1.same s13) hn5 (by decide) fun r4 H4 s4 Q4 => ?_⟩
      have s14 := s13.trans s4
      refine ⟨_, rfl, _, rfl, st_addI (R1.same s14) hn5 (by decide) fun r5 H5 s5 Q5 => ?_⟩
      refine st_neF T.ic_Ratio (Q4.same s5) Q5 (by grind) ⟨_, rfl, iteF ?_⟩
      have s15 := s14.trans s5
      -- one - n != one - Ratio(n)
      refine ⟨_, rfl, _, rfl, st_subI (R1.same s15) hn5 (by decide) fun r6 H6 s6 Q6 => ?_⟩
      refine ⟨_, rfl, _, rfl, ?_⟩
      refine mk_ratio1 fun r7 H7 s7 Q7 => ?_
      have s17 := s15.trans (s6.trans s7)
      refine st_sub (R1.same s17) (rp_int Q7 hn5 (by decide)) (by decide) fun r8 H8 s8 Q8 => ?_
      refine st_neF T.ic_Ratio ((Q6.same s7).same s8) Q8 (by grind) ⟨_, rfl, iteF ?_⟩
      have s18 := s17.trans s8
      -- n - one != Ratio(n) - one
      refine ⟨_, rfl, _, rfl, st_subR (R1.same s18) hn5 (by decide) fun r9 H9 s9 Q9 => ?_⟩
      refine ⟨_, rfl, ?_⟩
      refine mk_ratio1 fun ra Ha sa Qa => ?_
      have s1a := s18.trans (s9.trans sa)
      refine ⟨_, rfl, st_sub (rp_int Qa hn5 (by decide)) (R1.same s1a) (by decide) fun rb Hb sb Qb => ?_⟩
      exact st_neF T.ic_Ratio ((Q9.same sa).same sb) Qb (by grind) ⟨_, rfl, iteF ⟨rfl, s1a.trans sb⟩⟩
    · rintro σ' H1 ⟨rfl, s1⟩
      have R1 := R1.same s1
      refine ⟨fun σ' H' => σ' = [some x, some (.int a), some (.int b), some (.int n)] ∧ Same H1 H', ?_, ?_⟩
      · refine ⟨_, rfl, _, rfl, st_mulI R1 hn5 (by decide) fun r1 H1 s1 Q1 => ?_⟩
        refine ⟨_, rfl, _, rfl, ?_⟩
        refine mk_ratio1 fun r2 H2 s2 Q2 => ?_
        have s12 := s1.trans s2
        refine st_mul (R1.same s12) (rp_int Q2 hn5 (by decide)) (by decide) fun r3 H3 s3 Q3 => ?_
        refine st_neF T.ic_Ratio ((Q1.same s2).same s3) Q3 (by grind) ⟨_, rfl, iteF ?_⟩
        have s13 := s12.trans s3
        refine ⟨_, rfl, _, rfl, st_mulR (R1.same s13) hn5 (by decide) fun r4 H4 s4 Q4 => ?_⟩
        have s14 := s13.trans s4
        refine ⟨_, rfl, _, rfl, st_mulI (R1.same s14) hn5 (by decide) fun r5 H5 s5 Q5 => ?_⟩
        refine st_neF T.ic_Ratio (Q4.same s5) Q5 (by grind) ⟨_, rfl, iteF ?_⟩
        have s15 := s14.trans s5
        refine ⟨_, rfl, _, rfl, st_subR (R1.same s15) hn5 (by decide) fun r6 H6 s6 Q6 => ?_⟩
        refine ⟨_, rfl, _, rfl, _, _, rfl, rfl, cm _ _ (by omega), _, rfl, _, _, rfl, rfl, _, rfl, ?_⟩
        exact ⟨r6, _, _, _, _, 11, rfl, Q6, rfl, by omega, by omega, by decide, _, rfl, iteF ⟨rfl, s15.trans s6⟩⟩
      · rintro σ' H2 ⟨rfl, s2⟩
        have R1 := R1.same s2
        have s12 := s1.trans s2
        refine ⟨_, rfl, rfl, _, rfl, ite2 (fun hc => ?_) fun hc => ?_⟩
        · refine ⟨_, rfl, x, _, a, b, 5, rfl, R1, by decide, .inl rfl, fun r H3 s3 dr => ?_⟩
          refine ⟨by show 2 ≤ sizeLine; decide, fun tz ntz => ?_⟩
          refine ⟨zeroD, zeroD, dp_same (same_upd ntz) dr, .tup (.inl (.inl upd_same)) (.cons (.str _) (.cons (.int _) .nil)), shaped_zero, shaped_zero, ?_⟩
          rw [eq_self shaped_zero]
          exact k _ (s12.trans (same_upd2 s3 (s3.free ntz)))
        · have hc0 : n ≠ 0 := fun z => hc (decide_eq_true (by rw [z]))
          refine ⟨_, rfl, st_meth R1 div_no1 div_no2 ⟨_, rfl, st_divI R1 hn5 hc0 (by decide) fun r3 H3 s3 Q3 => ?_⟩⟩
          refine ⟨_, rfl, st_meth (R1.same s3) div_no1 div_no2 ⟨_, rfl, ?_⟩⟩
          refine mk_ratio1 fun r4 H4 s4 Q4 => ?_
          have s34 := s3.trans s4
          refine st_div (R1.same s34) (rp_int Q4 hn5 (by decide)) hc0 (by decide) fun r5 H5 s5 Q5 => ?_
          refine st_eqT T.ic_Ratio ((Q3.same s4).same s5) Q5 (by grind) ⟨_, rfl, iteT ?_⟩
          have s35 := s34.trans s5
          refine ⟨_, rfl, st_meth (R1.same s35) div_no1 div_no2 ⟨_, rfl, st_divI (R1.same s35) hn5 hc0 (by decide) fun r6 H6 s6 Q6 => ?_⟩⟩
          refine ⟨_, rfl, st_mulI Q6 (Nat.lt_of_lt_of_le hn5 (by decide)) (by decide) fun r7 H7 s7 Q7 => ?_⟩
          exact ⟨_, rfl, st_eqT T.ic_Ratio Q7 (R1.same (s35.trans (s6.trans s7))) (by grind) (k _ (s12.trans (s35.trans (s6.trans s7))))⟩
theorem ok_law (T : Ctx K mg) : FnOk P w K mg base CX0 10 T.f_law T.fd_law ["_law_script"] (spLaw K) := by
  refine T.F_law.ok sc_law (fun vs H Q E h => ?_) (fun cdv A outer s H vs Q E hr h => ?_)
  · obtain ⟨l, ns, rfl, _⟩ := h
    rfl
  · obtain ⟨l, ns, rfl, hS, hlen, q⟩ := h
    refine ⟨_, (pss_cons (ps_set (i := 1) sc_law.nd rfl (Or.inl rfl) (pe_call (ok_l_start T) (hr.mono (by decide)) (by rfl) T.g_l_start T.F_l_start.kp T.b_l_start .nil pass0 (pa_cons (pv 0) pa_nil)))
      (pss_cons (ps_set (i := 2) sc_law.nd rfl (Or.inr rfl) (pe_lst pa_nil))
      (pss_cons (ps_for PassesOwn.never rfl (pi_range1 (by rfl) T.m_range (pa_cons pe_int pa_nil)) (pg_name (i := 3) sc_law.nd rfl (Or.inl rfl))
        (pss_one (ps_expr (pe_bm PySem.F.plainAttrs_list PySem.F.slot_list_append PySem.F.type_list_append mt_append (pv 2) (pa_cons (pe_tup (pa_cons (pe_op op_sub (pe_call (ok_l_draw T) (hr.mono (by decide)) (by rfl) T.g_l_draw T.F_l_draw.kp T.b_l_draw .nil pass0 (pa_cons (pv 0) (pa_cons (pv 1) (pa_cons pe_int pa_nil)))) pe_int) (pa_cons (pe_op op_add pe_int (pe_call (ok_l_draw T) (hr.mono (by decide)) (by rfl) T.g_l_draw T.F_l_draw.kp T.b_l_draw .nil pass0 (pa_cons (pv 0) (pa_cons (pv 1) (pa_cons pe_int pa_nil))))) pa_nil))) pa_nil)))))
      (pss_cons (ps_set (i := 4) sc_law.nd rfl (Or.inr rfl) (pe_lc (own := [("_law_over", 5), ("_law_under", 6)]) (g := gTup K 2 (gCons (gName 5) (gCons (gName 6) gNil))) (tt := tYes) rfl sc_law.nd (pi_list (pv 2)) (blkOk_by (own := [("_law_over", 5), ("_law_under", 6)]) (N := ["_law_script", "_law_state", "_law_terms", "_law_k", "_law_made", "_law_over", "_law_under", "_law_at", "_law_other", "_law_a", "_law_b", "_law_c", "_law_d", "_law_n"]) (sc := defScope s_law) (by decide +kernel)) (fun _ _ _ _ _ => (pg_tup rfl (pgs_cons (pg_name (i := 5) sc_law.nd rfl (Or.inl rfl)) (pgs_cons (pg_name (i := 6) sc_law.nd rfl (Or.inl rfl)) pgs_nil)))) (fun _ _ _ _ _ => pts_nil) (fun _ _ _ _ _ => (pe_make T.M_Ratio (ok_Ratio_init T) (hr.mono (by decide)) (by rfl) T.gc_Ratio T.b_Ratio_init2 T.v_Ratio_init2 passL (pa_cons (pv 5) (pa_cons (pv 6) pa_nil))))))
      (pss_cons (ps_for PassesOwn.never rfl (pi_range1 (by rfl) T.m_range (pa_cons pe_int pa_nil)) (pg_name (i := 7) sc_law.nd rfl (Or.inl rfl))
        (pss_one (ps_for PassesOwn.never rfl (pi_range1 (by rfl) T.m_range (pa_cons pe_int pa_nil)) (pg_name (i := 8) sc_law.nd rfl (Or.inl rfl))
          (pss_cons (ps_asg (pe_ix ix_list (pv 2) (pv 7) (fun _ _ => rfl)) (pg_tup rfl (pgs_cons (pg_name (i := 9) sc_law.nd rfl (Or.inl rfl)) (pgs_cons (pg_name (i := 10) sc_law.nd rfl (Or.inl rfl)) pgs_nil))))
          (pss_cons (ps_asg (pe_ix ix_list (pv 2) (pv 8) (fun _ _ => rfl)) (pg_tup rfl (pgs_cons (pg_name (i := 11) sc_law.nd rfl (Or.inl rfl)) (pgs_cons (pg_name (i := 12) sc_law.nd rfl (Or.inl rfl)) pgs_nil))))
          (pss_one (ps_if (pt_not (pt_val (pe_call (ok_l_pair_holds T) (hr.mono (by decide)) (by rfl) T.g_l_pair_holds T.F_l_pair_holds.kp T.b_l_pair_holds .nil pass0 (pa_cons (pe_ix ix_list (pv 4) (pv 7) (fun _ _ => rfl)) (pa_cons (pe_ix ix_list (pv 4) (pv 8) (fun _ _ => rfl)) (pa_cons (pv 9) (pa_cons (pv 10) (pa_cons (pv 11) (pa_cons (pv 12) pa_nil)))))))))
            (pss_one (ps_ret pe_bl))
            pss_nil)))))))
      (pss_cons (ps_set (i := 13) sc_law.nd rfl (Or.inl rfl) (pe_op op_sub (pe_call (ok_l_draw T) (hr.mono (by decide)) (by rfl) T.g_l_draw T.F_l_draw.kp T.b_l_draw .nil pass0 (pa_cons (pv 0) (pa_cons (pv 1) (pa_cons pe_int pa_nil)))) pe_int))
      (pss_cons (ps_for PassesOwn.never rfl (pi_range1 (by rfl) T.m_range (pa_cons pe_int pa_nil)) (pg_name (i := 7) sc_law.nd rfl (Or.inl rfl))
        (pss_one (ps_if (pt_not (pt_val (pe_call (ok_l_integer_holds T) (hr.mono (by decide)) (by rfl) T.g_l_integer_holds T.F_l_integer_holds.kp T.b_l_integer_holds .nil pass0 (pa_cons (pe_ix ix_list (pv 4) (pv 7) (fun _ _ => rfl)) (pa_cons (pe_ix ix_tup (pe_ix ix_list (pv 2) (pv 7) (fun _ _ => rfl)) pe_int (fun _ _ => rfl)) (pa_cons (pe_ix ix_tup (pe_ix ix_list (pv 2) (pv 7) (fun _ _ => rfl)) pe_int (fun _ _ => rfl)) (pa_cons (pv 13) pa_nil)))))))
          (pss_one (ps_ret pe_bl))
          pss_nil)))
      (pss_cons (ps_if (pt_cmpR (op_ownNe T.oc_Ratio T.me_Ratio_eq.at_ T.me_Ratio_eq.fn (ok_Ratio_eq T) (hr.mono (by decide)) T.b_Ratio_eq pass0) (pe_op (op_ownB T.oc_Ratio T.oh_Ratio_add T.me_Ratio_add.fn (ok_Ratio_add T) (hr.mono (by decide)) T.b_Ratio_add pass0) (pe_op (op_ownB T.oc_Ratio T.oh_Ratio_add T.me_Ratio_add.fn (ok_Ratio_add T) (hr.mono (by decide)) T.b_Ratio_add pass0) (pe_ix ix_list (pv 4) pe_int (fun _ _ => rfl)) (pe_ix ix_list (pv 4) pe_int (fun _ _ => rfl))) (pe_ix ix_list (pv 4) pe_int (fun _ _ => rfl))) (pe_op (op_ownB T.oc_Ratio T.oh_Ratio_add T.me_Ratio_add.fn (ok_Ratio_add T) (hr.mono (by decide)) T.b_Ratio_add pass0) (pe_ix ix_list (pv 4) pe_int (fun _ _ => rfl)) (pe_op (op_ownB T.oc_Ratio T.oh_Ratio_add T.me_Ratio_add.fn (ok_Ratio_add T) (hr.mono (by decide)) T.b_Ratio_add pass0) (pe_ix ix_list (pv 4) pe_int (fun _ _ => rfl)) (pe_ix ix_list (pv 4) pe_int (fun _ _ => rfl)))) (nomark _))
        (pss_one (ps_ret pe_bl))
        pss_nil)
      (pss_cons (ps_if (pt_cmpR (op_ownNe T.oc_Ratio T.me_Ratio_eq.at_ T.me_Ratio_eq.fn (ok_Ratio_eq T) (hr.mono (by decide)) T.b_Ratio_eq pass0) (pe_op (op_ownB T.oc_Ratio T.oh_Ratio_mul T.me_Ratio_mul.fn (ok_Ratio_mul T) (hr.mono (by decide)) T.b_Ratio_mul pass0) (pe_op (op_ownB T.oc_Ratio T.oh_Ratio_add T.me_Ratio_add.fn (ok_Ratio_add T) (hr.mono (by decide)) T.b_Ratio_add pass0) (pe_ix ix_list (pv 4) pe_int (fun _ _ => rfl)) (pe_ix ix_list (pv 4) pe_int (fun _ _ => rfl))) (pe_ix ix_list (pv 4) pe_int (fun _ _ => rfl))) (pe_op (op_ownB T.oc_Ratio T.oh_Ratio_add T.me_Ratio_add.fn (ok_Ratio_add T) (hr.mono (by decide)) T.b_Ratio_add pass0) (pe_op (op_ownB T.oc_Ratio T.oh_Ratio_mul T.me_Ratio_mul.fn (ok_Ratio_mul T) (hr.mono (by decide)) T.b_Ratio_mul pass0) (pe_ix ix_list (pv 4) pe_int (fun _ _ => rfl)) (pe_ix ix_list (pv 4) pe_int (fun _ _ => rfl))) (pe_op (op_ownB T.oc_Ratio T.oh_Ratio_mul T.me_Ratio_mul.fn (ok_Ratio_mul T) (hr.mono (by decide)) T.b_Ratio_mul pass0) (pe_ix ix_list (pv 4) pe_int (fun _ _ => rfl)) (pe_ix ix_list (pv 4) pe_int (fun _ _ => rfl)))) (nomark _))
        (pss_one (ps_ret pe_bl))
        pss_nil)
      (pss_one (ps_ret (pe_callB (cr_all rfl) (by rfl) T.m_all (by decide +kernel) (pa_cons (pe_lc (own := [("_law_at", 7)]) (g := gName 7) (tt := tYes) rfl sc_law.nd (pi_range1 (by rfl) T.m_range (pa_cons pe_int pa_nil)) (blkOk_by (own := [("_law_at", 7)]) (N := ["_law_script", "_law_state", "_law_terms", "_law_k", "_law_made", "_law_over", "_law_under", "_law_at", "_law_other", "_law_a", "_law_b", "_law_c", "_law_d", "_law_n"]) (sc := defScope s_law) (by decide +kernel)) (fun _ _ _ _ _ => (pg_name (i := 7) sc_law.nd rfl (Or.inl rfl))) (fun _ _ _ _ _ => pts_nil) (fun _ _ _ _ _ => (pe_call (ok_l_is T) (hr.mono (by decide)) (by rfl) T.g_l_is T.F_l_is.kp T.b_l_is .nil pass0 (pa_cons (pe_ix (ixK_list (K := K) rfl) (pv 4) (pv 7) (fun _ _ => rfl)) (pa_cons (pe_ix (ixK_tup (K := K) rfl) (pe_ix (ixK_list (K := K) rfl) (pv 2) (pv 7) (fun _ _ => rfl)) pe_int (fun _ _ => rfl)) (pa_cons (pe_ix (ixK_tup (K := K) rfl) (pe_ix (ixK_list (K := K) rfl) (pv 2) (pv 7) (fun _ _ => rfl)) pe_int (fun _ _ => rfl)) pa_nil)))))) pa_nil))))))))))))), ?_⟩
    refine ⟨_, rfl, l, ns, rfl, hS, fun t H1 nt D1 b1 => ?_⟩
    -- terms = []
    refine ⟨by show 0 ≤ sizeLine; decide, fun tl ntl => ?_⟩
    have tlt : tl ≠ t := by
      obtain ⟨_, _, _, _, e⟩ := D1.st
      exact (ne_of_none e ntl).symm
    refine ⟨3, rfl, by decide, by decide, for_range (n := 3) (fun i σ H' => Drw K H l t H' ∧ ∃ v3 ts, σ = [some (.ref l), some (.ref t), some (.ref tl), v3, none, none, none, none, none, none, none, none, none, none] ∧ ts.length = i ∧ (∀ p ∈ ts, Tm p.1 p.2) ∧ TL H' tl ts)
      ⟨D1.mono (same_upd ntl), none, [], rfl, rfl, fun p hp => (by cases hp), [], upd_same, rfl, fun j p hp => by simp at hp⟩ ?_ ?_⟩
    · rintro i σ H0 hi ⟨D0, v3, ts, rfl, hts, htm, TL0⟩
      obtain ⟨vs0, hv0, _⟩ := id TL0
      refine ⟨_, rfl, .inl ⟨rfl, _, SqL.of hv0⟩, ?_⟩
      refine ⟨_, rfl, _, rfl, l, t, 61, H, rfl, D0, by decide, by decide, fun x1 H2 a1 a2 b2 D2 => ⟨_, _, rfl, rfl, ?_⟩⟩
      refine ⟨_, rfl, _, rfl, l, t, 30, H, rfl, D2, by decide, by decide, fun x2 H3 a3 a4 b3 D3 => ⟨_, _, rfl, rfl, ?_⟩⟩
      refine ⟨by show 2 ≤ sizeLine; decide, fun T0 nT => ?_⟩
      have TL3 : TL H3 tl ts := (TL0.but D0.st tlt b2).but D2.st tlt b3
      have TL4 := TL3.same (same_upd (o := .tup [.int (x1 - 30), .int (1 + x2)]) nT)
      obtain ⟨vs, hv, hvl, _⟩ := id TL4
      refine ⟨tl, vs, _, rfl, rfl, hv, ?_, ?_⟩
      · rw [hvl, hts]
        exact small1000 (by omega)
      · refine ⟨?_, _, ts ++ [(x1 - 30, 1 + x2)], rfl, by simp [hts], fun p hp => ?_, TL.push (p := (x1 - 30, 1 + x2)) hv TL4 upd_same⟩
        · have D4 := D3.mono (same_upd (o := .tup [.int (x1 - 30), .int (1 + x2)]) nT)
          obtain ⟨sa, sb, sc, sd, se⟩ := D4.st
          exact ⟨D4.scr, D4.new, fun b o e => by
            have hb : b ≠ tl := fun z => by
              have e2 := b1 tl tlt
              rw [ntl] at e2
              rw [z, ← e2] at e
              cases e
            rw [upd_ne hb]
            exact D4.same _ _ e, sa, sb, sc, sd, by rw [upd_ne tlt.symm]; exact se⟩
        · rcases List.mem_append.mp hp with hp | hp
          · exact htm p hp
          · simp at hp
            subst hp
            exact ⟨by show -30 ≤ x1 - 30; omega, by show x1 - 30 ≤ 30; omega, by show 1 ≤ 1 + x2; omega, by show 1 + x2 ≤ 30; omega⟩
    · rintro σ H2 ⟨D2, v3, ts, rfl, hts, htm, TL2⟩
      have tm_at : ∀ (j : Nat) (p : Int × Int), ts[j]? = some p → Tm p.1 p.2 := fun j p hp => htm p (List.mem_of_getElem? hp)
      have ts_at : ∀ j : Nat, j < 3 → ∃ p : Int × Int, ts[j]? = some p := fun j hj => ⟨_, List.getElem?_eq_getElem (by omega)⟩
      obtain ⟨vs, hv, hvl, hvat⟩ := id TL2
      -- made = [Ratio(over, under) for over, under in terms]
      refine ⟨_, rfl, tl, rfl, ⟨_, SqL.of hv⟩, fun ml nml => ?_⟩
      refine lc_list (K := K) (a := tl) (xs := vs) (fun i H' => Same H2 H' ∧ ∃ rs : List V, H' ml = some (.lst rs) ∧ rs.length = i ∧ ∀ (j : Nat) (p : Int × Int), j < i → ts[j]? = some p → ∃ r, rs[j]? = some r ∧ Rp T.c_Ratio H' r p.1 p.2 5)
        ⟨same_upd nml, [], upd_same, rfl, fun j p hj => by omega⟩ (fun i H' _ ⟨s1, _⟩ => s1.seq (SqL.of hv)) ?_ ?_
      · rintro i x H3 hi ⟨s3, rs, hr1, hr2, hr3⟩
        have hil : i < ts.length := by
          have := (List.getElem?_eq_some_iff.mp hi).1
          omega
        obtain ⟨p, hp⟩ : ∃ p : Int × Int, ts[i]? = some p := ⟨_, List.getElem?_eq_getElem hil⟩
        obtain ⟨a, ha1, ha2⟩ := hvat i p hp
        rw [ha1] at hi
        cases hi
        have ha3 := s3 _ _ ha2
        obtain ⟨tm1, tm2, tm3, tm4⟩ := tm_at i p hp
        refine ⟨a, _, rfl, .inl (.inl ha3), rfl, _, _, rfl, _, _, rfl, rfl, rfl, ?_⟩
        refine ⟨_, rfl, _, rfl, ?_⟩
        refine mk_ratio (by omega) (sz_log (n := 5) (by omega) (by decide) (by decide)) fun r p1 q1 H4 s4 R nf => ?_
        refine ⟨rs, s4 _ _ hr1, small1000 (by omega), ?_⟩
        have hml : ∀ b o, H2 b = some o → b ≠ ml := fun b o e => ne_of_none e nml
        refine ⟨fun b o e => by rw [upd_ne (hml b o e)]; exact s4 _ _ (s3 _ _ e), rs ++ [.ref r], upd_same, by simp [hr2], fun j p' hj hp' => ?_⟩
        have up : ∀ {v : V} {O U : Int} {n : Nat}, Rp T.c_Ratio H4 v O U n → Rp T.c_Ratio (upd H4 ml (.lst (rs ++ [V.ref r]))) v O U n := fun {v O U n} R => by
          obtain ⟨p, q, ⟨⟨a, dx, rfl, h5⟩, h6, h7⟩, h8⟩ := R
          exact ⟨p, q, ⟨⟨a, dx, rfl, by rw [upd_ne (ne_of h5 (s4 _ _ hr1) (by intro z; cases z))]; exact h5⟩, h6, h7⟩, h8⟩
        by_cases hji : j < i
        · obtain ⟨r', h4, h5⟩ := hr3 j p' hji hp'
          exact ⟨r', by rw [List.getElem?_append_left (by omega)]; exact h4, up (h5.same s4)⟩
        · have e : j = i := by omega
          subst e
          rw [hp] at hp'
          cases hp'
          exact ⟨.ref r, by rw [← hr2]; simp, up (rp_make R nf (by omega) (by omega) (by omega) (by decide))⟩
      · rintro H3 ⟨s3, rs, hr1, hr2, hr3⟩
        have TL3 := TL2.same s3
        have ML3 : ML T.c_Ratio H3 ml ts := ⟨rs, hr1, by omega, fun j p hp => hr3 j p (by have := (List.getElem?_eq_some_iff.mp hp).1; omega) hp⟩
        have D3 := D2.mono s3
        have mlt : ml ≠ t := by
          obtain ⟨_, _, _, _, e⟩ := D2.st
          exact (ne_of_none e nml).symm
        clear hr1 hr2 hr3 hv hvl hvat TL2
        -- for at .. for other ..
        refine ⟨3, rfl, by decide, by decide, for_range (n := 3) (fun i σ H' => Drw K H l t H' ∧ TL H' tl ts ∧ ML T.c_Ratio H' ml ts ∧ ∃ v3 v7 v8 v9 v10 v11 v12, σ = [some (.ref l), some (.ref t), some (.ref tl), v3, some (.ref ml), none, none, v7, v8, v9, v10, v11, v12, none])
          ⟨D3, TL3, ML3, _, _, _, _, _, _, _, rfl⟩ ?_ ?_⟩
        · rintro i σ H4 hi ⟨D4, TL4, ML4, v3, v7, v8, v9, v10, v11, v12, rfl⟩
          refine ⟨3, rfl, by decide, by decide, for_range (n := 3) (fun j σ H' => Drw K H l t H' ∧ TL H' tl ts ∧ ML T.c_Ratio H' ml ts ∧ ∃ v8 v9 v10 v11 v12, σ = [some (.ref l), some (.ref t), some (.ref tl), v3, some (.ref ml), none, none, some (.int (0 + i)), v8, v9, v10, v11, v12, none])
            ⟨D4, TL4, ML4, _, _, _, _, _, rfl⟩ ?_ ?_⟩
          · rintro j σ H5 hj ⟨D5, TL5, ML5, v8, v9, v10, v11, v12, rfl⟩
            obtain ⟨p1, hp1⟩ := ts_at i hi
            obtain ⟨p2, hp2⟩ := ts_at j hj
            obtain ⟨vs, hv, hvl, hvat⟩ := id TL5
            obtain ⟨rs, hr1, hr2, hr3⟩ := id ML5
            obtain ⟨a1, ha1, ha2⟩ := hvat i p1 hp1
            obtain ⟨a2, hb1, hb2⟩ := hvat j p2 hp2
            obtain ⟨r1, hc1, hc2⟩ := hr3 i p1 hp1
            obtain ⟨r2, hd1, hd2⟩ := hr3 j p2 hp2
            refine ⟨_, rfl, _, rfl, tl, _, _, _, rfl, rfl, SqL.of hv, at_of (j := i) (by omega) ha1, ?_⟩
            refine ⟨a1, _, rfl, .inl (.inl ha2), rfl, _, _, rfl, _, _, rfl, rfl, ?_⟩
            refine ⟨_, rfl, _, rfl, tl, _, _, _, rfl, rfl, SqL.of hv, at_of (j := j) (by omega) hb1, ?_⟩
            refine ⟨a2, _, rfl, .inl (.inl hb2), rfl, _, _, rfl, _, _, rfl, rfl, ?_⟩
            refine ⟨_, rfl, _, rfl, ml, _, _, _, rfl, rfl, SqL.of hr1, at_of (j := i) (by omega) hc1, ?_⟩
            refine ⟨_, rfl, _, rfl, ml, _, _, _, rfl, rfl, SqL.of hr1, at_of (j := j) (by omega) hd1, ?_⟩
            refine ⟨_, rfl, _, rfl, _, rfl, _, rfl, r1, r2, _, _, _, _, rfl, hc2, hd2, tm_at i p1 hp1, tm_at j p2 hp2, fun H6 s6 => ⟨_, rfl, iteF ?_⟩⟩
            exact ⟨D5.mono s6, TL5.same s6, ML5.same s6, _, _, _, _, _, rfl⟩
          · rintro σ H5 ⟨D5, TL5, ML5, v8, v9, v10, v11, v12, rfl⟩
            exact ⟨D5, TL5, ML5, _, _, _, _, _, _, _, rfl⟩
        · rintro σ H4 ⟨D4, TL4, ML4, v3, v7, v8, v9, v10, v11, v12, rfl⟩
          -- n
          refine ⟨_, rfl, _, rfl, l, t, 21, H, rfl, D4, by decide, by decide, fun x1 H5 a1 a2 b5 D5 => ⟨_, _, rfl, rfl, ?_⟩⟩
          have TL5 := TL4.but D4.st tlt b5
          have ML5 := ML4.but D4.st mlt b5
          refine ⟨3, rfl, by decide, by decide, for_range (n := 3) (fun i σ H' => TL H' tl ts ∧ ML T.c_Ratio H' ml ts ∧ ∃ v7, σ = [some (.ref l), some (.ref t), some (.ref tl), v3, some (.ref ml), none, none, v7, v8, v9, v10, v11, v12, some (.int (x1 - 10))])
            ⟨TL5, ML5, _, rfl⟩ ?_ ?_⟩
          · rintro i σ H6 hi ⟨TL6, ML6, v7, rfl⟩
            obtain ⟨p1, hp1⟩ := ts_at i hi
            obtain ⟨vs, hv, hvl, hvat⟩ := id TL6
            obtain ⟨rs, hr1, hr2, hr3⟩ := id ML6
            obtain ⟨a1, ha1, ha2⟩ := hvat i p1 hp1
            obtain ⟨r1, hc1, hc2⟩ := hr3 i p1 hp1
            refine ⟨_, rfl, _, rfl, ml, _, _, _, rfl, rfl, SqL.of hr1, at_of (j := i) (by omega) hc1, ?_⟩
            refine ⟨_, rfl, _, rfl, tl, _, _, _, rfl, rfl, SqL.of hv, at_of (j := i) (by omega) ha1, ?_⟩
            refine ⟨a1, _, _, _, rfl, rfl, .inl (.inl ha2), at_of (j := 0) rfl rfl, ?_⟩
            refine ⟨_, rfl, _, rfl, tl, _, _, _, rfl, rfl, SqL.of hv, at_of (j := i) (by omega) ha1, ?_⟩
            refine ⟨a1, _, _, _, rfl, rfl, .inl (.inl ha2), at_of (j := 1) rfl rfl, ?_⟩
            refine ⟨_, rfl, r1, _, _, _, rfl, hc2, tm_at i p1 hp1, by omega, by omega, fun H7 s7 => ⟨_, rfl, iteF ?_⟩⟩
            exact ⟨TL6.same s7, ML6.same s7, _, rfl⟩
          · rintro σ H6 ⟨TL6, ML6, v7, rfl⟩
            obtain ⟨p0, hp0⟩ := ts_at 0 (by decide)
            obtain ⟨p1, hp1⟩ := ts_at 1 (by decide)
            obtain ⟨p2, hp2⟩ := ts_at 2 (by decide)
            have at_ : ∀ {H' : Hp}, Same H6 H' → ∃ rs : List V, ∃ r0 r1 r2, SqL K H' ml rs ∧ atI rs 0 = some r0 ∧ atI rs 1 = some r1 ∧ atI rs 2 = some r2 ∧ Rp T.c_Ratio H' r0 p0.1 p0.2 5 ∧ Rp T.c_Ratio H' r1 p1.1 p1.2 5 ∧ Rp T.c_Ratio H' r2 p2.1 p2.2 5 := fun {H'} sm => by
              obtain ⟨rs, hr1, hr2, hr3⟩ := ML6.same sm
              obtain ⟨r0, h0, R0⟩ := hr3 0 p0 hp0
              obtain ⟨r1, h1, R1⟩ := hr3 1 p1 hp1
              obtain ⟨r2, h2, R2⟩ := hr3 2 p2 hp2
              exact ⟨rs, r0, r1, r2, SqL.of hr1, at_of (j := 0) rfl h0, at_of (j := 1) rfl h1, at_of (j := 2) rfl h2, R0, R1, R2⟩
            -- sums
            obtain ⟨rs, r0, r1, r2, hm, h0, h1, h2, R0, R1, R2⟩ := at_ (Same.refl _)
            refine ⟨_, rfl, ml, _, _, _, rfl, rfl, hm, h0, _, rfl, ml, _, _, _, rfl, rfl, hm, h1, ?_⟩
            refine st_add R0 R1 (by decide) fun u1 Ha sa Q1 => ?_
            refine ⟨_, rfl, ml, _, _, _, rfl, rfl, sa.seq hm, h2, ?_⟩
            refine st_add Q1 ((R2.same sa).mono (by decide)) (by decide) fun u2 Hb sb Q2 => ?_
            have sab := sa.trans sb
            refine ⟨_, rfl, ml, _, _, _, rfl, rfl, sab.seq hm, h0, _, rfl, ml, _, _, _, rfl, rfl, sab.seq hm, h1, _, rfl, ml, _, _, _, rfl, rfl, sab.seq hm, h2, ?_⟩
            refine st_add (R1.same sab) (R2.same sab) (by decide) fun u3 Hc sc Q3 => ?_
            have sac := sab.trans sc
            refine st_add ((R0.same sac).mono (by decide)) Q3 (by decide) fun u4 Hd sd Q4 => ?_
            refine st_neF T.ic_Ratio ((Q2.same sc).same sd) Q4 (by grind) ⟨_, rfl, iteF ?_⟩
            have sad := sac.trans sd
            -- products
            refine ⟨_, rfl, ml, _, _, _, rfl, rfl, sad.seq hm, h0, _, rfl, ml, _, _, _, rfl, rfl, sad.seq hm, h1, ?_⟩
            refine st_add (R0.same sad) (R1.same sad) (by decide) fun u5 He se Q5 => ?_
            have sae := sad.trans se
            refine ⟨_, rfl, ml, _, _, _, rfl, rfl, sae.seq hm, h2, ?_⟩
            refine st_mul Q5 ((R2.same sae).mono (by decide)) (by decide) fun u6 Hf sf Q6 => ?_
            have saf := sae.trans sf
            refine ⟨_, rfl, ml, _, _, _, rfl, rfl, saf.seq hm, h0, _, rfl, ml, _, _, _, rfl, rfl, saf.seq hm, h2, ?_⟩
            refine st_mul (R0.same saf) (R2.same saf) (by decide) fun u7 Hg sg Q7 => ?_
            have sag := saf.trans sg
            refine ⟨_, rfl, ml, _, _, _, rfl, rfl, sag.seq hm, h1, _, rfl, ml, _, _, _, rfl, rfl, sag.seq hm, h2, ?_⟩
            refine st_mul (R1.same sag) (R2.same sag) (by decide) fun u8 Hh sh Q8 => ?_
            refine st_add (Q7.same sh) Q8 (by decide) fun u9 Hi si Q9 => ?_
            refine st_neF T.ic_Ratio (((Q6.same sg).same sh).same si) Q9 (by grind) ⟨_, rfl, iteF ?_⟩
            have sai := sag.trans (sh.trans si)
            -- all([..])
            refine ⟨3, rfl, by decide, by decide, fun al nal => ?_⟩
            refine lc_range (lo := 0) (n := 3) (fun i H' => Same Hi H' ∧ H' al = some (.lst (List.replicate i (V.bl true)))) ⟨same_upd nal, upd_same⟩ ?_ ?_
            · rintro i Hj hi ⟨sj, hal⟩
              obtain ⟨pi, hpi⟩ := ts_at i hi
              obtain ⟨vs, hv, hvl, hvat⟩ := TL6.same (sai.trans sj)
              obtain ⟨rs', hr1, hr2, hr3⟩ := ML6.same (sai.trans sj)
              obtain ⟨a1, ha1, ha2⟩ := hvat i pi hpi
              obtain ⟨r1, hc1, hc2⟩ := hr3 i pi hpi
              obtain ⟨tm1, tm2, tm3, tm4⟩ := tm_at i pi hpi
              refine ⟨rfl, ?_⟩
              refine ⟨_, rfl, _, rfl, ml, _, _, _, rfl, rfl, SqL.of hr1, at_of (j := i) (by omega) hc1, ?_⟩
              refine ⟨_, rfl, _, rfl, tl, _, _, _, rfl, rfl, SqL.of hv, at_of (j := i) (by omega) ha1, ?_⟩
              refine ⟨a1, _, _, _, rfl, rfl, .inl (.inl ha2), at_of (j := 0) rfl rfl, ?_⟩
              refine ⟨_, rfl, _, rfl, tl, _, _, _, rfl, rfl, SqL.of hv, at_of (j := i) (by omega) ha1, ?_⟩
              refine ⟨a1, _, _, _, rfl, rfl, .inl (.inl ha2), at_of (j := 1) rfl rfl, ?_⟩
              refine ⟨r1, _, _, _, _, 5, rfl, hc2, rfl, by omega, by omega, by decide, ?_⟩
              refine ⟨_, hal, by rw [List.length_replicate]; exact small1000 (by omega), ?_⟩
              refine ⟨fun b o e => by rw [upd_ne (ne_of_none e nal)]; exact sj _ _ e, ?_⟩
              rw [upd_same, List.replicate_succ']
            · rintro Hj ⟨sj, hal⟩
              exact ⟨al, [true, true, true], rfl, SqL.of hal, q _⟩
end
theorem all_mk {l : PySem.W.OpenLaw} {w : World} {K : PySem.W.Frag} {h : Heap} {mg : Str → Option Value} {fa ca_VoteError ca_BadNumber ca_Ratio fa_BadNumber_init fa_is_integer fa_check_number fa_Ratio_init fa_ratio_of fa_Ratio_eq fa_Ratio_add fa_Ratio_radd fa_Ratio_sub fa_Ratio_rsub fa_Ratio_mul fa_Ratio_rmul fa_Ratio_divided fa_l_start fa_l_draw fa_l_is fa_l_divided fa_l_pair_holds fa_l_integer_holds fa_law : Addr} (X : K.In h) (G : h.Ns mainGlobals mg) (hfa : mg "law" = some (.ref fa))
    {od_BadNumber_init an_BadNumber_init : Option Addr} {sl_BadNumber_init : Array (Option Value)} {oc_BadNumber_init kV_BadNumber_init dc_BadNumber_init pm_BadNumber_init cd_BadNumber_init ct_BadNumber_init : Value}
    {od_is_integer an_is_integer : Option Addr} {sl_is_integer : Array (Option Value)} {oc_is_integer kV_is_integer dc_is_integer pm_is_integer cd_is_integer ct_is_integer : Value}
    {od_check_number an_check_number : Option Addr} {sl_check_number : Array (Option Value)} {oc_check_number kV_check_number dc_check_number pm_check_number cd_check_number ct_check_number : Value}
    {od_Ratio_init an_Ratio_init : Option Addr} {sl_Ratio_init : Array (Option Value)} {oc_Ratio_init kV_Ratio_init dc_Ratio_init pm_Ratio_init cd_Ratio_init ct_Ratio_init : Value}
    {dt_Ratio_init : Addr} {dto_Ratio_init : Obj} {dtn_Ratio_init : Nat} {dk_Ratio_init0 : Tok}
    {od_ratio_of an_ratio_of : Option Addr} {sl_ratio_of : Array (Option Value)} {oc_ratio_of kV_ratio_of dc_ratio_of pm_ratio_of cd_ratio_of ct_ratio_of : Value}
    {od_Ratio_eq an_Ratio_eq : Option Addr} {sl_Ratio_eq : Array (Option Value)} {oc_Ratio_eq kV_Ratio_eq dc_Ratio_eq pm_Ratio_eq cd_Ratio_eq ct_Ratio_eq : Value}
    {od_Ratio_add an_Ratio_add : Option Addr} {sl_Ratio_add : Array (Option Value)} {oc_Ratio_add kV_Ratio_add dc_Ratio_add pm_Ratio_add cd_Ratio_add ct_Ratio_add : Value}
    {od_Ratio_radd an_Ratio_radd : Option Addr} {sl_Ratio_radd : Array (Option Value)} {oc_Ratio_radd kV_Ratio_radd dc_Ratio_radd pm_Ratio_radd cd_Ratio_radd ct_Ratio_radd : Value}
    {od_Ratio_sub an_Ratio_sub : Option Addr} {sl_Ratio_sub : Array (Option Value)} {oc_Ratio_sub kV_Ratio_sub dc_Ratio_sub pm_Ratio_sub cd_Ratio_sub ct_Ratio_sub : Value}
    {od_Ratio_rsub an_Ratio_rsub : Option Addr} {sl_Ratio_rsub : Array (Option Value)} {oc_Ratio_rsub kV_Ratio_rsub dc_Ratio_rsub pm_Ratio_rsub cd_Ratio_rsub ct_Ratio_rsub : Value}
    {od_Ratio_mul an_Ratio_mul : Option Addr} {sl_Ratio_mul : Array (Option Value)} {oc_Ratio_mul kV_Ratio_mul dc_Ratio_mul pm_Ratio_mul cd_Ratio_mul ct_Ratio_mul : Value}
    {od_Ratio_rmul an_Ratio_rmul : Option Addr} {sl_Ratio_rmul : Array (Option Value)} {oc_Ratio_rmul kV_Ratio_rmul dc_Ratio_rmul pm_Ratio_rmul cd_Ratio_rmul ct_Ratio_rmul : Value}
    {od_Ratio_divided an_Ratio_divided : Option Addr} {sl_Ratio_divided : Array (Option Value)} {oc_Ratio_divided kV_Ratio_divided dc_Ratio_divided pm_Ratio_divided cd_Ratio_divided ct_Ratio_divided : Value}
    {od_l_start an_l_start : Option Addr} {sl_l_start : Array (Option Value)} {oc_l_start kV_l_start dc_l_start pm_l_start cd_l_start ct_l_start : Value}
    {od_l_draw an_l_draw : Option Addr} {sl_l_draw : Array (Option Value)} {oc_l_draw kV_l_draw dc_l_draw pm_l_draw cd_l_draw ct_l_draw : Value}
    {od_l_is an_l_is : Option Addr} {sl_l_is : Array (Option Value)} {oc_l_is kV_l_is dc_l_is pm_l_is cd_l_is ct_l_is : Value}
    {od_l_divided an_l_divided : Option Addr} {sl_l_divided : Array (Option Value)} {oc_l_divided kV_l_divided dc_l_divided pm_l_divided cd_l_divided ct_l_divided : Value}
    {od_l_pair_holds an_l_pair_holds : Option Addr} {sl_l_pair_holds : Array (Option Value)} {oc_l_pair_holds kV_l_pair_holds dc_l_pair_holds pm_l_pair_holds cd_l_pair_holds ct_l_pair_holds : Value}
    {od_l_integer_holds an_l_integer_holds : Option Addr} {sl_l_integer_holds : Array (Option Value)} {oc_l_integer_holds kV_l_integer_holds dc_l_integer_holds pm_l_integer_holds cd_l_integer_holds ct_l_integer_holds : Value}
    {od_law an_law : Option Addr} {sl_law : Array (Option Value)} {oc_law kV_law dc_law pm_law cd_law ct_law : Value}
    {nm_BadNumber q_BadNumber : Str} {N_BadNumber : Addr} {bs_BadNumber bm_BadNumber : List Value} {sn_BadNumber : List Str} {sub_BadNumber : List Value} {ab_BadNumber : Bool} {col_BadNumber : Option Bool} {dd_BadNumber : Option Addr} {m0_BadNumber m1_BadNumber m2_BadNumber m3_BadNumber m5_BadNumber : Option Value}
    (aC_VoteError : PySem.W.nsIn K mainGlobals "VoteError" = some (some (.ref ca_VoteError)))
    (aC_BadNumber : PySem.W.nsIn K mainGlobals "BadNumber" = some (some (.ref ca_BadNumber)))
    (aC_Ratio : PySem.W.nsIn K mainGlobals "Ratio" = some (some (.ref ca_Ratio)))
    (a_BadNumber_init : PySem.W.findIn K (.ref ca_BadNumber) "__init__" = some (some (.ref fa_BadNumber_init)))
    (l_BadNumber_init : K.lookup fa_BadNumber_init = some ⟨oc_BadNumber_init, od_BadNumber_init, .func (PySem.W.fnOf "__init__" "BadNumber.__init__" (defArgs s_BadNumber_init) (defBody s_BadNumber_init) (defScope s_BadNumber_init) .none kV_BadNumber_init dc_BadNumber_init pm_BadNumber_init an_BadNumber_init cd_BadNumber_init ct_BadNumber_init), sl_BadNumber_init⟩)
    (cc_BadNumber_init : PySem.W.codeIn K cd_BadNumber_init "BadNumber.__init__" = true)
    (kk_BadNumber_init : PySem.W.keepIn K (.ref fa_BadNumber_init) = true)
    (a_is_integer : PySem.W.nsIn K mainGlobals "is_integer" = some (some (.ref fa_is_integer)))
    (l_is_integer : K.lookup fa_is_integer = some ⟨oc_is_integer, od_is_integer, .func (PySem.W.fnOf "is_integer" "is_integer" (defArgs s_is_integer) (defBody s_is_integer) (defScope s_is_integer) .none kV_is_integer dc_is_integer pm_is_integer an_is_integer cd_is_integer ct_is_integer), sl_is_integer⟩)
    (cc_is_integer : PySem.W.codeIn K cd_is_integer "is_integer" = true)
    (kk_is_integer : PySem.W.keepIn K (.ref fa_is_integer) = true)
    (a_check_number : PySem.W.nsIn K mainGlobals "check_number" = some (some (.ref fa_check_number)))
    (l_check_number : K.lookup fa_check_number = some ⟨oc_check_number, od_check_number, .func (PySem.W.fnOf "check_number" "check_number" (defArgs s_check_number) (defBody s_check_number) (defScope s_check_number) .none kV_check_number dc_check_number pm_check_number an_check_number cd_check_number ct_check_number), sl_check_number⟩)
    (cc_check_number : PySem.W.codeIn K cd_check_number "check_number" = true)
    (kk_check_number : PySem.W.keepIn K (.ref fa_check_number) = true)
    (a_Ratio_init : PySem.W.findIn K (.ref ca_Ratio) "__init__" = some (some (.ref fa_Ratio_init)))
    (i_Ratio_init : PySem.W.isFn K (.ref fa_Ratio_init) = true)
    (l_Ratio_init : K.lookup fa_Ratio_init = some ⟨oc_Ratio_init, od_Ratio_init, .func (PySem.W.fnOf "__init__" "Ratio.__init__" (defArgs s_Ratio_init) (defBody s_Ratio_init) (defScope s_Ratio_init) (.ref dt_Ratio_init) kV_Ratio_init dc_Ratio_init pm_Ratio_init an_Ratio_init cd_Ratio_init ct_Ratio_init), sl_Ratio_init⟩)
    (cc_Ratio_init : PySem.W.codeIn K cd_Ratio_init "Ratio.__init__" = true)
    (kk_Ratio_init : PySem.W.keepIn K (.ref fa_Ratio_init) = true)
    (dl_Ratio_init : K.lookup dt_Ratio_init = some dto_Ratio_init)
    (dd_Ratio_init : dto_Ratio_init.data = .seq [.int 1 dk_Ratio_init0].toArray dtn_Ratio_init)
    (a_ratio_of : PySem.W.nsIn K mainGlobals "ratio_of" = some (some (.ref fa_ratio_of)))
    (l_ratio_of : K.lookup fa_ratio_of = some ⟨oc_ratio_of, od_ratio_of, .func (PySem.W.fnOf "ratio_of" "ratio_of" (defArgs s_ratio_of) (defBody s_ratio_of) (defScope s_ratio_of) .none kV_ratio_of dc_ratio_of pm_ratio_of an_ratio_of cd_ratio_of ct_ratio_of), sl_ratio_of⟩)
    (cc_ratio_of : PySem.W.codeIn K cd_ratio_of "ratio_of" = true)
    (kk_ratio_of : PySem.W.keepIn K (.ref fa_ratio_of) = true)
    (a_Ratio_eq : PySem.W.findIn K (.ref ca_Ratio) "__eq__" = some (some (.ref fa_Ratio_eq)))
    (i_Ratio_eq : PySem.W.isFn K (.ref fa_Ratio_eq) = true)
    (l_Ratio_eq : K.lookup fa_Ratio_eq = some ⟨oc_Ratio_eq, od_Ratio_eq, .func (PySem.W.fnOf "__eq__" "Ratio.__eq__" (defArgs s_Ratio_eq) (defBody s_Ratio_eq) (defScope s_Ratio_eq) .none kV_Ratio_eq dc_Ratio_eq pm_Ratio_eq an_Ratio_eq cd_Ratio_eq ct_Ratio_eq), sl_Ratio_eq⟩)
    (cc_Ratio_eq : PySem.W.codeIn K cd_Ratio_eq "Ratio.__eq__" = true)
    (kk_Ratio_eq : PySem.W.keepIn K (.ref fa_Ratio_eq) = true)
    (a_Ratio_add : PySem.W.findIn K (.ref ca_Ratio) "__add__" = some (some (.ref fa_Ratio_add)))
    (i_Ratio_add : PySem.W.isFn K (.ref fa_Ratio_add) = true)
    (l_Ratio_add : K.lookup fa_Ratio_add = some ⟨oc_Ratio_add, od_Ratio_add, .func (PySem.W.fnOf "__add__" "Ratio.__add__" (defArgs s_Ratio_add) (defBody s_Ratio_add) (defScope s_Ratio_add) .none kV_Ratio_add dc_Ratio_add pm_Ratio_add an_Ratio_add cd_Ratio_add ct_Ratio_add), sl_Ratio_add⟩)
    (cc_Ratio_add : PySem.W.codeIn K cd_Ratio_add "Ratio.__add__" = true)
    (kk_Ratio_add : PySem.W.keepIn K (.ref fa_Ratio_add) = true)
    (a_Ratio_radd : PySem.W.findIn K (.ref ca_Ratio) "__radd__" = some (some (.ref fa_Ratio_radd)))
    (i_Ratio_radd : PySem.W.isFn K (.ref fa_Ratio_radd) = true)
    (l_Ratio_radd : K.lookup fa_Ratio_radd = some ⟨oc_Ratio_radd, od_Ratio_radd, .func (PySem.W.fnOf "__radd__" "Ratio.__radd__" (defArgs s_Ratio_radd) (defBody s_Ratio_radd) (defScope s_Ratio_radd) .none kV_Ratio_radd dc_Ratio_radd pm_Ratio_radd an_Ratio_radd cd_Ratio_radd ct_Ratio_radd), sl_Ratio_radd⟩)
    (cc_Ratio_radd : PySem.W.codeIn K cd_Ratio_radd "Ratio.__radd__" = true)
    (kk_Ratio_radd : PySem.W.keepIn K (.ref fa_Ratio_radd) = true)
    (a_Ratio_sub : PySem.W.findIn K (.ref ca_Ratio) "__sub__" = some (some (.ref fa_Ratio_sub)))
    (i_Ratio_sub : PySem.W.isFn K (.ref fa_Ratio_sub) = true)
    (l_Ratio_sub : K.lookup fa_Ratio_sub = some ⟨oc_Ratio_sub, od_Ratio_sub, .func (PySem.W.fnOf "__sub__" "Ratio.__sub__" (defArgs s_Ratio_sub) (defBody s_Ratio_sub) (defScope s_Ratio_sub) .none kV_Ratio_sub dc_Ratio_sub pm_Ratio_sub an_Ratio_sub cd_Ratio_sub ct_Ratio_sub), sl_Ratio_sub⟩)
    (cc_Ratio_sub : PySem.W.codeIn K cd_Ratio_sub "Ratio.__sub__" = true)
    (kk_Ratio_sub : PySem.W.keepIn K (.ref fa_Ratio_sub) = true)
    (a_Ratio_rsub : PySem.W.findIn K (.ref ca_Ratio) "__rsub__" = some (some (.ref fa_Ratio_rsub)))
    (i_Ratio_rsub : PySem.W.isFn K (.ref fa_Ratio_rsub) = true)
    (l_Ratio_rsub : K.lookup fa_Ratio_rsub = some ⟨oc_Ratio_rsub, od_Ratio_rsub, .func (PySem.W.fnOf "__rsub__" "Ratio.__rsub__" (defArgs s_Ratio_rsub) (defBody s_Ratio_rsub) (defScope s_Ratio_rsub) .none kV_Ratio_rsub dc_Ratio_rsub pm_Ratio_rsub an_Ratio_rsub cd_Ratio_rsub ct_Ratio_rsub), sl_Ratio_rsub⟩)
    (cc_Ratio_rsub : PySem.W.codeIn K cd_Ratio_rsub "Ratio.__rsub__" = true)
    (kk_Ratio_rsub : PySem.W.keepIn K (.ref fa_Ratio_rsub) = true)
    (a_Ratio_mul : PySem.W.findIn K (.ref ca_Ratio) "__mul__" = some (some (.ref fa_Ratio_mul)))
    (i_Ratio_mul : PySem.W.isFn K (.ref fa_Ratio_mul) = true)
    (l_Ratio_mul : K.lookup fa_Ratio_mul = some ⟨oc_Ratio_mul, od_Ratio_mul, .func (PySem.W.fnOf "__mul__" "Ratio.__mul__" (defArgs s_Ratio_mul) (defBody s_Ratio_mul) (defScope s_Ratio_mul) .none kV_Ratio_mul dc_Ratio_mul pm_Ratio_mul an_Ratio_mul cd_Ratio_mul ct_Ratio_mul), sl_Ratio_mul⟩)
    (cc_Ratio_mul : PySem.W.codeIn K cd_Ratio_mul "Ratio.__mul__" = true)
    (kk_Ratio_mul : PySem.W.keepIn K (.ref fa_Ratio_mul) = true)
    (a_Ratio_rmul : PySem.W.findIn K (.ref ca_Ratio) "__rmul__" = some (some (.ref fa_Ratio_rmul)))
    (i_Ratio_rmul : PySem.W.isFn K (.ref fa_Ratio_rmul) = true)
    (l_Ratio_rmul : K.lookup fa_Ratio_rmul = some ⟨oc_Ratio_rmul, od_Ratio_rmul, .func (PySem.W.fnOf "__rmul__" "Ratio.__rmul__" (defArgs s_Ratio_rmul) (defBody s_Ratio_rmul) (defScope s_Ratio_rmul) .none kV_Ratio_rmul dc_Ratio_rmul pm_Ratio_rmul an_Ratio_rmul cd_Ratio_rmul ct_Ratio_rmul), sl_Ratio_rmul⟩)
    (cc_Ratio_rmul : PySem.W.codeIn K cd_Ratio_rmul "Ratio.__rmul__" = true)
    (kk_Ratio_rmul : PySem.W.keepIn K (.ref fa_Ratio_rmul) = true)
    (a_Ratio_divided : PySem.W.findIn K (.ref ca_Ratio) "divided" = some (some (.ref fa_Ratio_divided)))
    (i_Ratio_divided : PySem.W.isFn K (.ref fa_Ratio_divided) = true)
    (l_Ratio_divided : K.lookup fa_Ratio_divided = some ⟨oc_Ratio_divided, od_Ratio_divided, .func (PySem.W.fnOf "divided" "Ratio.divided" (defArgs s_Ratio_divided) (defBody s_Ratio_divided) (defScope s_Ratio_divided) .none kV_Ratio_divided dc_Ratio_divided pm_Ratio_divided an_Ratio_divided cd_Ratio_divided ct_Ratio_divided), sl_Ratio_divided⟩)
    (cc_Ratio_divided : PySem.W.codeIn K cd_Ratio_divided "Ratio.divided" = true)
    (kk_Ratio_divided : PySem.W.keepIn K (.ref fa_Ratio_divided) = true)
    (a_l_start : PySem.W.nsIn K mainGlobals "_law_start" = some (some (.ref fa_l_start)))
    (l_l_start : K.lookup fa_l_start = some ⟨oc_l_start, od_l_start, .func (PySem.W.fnOf "_law_start" "_law_start" (defArgs s_l_start) (defBody s_l_start) (defScope s_l_start) .none kV_l_start dc_l_start pm_l_start an_l_start cd_l_start ct_l_start), sl_l_start⟩)
    (cc_l_start : PySem.W.codeIn K cd_l_start "_law_start" = true)
    (kk_l_start : PySem.W.keepIn K (.ref fa_l_start) = true)
    (a_l_draw : PySem.W.nsIn K mainGlobals "_law_draw" = some (some (.ref fa_l_draw)))
    (l_l_draw : K.lookup fa_l_draw = some ⟨oc_l_draw, od_l_draw, .func (PySem.W.fnOf "_law_draw" "_law_draw" (defArgs s_l_draw) (defBody s_l_draw) (defScope s_l_draw) .none kV_l_draw dc_l_draw pm_l_draw an_l_draw cd_l_draw ct_l_draw), sl_l_draw⟩)
    (cc_l_draw : PySem.W.codeIn K cd_l_draw "_law_draw" = true)
    (kk_l_draw : PySem.W.keepIn K (.ref fa_l_draw) = true)
    (a_l_is : PySem.W.nsIn K mainGlobals "_law_is" = some (some (.ref fa_l_is)))
    (l_l_is : K.lookup fa_l_is = some ⟨oc_l_is, od_l_is, .func (PySem.W.fnOf "_law_is" "_law_is" (defArgs s_l_is) (defBody s_l_is) (defScope s_l_is) .none kV_l_is dc_l_is pm_l_is an_l_is cd_l_is ct_l_is), sl_l_is⟩)
    (cc_l_is : PySem.W.codeIn K cd_l_is "_law_is" = true)
    (kk_l_is : PySem.W.keepIn K (.ref fa_l_is) = true)
    (a_l_divided : PySem.W.nsIn K mainGlobals "_law_divided" = some (some (.ref fa_l_divided)))
    (l_l_divided : K.lookup fa_l_divided = some ⟨oc_l_divided, od_l_divided, .func (PySem.W.fnOf "_law_divided" "_law_divided" (defArgs s_l_divided) (defBody s_l_divided) (defScope s_l_divided) .none kV_l_divided dc_l_divided pm_l_divided an_l_divided cd_l_divided ct_l_divided), sl_l_divided⟩)
    (cc_l_divided : PySem.W.codeIn K cd_l_divided "_law_divided" = true)
    (kk_l_divided : PySem.W.keepIn K (.ref fa_l_divided) = true)
    (a_l_pair_holds : PySem.W.nsIn K mainGlobals "_law_pair_holds" = some (some (.ref fa_l_pair_holds)))
    (l_l_pair_holds : K.lookup fa_l_pair_holds = some ⟨oc_l_pair_holds, od_l_pair_holds, .func (PySem.W.fnOf "_law_pair_holds" "_law_pair_holds" (defArgs s_l_pair_holds) (defBody s_l_pair_holds) (defScope s_l_pair_holds) .none kV_l_pair_holds dc_l_pair_holds pm_l_pair_holds an_l_pair_holds cd_l_pair_holds ct_l_pair_holds), sl_l_pair_holds⟩)
    (cc_l_pair_holds : PySem.W.codeIn K cd_l_pair_holds "_law_pair_holds" = true)
    (kk_l_pair_holds : PySem.W.keepIn K (.ref fa_l_pair_holds) = true)
    (a_l_integer_holds : PySem.W.nsIn K mainGlobals "_law_integer_holds" = some (some (.ref fa_l_integer_holds)))
    (l_l_integer_holds : K.lookup fa_l_integer_holds = some ⟨oc_l_integer_holds, od_l_integer_holds, .func (PySem.W.fnOf "_law_integer_holds" "_law_integer_holds" (defArgs s_l_integer_holds) (defBody s_l_integer_holds) (defScope s_l_integer_holds) .none kV_l_integer_holds dc_l_integer_holds pm_l_integer_holds an_l_integer_holds cd_l_integer_holds ct_l_integer_holds), sl_l_integer_holds⟩)
    (cc_l_integer_holds : PySem.W.codeIn K cd_l_integer_holds "_law_integer_holds" = true)
    (kk_l_integer_holds : PySem.W.keepIn K (.ref fa_l_integer_holds) = true)
    (a_law : PySem.W.nsIn K mainGlobals "law" = some (some (.ref fa_law)))
    (l_law : K.lookup fa_law = some ⟨oc_law, od_law, .func (PySem.W.fnOf "law" "law" (defArgs s_law) (defBody s_law) (defScope s_law) .none kV_law dc_law pm_law an_law cd_law ct_law), sl_law⟩)
    (cc_law : PySem.W.codeIn K cd_law "law" = true)
    (kk_law : PySem.W.keepIn K (.ref fa_law) = true)
    (xL_BadNumber : K.lookup ca_BadNumber = some (excClassObj nm_BadNumber q_BadNumber ca_BadNumber N_BadNumber bs_BadNumber bm_BadNumber true sn_BadNumber sub_BadNumber ab_BadNumber col_BadNumber dd_BadNumber m0_BadNumber m1_BadNumber m2_BadNumber m3_BadNumber m5_BadNumber "ValueError.__new__"))
    (bm_ok_BadNumber : PySem.HandSPX.refsVE bm_BadNumber = true)
    (sa_BadNumber : PySem.W.findIn K (.ref ca_BadNumber) "__setattr__" = some (some (.builtin "object.__setattr__")))
    (eC_BadNumber : PySem.W.subIn K (.ref ca_BadNumber) (.type "BaseException") = some true)
    (tC_BadNumber : PySem.W.typeIn K (.ref ca_BadNumber) = some (.type "type"))
    (kC_BadNumber : PySem.W.keepIn K (.ref ca_BadNumber) = true)
    (tI_BadNumber : PySem.W.typeIn K (.ref fa_BadNumber_init) = some (.type "function"))
    (ga_BadNumber : PySem.W.findIn K (.ref ca_BadNumber) "__getattribute__" = some (some (.builtin "BaseException.__getattribute__")))
    (gg_BadNumber : PySem.W.findIn K (.ref ca_BadNumber) "__getattr__" = some none)
    (hd_BadNumber : PySem.W.hasDictIn K ca_BadNumber = true)
    (ic_BadNumber : PySem.W.isClsIn K ca_BadNumber = true)
    (cc_BadNumber : PySem.W.findIn K (.ref ca_BadNumber) "__class__" = some (some (.builtin "object.__class__")))
    (cm_BadNumber : PySem.W.mroIn K ca_BadNumber (.type "object") = some true)
    (n_BadNumber_what : PySem.W.findIn K (.ref ca_BadNumber) "what" = some none)
    (n_BadNumber_value : PySem.W.findIn K (.ref ca_BadNumber) "value" = some none)
    (cn_ : PySem.W.specialIn K (.builtin "object.__class__") "__get__" = some (some (.builtin "getset_descriptor.__get__")))
    (ct_ : PySem.W.takesIn K (.builtin "object.__class__") = some true)
    (pg_Ratio : PySem.W.plainGet K ca_Ratio Str.empty = true)
    (hd_Ratio : PySem.W.hasDictIn K ca_Ratio = true)
    (po_Ratio : PySem.W.plainOver K ca_Ratio = true)
    (sa_Ratio : PySem.W.findIn K (.ref ca_Ratio) "__setattr__" = some (some (.builtin "object.__setattr__")))
    (mk_Ratio : PySem.W.makesIn K ca_Ratio = true)
    (kc_Ratio : PySem.W.keepIn K (.ref ca_Ratio) = true)
    (oh_Ratio_add : PySem.W.findIn K (.ref ca_Ratio) (PySem.dunder "add") = some (some (.ref fa_Ratio_add)))
    (oh_Ratio_radd : PySem.W.findIn K (.ref ca_Ratio) (PySem.dunderR "add") = some (some (.ref fa_Ratio_radd)))
    (oh_Ratio_sub : PySem.W.findIn K (.ref ca_Ratio) (PySem.dunder "sub") = some (some (.ref fa_Ratio_sub)))
    (oh_Ratio_rsub : PySem.W.findIn K (.ref ca_Ratio) (PySem.dunderR "sub") = some (some (.ref fa_Ratio_rsub)))
    (oh_Ratio_mul : PySem.W.findIn K (.ref ca_Ratio) (PySem.dunder "mul") = some (some (.ref fa_Ratio_mul)))
    (oh_Ratio_rmul : PySem.W.findIn K (.ref ca_Ratio) (PySem.dunderR "mul") = some (some (.ref fa_Ratio_rmul)))
    (sf_Ratio : PySem.W.selfFirst K ca_Ratio = true)
    (ni_Ratio : PySem.W.subIn K (.ref ca_Ratio) (.type "int") = some false)
    (in_Ratio : PySem.W.subIn K (.type "int") (.ref ca_Ratio) = some false)
    (ne_Ratio : PySem.W.findIn K (.ref ca_Ratio) "__ne__" = some (some (.builtin "object.__ne__")))
    (cc_Ratio : PySem.W.findIn K (.ref ca_Ratio) "__class__" = some (some (.builtin "object.__class__")))
    (cm_Ratio : PySem.W.mroIn K ca_Ratio (.type "object") = some true)
    (n_Ratio_over : PySem.W.findIn K (.ref ca_Ratio) "over" = some none)
    (n_Ratio_under : PySem.W.findIn K (.ref ca_Ratio) "under" = some none)
    (ih_add : PySem.W.findIn K (.type "int") (PySem.dunder "add") = some (some (.builtin "int.__add__")))
    (ihr_add : PySem.W.findIn K (.type "int") (PySem.dunderR "add") = some (some (.builtin "int.__radd__")))
    (ih_sub : PySem.W.findIn K (.type "int") (PySem.dunder "sub") = some (some (.builtin "int.__sub__")))
    (ihr_sub : PySem.W.findIn K (.type "int") (PySem.dunderR "sub") = some (some (.builtin "int.__rsub__")))
    (ih_mul : PySem.W.findIn K (.type "int") (PySem.dunder "mul") = some (some (.builtin "int.__mul__")))
    (ihr_mul : PySem.W.findIn K (.type "int") (PySem.dunderR "mul") = some (some (.builtin "int.__rmul__")))
    (ki_Ratio_Ratio : PySem.W.kitOne K (.ref ca_Ratio) (.ref ca_Ratio) = some true)
    (ki_int_Ratio : PySem.W.kitOne K (.type "int") (.ref ca_Ratio) = some false)
    (sb_BadNumber_BadNumber : PySem.W.subIn K (.ref ca_BadNumber) (.ref ca_BadNumber) = some true)
    (gi_gcd : PySem.W.nsIn K mainGlobals "gcd" = some (some (.builtin "math.gcd")))
    (mb_abs : PySem.W.nsIn K mainGlobals "abs" = some none)
    (mb_all : PySem.W.nsIn K mainGlobals "all" = some none)
    (mb_bool : PySem.W.nsIn K mainGlobals "bool" = some none)
    (mb_int : PySem.W.nsIn K mainGlobals "int" = some none)
    (mb_isinstance : PySem.W.nsIn K mainGlobals "isinstance" = some none)
    (mb_len : PySem.W.nsIn K mainGlobals "len" = some none)
    (mb_range : PySem.W.nsIn K mainGlobals "range" = some none) :
    ∃ fd : FuncData, (∀ (s : Shared) (v : Value), BindsTo s fd ⟨[v], []⟩ [("_law_script", v)]) ∧ ∀ base : Heap, K.In base → base.Ns mainGlobals mg → FnOk l.prog w K mg base CX0 10 fa fd ["_law_script"] (spLaw K) := by
  have e := hfa.symm.trans (PySem.W.mg_of X G a_law)
  cases e
  have FF_BadNumber_init := fun_mk (st := s_BadNumber_init) l_BadNumber_init cc_BadNumber_init kk_BadNumber_init
  have bb_BadNumber_init := FF_BadNumber_init.binds (ps := ["self", "what", "value"]) fun _ _ _ _ _ _ us hl => match us, hl with | [_, _, _], _ => rfl
  have FF_is_integer := fun_mk (st := s_is_integer) l_is_integer cc_is_integer kk_is_integer
  have bb_is_integer := FF_is_integer.binds (ps := ["value"]) fun _ _ _ _ _ _ us hl => match us, hl with | [_], _ => rfl
  have FF_check_number := fun_mk (st := s_check_number) l_check_number cc_check_number kk_check_number
  have bb_check_number := FF_check_number.binds (ps := ["what", "value", "low", "high"]) fun _ _ _ _ _ _ us hl => match us, hl with | [_, _, _, _], _ => rfl
  have FF_Ratio_init : FunD K "__init__" "Ratio.__init__" (defArgs s_Ratio_init) (defBody s_Ratio_init) (defScope s_Ratio_init) [.int 1] [] fa_Ratio_init _ := ⟨⟨_, _, _, _, _, _, _, _, _, _, rfl, l_Ratio_init, cc_Ratio_init, .inr ⟨by simp, dt_Ratio_init, dto_Ratio_init, _, dtn_Ratio_init, rfl, dl_Ratio_init, dd_Ratio_init, (.cons ⟨_, rfl⟩ .nil)⟩, .inl rfl⟩, kk_Ratio_init⟩
  obtain ⟨dv_Ratio_init1, vv_Ratio_init1, bb_Ratio_init1⟩ := FF_Ratio_init.binds1 (ps := ["self", "over", "under"]) 2 0 (by simp) (by simp) fun _ _ _ _ _ _ _ us its hl hi => match us, its, hl, hi with | [_, _], [_], _, _ => ⟨_, rfl, rfl⟩
  obtain ⟨dv_Ratio_init2, vv_Ratio_init2, bb_Ratio_init2⟩ := FF_Ratio_init.binds1 (ps := ["self", "over", "under"]) 3 1 (by simp) (by simp) fun _ _ _ _ _ _ _ us its hl hi => match us, its, hl, hi with | [_, _, _], [_], _, _ => ⟨_, rfl, rfl⟩
  have FF_ratio_of := fun_mk (st := s_ratio_of) l_ratio_of cc_ratio_of kk_ratio_of
  have bb_ratio_of := FF_ratio_of.binds (ps := ["value"]) fun _ _ _ _ _ _ us hl => match us, hl with | [_], _ => rfl
  have FF_Ratio_eq := fun_mk (st := s_Ratio_eq) l_Ratio_eq cc_Ratio_eq kk_Ratio_eq
  have bb_Ratio_eq := FF_Ratio_eq.binds (ps := ["self", "other"]) fun _ _ _ _ _ _ us hl => match us, hl with | [_, _], _ => rfl
  have FF_Ratio_add := fun_mk (st := s_Ratio_add) l_Ratio_add cc_Ratio_add kk_Ratio_add
  have bb_Ratio_add := FF_Ratio_add.binds (ps := ["self", "other"]) fun _ _ _ _ _ _ us hl => match us, hl with | [_, _], _ => rfl
  have FF_Ratio_radd := fun_mk (st := s_Ratio_radd) l_Ratio_radd cc_Ratio_radd kk_Ratio_radd
  have bb_Ratio_radd := FF_Ratio_radd.binds (ps := ["self", "other"]) fun _ _ _ _ _ _ us hl => match us, hl with | [_, _], _ => rfl
  have FF_Ratio_sub := fun_mk (st := s_Ratio_sub) l_Ratio_sub cc_Ratio_sub kk_Ratio_sub
  have bb_Ratio_sub := FF_Ratio_sub.binds (ps := ["self", "other"]) fun _ _ _ _ _ _ us hl => match us, hl with | [_, _], _ => rfl
  have FF_Ratio_rsub := fun_mk (st := s_Ratio_rsub) l_Ratio_rsub cc_Ratio_rsub kk_Ratio_rsub
  have bb_Ratio_rsub := FF_Ratio_rsub.binds (ps := ["self", "other"]) fun _ _ _ _ _ _ us hl => match us, hl with | [_, _], _ => rfl
  have FF_Ratio_mul := fun_mk (st := s_Ratio_mul) l_Ratio_mul cc_Ratio_mul kk_Ratio_mul
  have bb_Ratio_mul := FF_Ratio_mul.binds (ps := ["self", "other"]) fun _ _ _ _ _ _ us hl => match us, hl with | [_, _], _ => rfl
  have FF_Ratio_rmul := fun_mk (st := s_Ratio_rmul) l_Ratio_rmul cc_Ratio_rmul kk_Ratio_rmul
  have bb_Ratio_rmul := FF_Ratio_rmul.binds (ps := ["self", "other"]) fun _ _ _ _ _ _ us hl => match us, hl with | [_, _], _ => rfl
  have FF_Ratio_divided := fun_mk (st := s_Ratio_divided) l_Ratio_divided cc_Ratio_divided kk_Ratio_divided
  have bb_Ratio_divided := FF_Ratio_divided.binds (ps := ["self", "other"]) fun _ _ _ _ _ _ us hl => match us, hl with | [_, _], _ => rfl
  have FF_l_start := fun_mk (st := s_l_start) l_l_start cc_l_start kk_l_start
  have bb_l_start := FF_l_start.binds (ps := ["_law_script"]) fun _ _ _ _ _ _ us hl => match us, hl with | [_], _ => rfl
  have FF_l_draw := fun_mk (st := s_l_draw) l_l_draw cc_l_draw kk_l_draw
  have bb_l_draw := FF_l_draw.binds (ps := ["_law_script", "_law_state", "_law_limit"]) fun _ _ _ _ _ _ us hl => match us, hl with | [_, _, _], _ => rfl
  have FF_l_is := fun_mk (st := s_l_is) l_l_is cc_l_is kk_l_is
  have bb_l_is := FF_l_is.binds (ps := ["_law_value", "_law_over", "_law_under"]) fun _ _ _ _ _ _ us hl => match us, hl with | [_, _, _], _ => rfl
  have FF_l_divided := fun_mk (st := s_l_divided) l_l_divided cc_l_divided kk_l_divided
  have bb_l_divided := FF_l_divided.binds (ps := ["_law_value", "_law_other"]) fun _ _ _ _ _ _ us hl => match us, hl with | [_, _], _ => rfl
  have FF_l_pair_holds := fun_mk (st := s_l_pair_holds) l_l_pair_holds cc_l_pair_holds kk_l_pair_holds
  have bb_l_pair_holds := FF_l_pair_holds.binds (ps := ["_law_one", "_law_two", "_law_a", "_law_b", "_law_c", "_law_d"]) fun _ _ _ _ _ _ us hl => match us, hl with | [_, _, _, _, _, _], _ => rfl
  have FF_l_integer_holds := fun_mk (st := s_l_integer_holds) l_l_integer_holds cc_l_integer_holds kk_l_integer_holds
  have bb_l_integer_holds := FF_l_integer_holds.binds (ps := ["_law_one", "_law_a", "_law_b", "_law_n"]) fun _ _ _ _ _ _ us hl => match us, hl with | [_, _, _, _], _ => rfl
  have FF_law := fun_mk (st := s_law) l_law cc_law kk_law
  have bb_law := FF_law.binds (ps := ["_law_script"]) fun _ _ _ _ _ _ us hl => match us, hl with | [_], _ => rfl
  exact ⟨PySem.W.fnOf "law" "law" (defArgs s_law) (defBody s_law) (defScope s_law) .none kV_law dc_law pm_law an_law cd_law ct_law, fun s v => .of_eq rfl, fun base _ _ => ok_law (T := {
    c_VoteError := ca_VoteError,
    gc_VoteError := PySem.W.mg_of X G aC_VoteError,
    c_BadNumber := ca_BadNumber,
    gc_BadNumber := PySem.W.mg_of X G aC_BadNumber,
    c_Ratio := ca_Ratio,
    gc_Ratio := PySem.W.mg_of X G aC_Ratio,
    f_BadNumber_init := fa_BadNumber_init,
    fd_BadNumber_init := _,
    F_BadNumber_init := FF_BadNumber_init,
    b_BadNumber_init := bb_BadNumber_init,
    f_is_integer := fa_is_integer,
    fd_is_integer := _,
    F_is_integer := FF_is_integer,
    b_is_integer := bb_is_integer,
    g_is_integer := PySem.W.mg_of X G a_is_integer,
    f_check_number := fa_check_number,
    fd_check_number := _,
    F_check_number := FF_check_number,
    b_check_number := bb_check_number,
    g_check_number := PySem.W.mg_of X G a_check_number,
    f_Ratio_init := fa_Ratio_init,
    fd_Ratio_init := _,
    F_Ratio_init := FF_Ratio_init,
    d_Ratio_init1 := dv_Ratio_init1,
    v_Ratio_init1 := vv_Ratio_init1,
    b_Ratio_init1 := bb_Ratio_init1,
    d_Ratio_init2 := dv_Ratio_init2,
    v_Ratio_init2 := vv_Ratio_init2,
    b_Ratio_init2 := bb_Ratio_init2,
    f_ratio_of := fa_ratio_of,
    fd_ratio_of := _,
    F_ratio_of := FF_ratio_of,
    b_ratio_of := bb_ratio_of,
    g_ratio_of := PySem.W.mg_of X G a_ratio_of,
    f_Ratio_eq := fa_Ratio_eq,
    fd_Ratio_eq := _,
    F_Ratio_eq := FF_Ratio_eq,
    b_Ratio_eq := bb_Ratio_eq,
    me_Ratio_eq := ⟨a_Ratio_eq, i_Ratio_eq, kk_Ratio_eq⟩,
    f_Ratio_add := fa_Ratio_add,
    fd_Ratio_add := _,
    F_Ratio_add := FF_Ratio_add,
    b_Ratio_add := bb_Ratio_add,
    me_Ratio_add := ⟨a_Ratio_add, i_Ratio_add, kk_Ratio_add⟩,
    f_Ratio_radd := fa_Ratio_radd,
    fd_Ratio_radd := _,
    F_Ratio_radd := FF_Ratio_radd,
    b_Ratio_radd := bb_Ratio_radd,
    me_Ratio_radd := ⟨a_Ratio_radd, i_Ratio_radd, kk_Ratio_radd⟩,
    f_Ratio_sub := fa_Ratio_sub,
    fd_Ratio_sub := _,
    F_Ratio_sub := FF_Ratio_sub,
    b_Ratio_sub := bb_Ratio_sub,
    me_Ratio_sub := ⟨a_Ratio_sub, i_Ratio_sub, kk_Ratio_sub⟩,
    f_Ratio_rsub := fa_Ratio_rsub,
    fd_Ratio_rsub := _,
    F_Ratio_rsub := FF_Ratio_rsub,
    b_Ratio_rsub := bb_Ratio_rsub,
    me_Ratio_rsub := ⟨a_Ratio_rsub, i_Ratio_rsub, kk_Ratio_rsub⟩,
    f_Ratio_mul := fa_Ratio_mul,
    fd_Ratio_mul := _,
    F_Ratio_mul := FF_Ratio_mul,
    b_Ratio_mul := bb_Ratio_mul,
    me_Ratio_mul := ⟨a_Ratio_mul, i_Ratio_mul, kk_Ratio_mul⟩,
    f_Ratio_rmul := fa_Ratio_rmul,
    fd_Ratio_rmul := _,
    F_Ratio_rmul := FF_Ratio_rmul,
    b_Ratio_rmul := bb_Ratio_rmul,
    me_Ratio_rmul := ⟨a_Ratio_rmul, i_Ratio_rmul, kk_Ratio_rmul⟩,
    f_Ratio_divided := fa_Ratio_divided,
    fd_Ratio_divided := _,
    F_Ratio_divided := FF_Ratio_divided,
    b_Ratio_divided := bb_Ratio_divided,
    me_Ratio_divided := ⟨a_Ratio_divided, i_Ratio_divided, kk_Ratio_divided⟩,
    f_l_start := fa_l_start,
    fd_l_start := _,
    F_l_start := FF_l_start,
    b_l_start := bb_l_start,
    g_l_start := PySem.W.mg_of X G a_l_start,
    f_l_draw := fa_l_draw,
    fd_l_draw := _,
    F_l_draw := FF_l_draw,
    b_l_draw := bb_l_draw,
    g_l_draw := PySem.W.mg_of X G a_l_draw,
    f_l_is := fa_l_is,
    fd_l_is := _,
    F_l_is := FF_l_is,
    b_l_is := bb_l_is,
    g_l_is := PySem.W.mg_of X G a_l_is,
    f_l_divided := fa_l_divided,
    fd_l_divided := _,
    F_l_divided := FF_l_divided,
    b_l_divided := bb_l_divided,
    g_l_divided := PySem.W.mg_of X G a_l_divided,
    f_l_pair_holds := fa_l_pair_holds,
    fd_l_pair_holds := _,
    F_l_pair_holds := FF_l_pair_holds,
    b_l_pair_holds := bb_l_pair_holds,
    g_l_pair_holds := PySem.W.mg_of X G a_l_pair_holds,
    f_l_integer_holds := fa_l_integer_holds,
    fd_l_integer_holds := _,
    F_l_integer_holds := FF_l_integer_holds,
    b_l_integer_holds := bb_l_integer_holds,
    g_l_integer_holds := PySem.W.mg_of X G a_l_integer_holds,
    f_law := fa,
    fd_law := _,
    F_law := FF_law,
    b_law := bb_law,
    g_law := PySem.W.mg_of X G a_law,
    ox_BadNumber := ⟨⟨_, _, _, _, _, _, _, _, _, _, _, _, _, _, _, xL_BadNumber, bm_ok_BadNumber⟩, sa_BadNumber, eC_BadNumber, tC_BadNumber, kC_BadNumber⟩,
    xn_BadNumber := a_BadNumber_init,
    xt_BadNumber := tI_BadNumber,
    xf_BadNumber := ⟨ga_BadNumber, gg_BadNumber, eC_BadNumber, hd_BadNumber⟩,
    xi_BadNumber := ⟨ic_BadNumber, ga_BadNumber, gg_BadNumber, eC_BadNumber, cc_BadNumber, cn_, ct_, cm_BadNumber⟩,
    n_BadNumber_what := n_BadNumber_what,
    n_BadNumber_value := n_BadNumber_value,
    oh_Ratio_add := oh_Ratio_add,
    oh_Ratio_radd := oh_Ratio_radd,
    oh_Ratio_sub := oh_Ratio_sub,
    oh_Ratio_rsub := oh_Ratio_rsub,
    oh_Ratio_mul := oh_Ratio_mul,
    oh_Ratio_rmul := oh_Ratio_rmul,
    oc_Ratio := ⟨sf_Ratio, PySem.W.ksp_first sf_Ratio, ni_Ratio, in_Ratio, ne_Ratio, cm_Ratio⟩,
    ic_Ratio := ⟨⟨pg_Ratio, hd_Ratio, po_Ratio, sa_Ratio⟩, cc_Ratio, cn_, ct_, cm_Ratio⟩,
    cl_Ratio := ⟨pg_Ratio, hd_Ratio, po_Ratio, sa_Ratio⟩,
    M_Ratio := ⟨mk_Ratio, a_Ratio_init, i_Ratio_init, kc_Ratio⟩,
    n_Ratio_over := n_Ratio_over,
    n_Ratio_under := n_Ratio_under,
    ih_add := ih_add,
    ihr_add := ihr_add,
    ih_sub := ih_sub,
    ihr_sub := ihr_sub,
    ih_mul := ih_mul,
    ihr_mul := ihr_mul,
    ki_Ratio_Ratio := ki_Ratio_Ratio,
    ki_int_Ratio := ki_int_Ratio,
    ex_BadNumber_BadNumber := exm_own eC_BadNumber ic_BadNumber tC_BadNumber sb_BadNumber_BadNumber,
    gi_gcd := PySem.W.mg_of X G gi_gcd,
    m_abs := PySem.W.mg_none_of X G mb_abs,
    m_all := PySem.W.mg_none_of X G mb_all,
    m_bool := PySem.W.mg_none_of X G mb_bool,
    m_int := PySem.W.mg_none_of X G mb_int,
    m_isinstance := PySem.W.mg_none_of X G mb_isinstance,
    m_len := PySem.W.mg_none_of X G mb_len,
    m_range := PySem.W.mg_none_of X G mb_range })⟩
theorem walk {l : PySem.W.OpenLaw} {q : Program} {loose : List Str} {XP : (Str → Option Value) → Heap → Prop} {YP : World → Heap → Prop} {d : DefRec} {K : Params → PySem.W.Frag} (hn : l.most = some 63) (hdf : d.params.defaults = [])
    (hY : ∀ (w : World) (h : Heap), YP w h → (K w.params).In h)
    (F : ∀ (w : World) (mg : Str → Option Value) (fa : Addr) (h : Heap), (K w.params).In h → h.Ns mainGlobals mg → mg d.name = some (.ref fa) →
      ∃ fd : FuncData, (∀ (s : Shared) (u : Value), BindsTo s fd ⟨[u], []⟩ [("_law_script", u)]) ∧ ∀ base : Heap, (K w.params).In base → base.Ns mainGlobals mg → FnOk l.prog w (K w.params) mg base CX0 10 fa fd ["_law_script"] (spLaw (K w.params))) :
    PySem.W.WalkO q loose XP YP l.row.toRowW d [] (fun f vs => PySem.call f vs) :=
  L2.walk_of (n := 63) (k := 10) (x := "_law_script") (CX := fun _ => CX0) (sp := fun w => spLaw (K w.params)) hn (by decide) hdf ⟨rfl, by decide, by decide⟩ hY F (fun _ _ a ns hl _ hS => ⟨a, ns, rfl, hS, hl, fun _ => rfl⟩) fun _ _ _ _ _ z => z
end Cv
open PySem PySem.W PyProof.Rows
set_option maxRecDepth 100000 in
set_option maxHeartbeats 0 in
theorem PySem.Challenge.cw_copyvotes_k04_whole_sums_of_ratios_holds : PySem.Challenge.rw_copyvotes_k04_whole_sums_of_ratios.Holds := by
  w_on; o_law; k_head; (case hw => w_witness2)
  k_fill
  refine Cv.walk (l := PySem.Challenge.rw_copyvotes_k04_whole_sums_of_ratios) rfl rfl (fun w h Y => PySem.W.kIn_of Y) ?F
  case F =>
    intro w mg fa h KX G hmg
    refine' Cv.all_mk KX G hmg ?aC_VoteError ?aC_BadNumber ?aC_Ratio ?a_BadNumber_init ?l_BadNumber_init ?cc_BadNumber_init ?kk_BadNumber_init ?a_is_integer ?l_is_integer ?cc_is_integer ?kk_is_integer ?a_check_number ?l_check_number ?cc_check_number ?kk_check_number ?a_Ratio_init ?i_Ratio_init ?l_Ratio_init ?cc_Ratio_init ?kk_Ratio_init ?dl_Ratio_init ?dd_Ratio_init ?a_ratio_of ?l_ratio_of ?cc_ratio_of ?kk_ratio_of ?a_Ratio_eq ?i_Ratio_eq ?l_Ratio_eq ?cc_Ratio_eq ?kk_Ratio_eq ?a_Ratio_add ?i_Ratio_add ?l_Ratio_add ?cc_Ratio_add ?kk_Ratio_add ?a_Ratio_radd ?i_Ratio_radd ?l_Ratio_radd ?cc_Ratio_radd ?kk_Ratio_radd ?a_Ratio_sub ?i_Ratio_sub ?l_Ratio_sub ?cc_Ratio_sub ?kk_Ratio_sub ?a_Ratio_rsub ?i_Ratio_rsub ?l_Ratio_rsub ?cc_Ratio_rsub ?kk_Ratio_rsub ?a_Ratio_mul ?i_Ratio_mul ?l_Ratio_mul ?cc_Ratio_mul ?kk_Ratio_mul ?a_Ratio_rmul ?i_Ratio_rmul ?l_Ratio_rmul ?cc_Ratio_rmul ?kk_Ratio_rmul ?a_Ratio_divided ?i_Ratio_divided ?l_Ratio_divided ?cc_Ratio_divided ?kk_Ratio_divided ?a_l_start ?l_l_start ?cc_l_start ?kk_l_start ?a_l_draw ?l_l_draw ?cc_l_draw ?kk_l_draw ?a_l_is ?l_l_is ?cc_l_is ?kk_l_is ?a_l_divided ?l_l_divided ?cc_l_divided ?kk_l_divided ?a_l_pair_holds ?l_l_pair_holds ?cc_l_pair_holds ?kk_l_pair_holds ?a_l_integer_holds ?l_l_integer_holds ?cc_l_integer_holds ?kk_l_integer_holds ?a_law ?l_law ?cc_law ?kk_law ?xL_BadNumber ?bm_ok_BadNumber ?sa_BadNumber ?eC_BadNumber ?tC_BadNumber ?kC_BadNumber ?tI_BadNumber ?ga_BadNumber ?gg_BadNumber ?hd_BadNumber ?ic_BadNumber ?cc_BadNumber ?cm_BadNumber ?n_BadNumber_what ?n_BadNumber_value ?cn_ ?ct_ ?pg_Ratio ?hd_Ratio ?po_Ratio ?sa_Ratio ?mk_Ratio ?kc_Ratio ?oh_Ratio_add ?oh_Ratio_radd ?oh_Ratio_sub ?oh_Ratio_rsub ?oh_Ratio_mul ?oh_Ratio_rmul ?sf_Ratio ?ni_Ratio ?in_Ratio ?ne_Ratio ?cc_Ratio ?cm_Ratio ?n_Ratio_over ?n_Ratio_under ?ih_add ?ihr_add ?ih_sub ?ihr_sub ?ih_mul ?ihr_mul ?ki_Ratio_Ratio ?ki_int_Ratio ?sb_BadNumber_BadNumber ?gi_gcd ?mb_abs ?mb_all ?mb_bool ?mb_int ?mb_isinstance ?mb_len ?mb_range
    (case aC_VoteError => k_is)
    (case aC_BadNumber => k_is)
    (case aC_Ratio => k_is)
    (case a_BadNumber_init => k_is)
    (case l_BadNumber_init => k_is)
    (case cc_BadNumber_init => k_is)
    (case kk_BadNumber_init => k_is)
    (case a_is_integer => k_is)
    (case l_is_integer => k_is)
    (case cc_is_integer => k_is)
    (case kk_is_integer => k_is)
    (case a_check_number => k_is)
    (case l_check_number => k_is)
    (case cc_check_number => k_is)
    (case kk_check_number => k_is)
    (case a_Ratio_init => k_is)
    (case i_Ratio_init => k_is)
    (case l_Ratio_init => k_is)
    (case cc_Ratio_init => k_is)
    (case kk_Ratio_init => k_is)
    (case dl_Ratio_init => k_is)
    (case dd_Ratio_init => rfl)
    (case a_ratio_of => k_is)
    (case l_ratio_of => k_is)
    (case cc_ratio_of => k_is)
    (case kk_ratio_of => k_is)
    (case a_Ratio_eq => k_is)
    (case i_Ratio_eq => k_is)
    (case l_Ratio_eq => k_is)
    (case cc_Ratio_eq => k_is)
    (case kk_Ratio_eq => k_is)
    (case a_Ratio_add => k_is)
    (case i_Ratio_add => k_is)
    (case l_Ratio_add => k_is)
    (case cc_Ratio_add => k_is)
    (case kk_Ratio_add => k_is)
    (case a_Ratio_radd => k_is)
    (case i_Ratio_radd => k_is)
    (case l_Ratio_radd => k_is)
    (case cc_Ratio_radd => k_is)
    (case kk_Ratio_radd => k_is)
    (case a_Ratio_sub => k_is)
    (case i_Ratio_sub => k_is)
    (case l_Ratio_sub => k_is)
    (case cc_Ratio_sub => k_is)
    (case kk_Ratio_sub => k_is)
    (case a_Ratio_rsub => k_is)
    (case i_Ratio_rsub => k_is)
    (case l_Ratio_rsub => k_is)
    (case cc_Ratio_rsub => k_is)
    (case kk_Ratio_rsub => k_is)
    (case a_Ratio_mul => k_is)
    (case i_Ratio_mul => k_is)
    (case l_Ratio_mul => k_is)
    (case cc_Ratio_mul => k_is)
    (case kk_Ratio_mul => k_is)
    (case a_Ratio_rmul => k_is)
    (case i_Ratio_rmul => k_is)
    (case l_Ratio_rmul => k_is)
    (case cc_Ratio_rmul => k_is)
    (case kk_Ratio_rmul => k_is)
    (case a_Ratio_divided => k_is)
    (case i_Ratio_divided => k_is)
    (case l_Ratio_divided => k_is)
    (case cc_Ratio_divided => k_is)
    (case kk_Ratio_divided => k_is)
    (case a_l_start => k_is)
    (case l_l_start => k_is)
    (case cc_l_start => k_is)
    (case kk_l_start => k_is)
    (case a_l_draw => k_is)
    (case l_l_draw => k_is)
    (case cc_l_draw => k_is)
    (case kk_l_draw => k_is)
    (case a_l_is => k_is)
    (case l_l_is => k_is)
    (case cc_l_is => k_is)
    (case kk_l_is => k_is)
    (case a_l_divided => k_is)
    (case l_l_divided => k_is)
    (case cc_l_divided => k_is)
    (case kk_l_divided => k_is)
    (case a_l_pair_holds => k_is)
    (case l_l_pair_holds => k_is)
    (case cc_l_pair_holds => k_is)
    (case kk_l_pair_holds => k_is)
    (case a_l_integer_holds => k_is)
    (case l_l_integer_holds => k_is)
    (case cc_l_integer_holds => k_is)
    (case kk_l_integer_holds => k_is)
    (case a_law => k_is)
    (case l_law => k_is)
    (case cc_law => k_is)
    (case kk_law => k_is)
    (case xL_BadNumber => k_is)
    (case bm_ok_BadNumber => decide +kernel)
    (case sa_BadNumber => k_is)
    (case eC_BadNumber => k_is)
    (case tC_BadNumber => k_is)
    (case kC_BadNumber => k_is)
    (case tI_BadNumber => k_is)
    (case ga_BadNumber => k_is)
    (case gg_BadNumber => k_is)
    (case hd_BadNumber => k_is)
    (case ic_BadNumber => k_is)
    (case cc_BadNumber => k_is)
    (case cm_BadNumber => k_is)
    (case n_BadNumber_what => k_is)
    (case n_BadNumber_value => k_is)
    (case cn_ => k_is)
    (case ct_ => k_is)
    (case pg_Ratio => k_is)
    (case hd_Ratio => k_is)
    (case po_Ratio => k_is)
    (case sa_Ratio => k_is)
    (case mk_Ratio => k_is)
    (case kc_Ratio => k_is)
    (case oh_Ratio_add => k_is)
    (case oh_Ratio_radd => k_is)
    (case oh_Ratio_sub => k_is)
    (case oh_Ratio_rsub => k_is)
    (case oh_Ratio_mul => k_is)
    (case oh_Ratio_rmul => k_is)
    (case sf_Ratio => k_is)
    (case ni_Ratio => k_is)
    (case in_Ratio => k_is)
    (case ne_Ratio => k_is)
    (case cc_Ratio => k_is)
    (case cm_Ratio => k_is)
    (case n_Ratio_over => k_is)
    (case n_Ratio_under => k_is)
    (case ih_add => k_is)
    (case ihr_add => k_is)
    (case ih_sub => k_is)
    (case ihr_sub => k_is)
    (case ih_mul => k_is)
    (case ihr_mul => k_is)
    (case ki_Ratio_Ratio => kit_is)
    (case ki_int_Ratio => kit_is)
    (case sb_BadNumber_BadNumber => k_is)
    (case gi_gcd => k_is)
    (case mb_abs => k_is)
    (case mb_all => k_is)
    (case mb_bool => k_is)
    (case mb_int => k_is)
    (case mb_isinstance => k_is)
    (case mb_len => k_is)
    (case mb_range => k_is)

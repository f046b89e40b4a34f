import PyProof.Rows.All
import Wide.All
import OpenK.AllK
import Wide.FinOn
import KE.RegKIsAll
import KE.KExcIs
import KE.KOpsOwn
import KE.KCallOwn
import HandS.ForSpec
import HandS.ExcInit
import HandS.ExcField
import HandS.IsInst
import HandS.Style
import HandS.Evl
import HandS.OwnEq
import HandS.Wide
import HandS.Gcd
import HandS.Defaults
import HandS.Comp
import HandS.FStr
import HandS.Text
import HandS.ClsMeth
import PySem.Challenge.RW_copyvotes_k03_making_ratios
set_option Elab.async false
set_option linter.all false
set_option maxRecDepth 100000
set_option maxHeartbeats 4000000

namespace Cv
open PySem PySem.Spec PyProof.Rows L2
def topS (i : Nat) : Stmt := PySem.Challenge.pw_copyvotes_k03_making_ratios.main.body.getD i (.Pass ⟨0, 0, 0, 0⟩)
abbrev s_BadNumber_init : Stmt := inClass (topS 4) 0
theorem sc_BadNumber_init : FnScope ["self", "what", "value"] ["self", "what", "value"] (defScope s_BadNumber_init) := ⟨rfl, rfl, rfl, by decide +kernel, rfl, by decide +kernel, by decide +kernel⟩
abbrev s_is_integer : Stmt := topS 6
theorem sc_is_integer : FnScope ["value"] ["value"] (defScope s_is_integer) := ⟨rfl, rfl, rfl, by decide +kernel, rfl, by decide +kernel, by decide +kernel⟩
abbrev s_check_number : Stmt := topS 7
theorem sc_check_number : FnScope ["what", "value", "low", "high"] ["what", "value", "low", "high"] (defScope s_check_number) := ⟨rfl, rfl, rfl, by decide +kernel, rfl, by decide +kernel, by decide +kernel⟩
abbrev s_Ratio_init : Stmt := inClass (topS 9) 0
theorem sc_Ratio_init : FnScope ["self", "over", "under", "divisor"] ["self", "over", "under"] (defScope s_Ratio_init) := ⟨rfl, rfl, rfl, by decide +kernel, rfl, by decide +kernel, by decide +kernel⟩
abbrev s_ratio_of : Stmt := topS 10
theorem sc_ratio_of : FnScope ["value"] ["value"] (defScope s_ratio_of) := ⟨rfl, rfl, rfl, by decide +kernel, rfl, by decide +kernel, by decide +kernel⟩
abbrev s_Ratio_eq : Stmt := inClass (topS 9) 1
theorem sc_Ratio_eq : FnScope ["self", "other"] ["self", "other"] (defScope s_Ratio_eq) := ⟨rfl, rfl, rfl, by decide +kernel, rfl, by decide +kernel, by decide +kernel⟩
abbrev s_Ratio_str : Stmt := inClass (topS 9) 12
theorem sc_Ratio_str : FnScope ["self"] ["self"] (defScope s_Ratio_str) := ⟨rfl, rfl, rfl, by decide +kernel, rfl, by decide +kernel, by decide +kernel⟩
abbrev s_Ratio_half : Stmt := inClass (topS 9) 14
theorem sc_Ratio_half : FnScope [] [] (defScope s_Ratio_half) := ⟨rfl, rfl, rfl, by decide +kernel, rfl, by decide +kernel, by decide +kernel⟩
abbrev s_l_start : Stmt := topS 12
theorem sc_l_start : FnScope ["_law_script", "_law_first"] ["_law_script"] (defScope s_l_start) := ⟨rfl, rfl, rfl, by decide +kernel, rfl, by decide +kernel, by decide +kernel⟩
abbrev s_l_draw : Stmt := topS 13
theorem sc_l_draw : FnScope ["_law_script", "_law_state", "_law_limit", "_law_number", "_law_cell", "_law_mixed"] ["_law_script", "_law_state", "_law_limit"] (defScope s_l_draw) := ⟨rfl, rfl, rfl, by decide +kernel, rfl, by decide +kernel, by decide +kernel⟩
abbrev s_l_made : Stmt := topS 14
theorem sc_l_made : FnScope ["_law_over", "_law_under", "_law_made_here", "e"] ["_law_over", "_law_under"] (defScope s_l_made) := ⟨rfl, rfl, rfl, by decide +kernel, rfl, by decide +kernel, by decide +kernel⟩
abbrev s_l_common : Stmt := topS 15
theorem sc_l_common : FnScope ["_law_first", "_law_second", "_law_found", "_law_part"] ["_law_first", "_law_second"] (defScope s_l_common) := ⟨rfl, rfl, rfl, by decide +kernel, rfl, by decide +kernel, by decide +kernel⟩
abbrev s_law : Stmt := topS 16
theorem sc_law : FnScope ["_law_script", "_law_state", "_law_k", "_law_over", "_law_under", "_law_part", "_law_due", "_law_times", "_law_far", "_law_many", "_law_made_here", "_law_words", "_law_odd"] ["_law_script"] (defScope s_law) := ⟨rfl, rfl, rfl, by decide +kernel, rfl, by decide +kernel, by decide +kernel⟩
/-! ## What every law's text wants: heaps, exceptions, the draws -/
theorem same_upd {H : Hp} {p : Addr} {o : HO} (h : H p = none) : Same H (upd H p o) := fun b x e => by
  rw [upd_ne (ne_of_none e h)]
  exact e
theorem same_upd2 {H H' : Hp} {p : Addr} {o : HO} (e : Same H H') (h : H p = none) : Same H (upd H' p o) := fun b x k => by
  rw [upd_ne (ne_of_none k h)]
  exact e b x k
/-- an except clause that names an own class -/
theorem exm_own {K : PySem.W.Frag} {cls : Value} {S : Addr} {b : Bool} (h1 : PySem.W.subIn K (.ref S) (.type "BaseException") = some true) (h2 : PySem.W.isClsIn K S = true) (h3 : PySem.W.typeIn K (.ref S) = some (.type "type")) (h4 : PySem.W.subIn K cls (.ref S) = some b) :
    PySem.W.exmOne K cls (.ref S) = some b := by
  have e1 : (PySem.W.subIn K (.ref S) (.type "BaseException") == some true) = true := by rw [h1] <;> rfl
  have e2 : ((PySem.W.clsIn K S).isSome && PySem.W.typeIn K (.ref S) == some (.type "type")) = true := by
    have h2' : (PySem.W.clsIn K S).isSome = true := h2
    rw [h2', h3] <;> rfl
  show (if (PySem.W.subIn K (.ref S) (.type "BaseException") == some true) = true then (if ((PySem.W.clsIn K S).isSome && PySem.W.typeIn K (.ref S) == some (.type "type")) = true then PySem.W.subIn K cls (.ref S) else none) else none) = some b
  rw [if_pos e1, if_pos e2]
  exact h4
/-- what isinstance asks of an own exception class -/
structure XiC (K : PySem.W.Frag) (C : Addr) : Prop where
  cl : PySem.W.isClsIn K C = true
  ga : PySem.W.findIn K (.ref C) "__getattribute__" = some (some (.builtin "BaseException.__getattribute__"))
  gg : PySem.W.findIn K (.ref C) "__getattr__" = some none
  sb : PySem.W.subIn K (.ref C) (.type "BaseException") = some true
  ha : PySem.W.findIn K (.ref C) "__class__" = some (some (.builtin "object.__class__"))
  hn : PySem.W.specialIn K (.builtin "object.__class__") "__get__" = some (some (.builtin "getset_descriptor.__get__"))
  ht : PySem.W.takesIn K (.builtin "object.__class__") = some true
  hm : PySem.W.mroIn K C (.type "object") = some true
/-- isinstance(e, c) within the suite that holds e, an error with its own dict -/
def rIsX (K : PySem.W.Frag) (a C : Addr) (cls : Value) (d : Option Addr) : List V → Hp → VK → Prop := fun xs H Q => ∃ (c : V) (cv : Value) (b : Bool) (dd : Addr) (fs : List (Str × V)), xs = [.ref a, c] ∧ cls = .ref C ∧ d = some dd ∧ H dd = some (.xd fs) ∧ ClsV c cv ∧ PySem.W.kitOne K (.ref C) cv = some b ∧ Q (.bl b) H
theorem call_isX {X : Cx} {a C : Addr} {oe : Obj} {cls : Value} {d : Option Addr} {pn : List (Addr × Obj)} (T : XiC X.K C) (hz : Zc cls d oe) (hf : ∃ vs, oe.data = .fields vs) : CallR (X.suite a ((a, oe) :: pn)) (.builtin "isinstance") (rIsX X.K a C cls d) := by
  intro pins s σ H xs us Q I r h
  obtain ⟨c, cv, b, dd, fs, rfl, rfl, rfl, ea, hcv, e, q⟩ := h
  obtain ⟨u1, u2, rfl, r1, r2⟩ := vals2 r
  cases (show u1 = Value.ref a from r1)
  have ec := hcv.eq r2
  subst ec
  obtain ⟨ha, _⟩ := I.pin (a, oe) (List.mem_append_left _ List.mem_cons_self)
  obtain ⟨vs, hd⟩ := hf
  have hx : ObjOk X.prog X.w H s.heap dd (.xd fs) := I.hok dd _ ea
  obtain ⟨mA, hns, hr⟩ := hx
  obtain ⟨od, ho, hl⟩ := lookIn_ns hns
  have J : PySem.W.InstAt s.heap a oe C (some od) := ⟨ha, hz.1, by unfold PySem.W.notCls; rw [hd] <;> rfl, by rw [hz.2]; exact ho⟩
  exact PySem.W.kia_one (PySem.W.kitx_exc T.cl T.ga T.gg T.sb T.ha T.hn T.ht T.hm) I.kIn J e (fun z => nomatch z) fun tk => ⟨.bl b, H, I.kept (t' := tk) fun _ _ z => z, rfl, q⟩
/-! ### the state of the draws -/
def St4 (H : Hp) (t : Addr) : Prop := ∃ a b c d : Int, H t = some (.lst [.int a, .int b, .int c, .int d])
/-- H0: the heap of old, t: the state's list, l: the script -/
structure Drw (K : PySem.W.Frag) (H0 : Hp) (l t : Addr) (H : Hp) : Prop where
  scr : ∃ ns : List Int, SqL K H0 l (ns.map V.int)
  new : H0 t = none
  same : Same H0 H
  st : St4 H t
theorem Drw.sc {K : PySem.W.Frag} {H0 H : Hp} {l t : Addr} (D : Drw K H0 l t H) : ∃ ns : List Int, SqL K H l (ns.map V.int) := by
  obtain ⟨ns, h⟩ := D.scr
  exact ⟨ns, D.same.seq h⟩
theorem Drw.upd {K : PySem.W.Frag} {H0 H : Hp} {l t : Addr} {a b c d : Int} (D : Drw K H0 l t H) : Drw K H0 l t (upd H t (.lst [.int a, .int b, .int c, .int d])) :=
  ⟨D.scr, D.new, same_upd2 D.same D.new, ⟨a, b, c, d, upd_same⟩⟩
theorem Drw.mono {K : PySem.W.Frag} {H0 H H' : Hp} {l t : Addr} (D : Drw K H0 l t H) (e : Same H H') : Drw K H0 l t H' := by
  obtain ⟨a, b, c, d, h⟩ := D.st
  exact ⟨D.scr, D.new, D.same.trans e, ⟨a, b, c, d, e _ _ h⟩⟩
/-- all but what stands at t -/
def But (t : Addr) (H H' : Hp) : Prop := ∀ b, b ≠ t → H' b = H b
theorem But.refl {t : Addr} {H : Hp} : But t H H := fun _ _ => rfl
theorem But.trans {t : Addr} {H H1 H2 : Hp} (a : But t H H1) (b : But t H1 H2) : But t H H2 := fun c h => (b c h).trans (a c h)
theorem But.upd {t : Addr} {H H1 : Hp} {o : HO} (a : But t H H1) : But t H (upd H1 t o) := fun c h => (upd_ne h).trans (a c h)
def spStart (K : PySem.W.Frag) : Sp := fun vs H Q _ => ∃ (l : Addr) (ns : List Int), vs = [.ref l] ∧ SqL K H l (ns.map V.int) ∧ ∀ t H', H t = none → Drw K H l t H' → But t H H' → Q (.ref t) H'
def spDraw (K : PySem.W.Frag) : Sp := fun vs H Q _ => ∃ (l t : Addr) (m : Int) (H0 : Hp), vs = [.ref l, .ref t, .int m] ∧ Drw K H0 l t H ∧ 0 < m ∧ m < 1073741824 ∧ ∀ (v : Int) H', 0 ≤ v → v < m → But t H H' → Drw K H0 l t H' → Q (.int v) H'
theorem at0 {a b c d : V} : atI [a, b, c, d] 0 = some a := rfl
theorem at1 {a b c d : V} : atI [a, b, c, d] 1 = some b := rfl
theorem at2 {a b c d : V} : atI [a, b, c, d] 2 = some c := rfl
theorem at3 {a b c d : V} : atI [a, b, c, d] 3 = some d := rfl
/-- the plain steps of a reading -/
local macro_rules | `(tactic| walk_at "rd") => `(tactic| repeat (first | refine ⟨_, rfl, ?_⟩ | refine ⟨_, _, rfl, rfl, ?_⟩ | refine ⟨⟨by decide, by decide⟩, ?_⟩ | refine ⟨⟨by decide, by decide, by decide⟩, ?_⟩ | refine ⟨show (0 : Int) < _ by decide, ?_⟩))
/-! ### data, errors, numbers -/
theorem Same.seqT {K : PySem.W.Frag} {H H' : Hp} {a : Addr} {xs : List V} (e : Same H H') (h : SqT K H a xs) : SqT K H' a xs := by
  rcases h with (h | ⟨o, h⟩) | h
  · exact .inl (.inl (e _ _ h))
  · exact .inl (.inr ⟨o, e _ _ h⟩)
  · exact .inr h
mutual
theorem dp_same {K : PySem.W.Frag} {H H' : Hp} (e : Same H H') : ∀ {v : V} {d : PyData}, Dp K H v d → Dp K H' v d
  | _, _, .non => .non
  | _, _, .bl b => .bl b
  | _, _, .int i => .int i
  | _, _, .str x => .str x
  | _, _, .lst h a => .lst (e.seq h) (dps_same e a)
  | _, _, .tup h a => .tup (Same.seqT e h) (dps_same e a)
theorem dps_same {K : PySem.W.Frag} {H H' : Hp} (e : Same H H') : ∀ {vs : List V} {ds : List PyData}, DpAll K H vs ds → DpAll K H' vs ds
  | _, _, .nil => .nil
  | _, _, .cons h a => .cons (dp_same e h) (dps_same e a)
end
theorem ne_self {d : PyData} (h : SeqAt.shaped d = true) : (!PyData.eqv d d) = false := by
  rw [SeqAt.eqv_refl d (SeqAt.canLay_of_shaped h)] <;> rfl
theorem eq_self {d : PyData} (h : SeqAt.shaped d = true) : PyData.eqv d d = true := SeqAt.eqv_refl d (SeqAt.canLay_of_shaped h)
/-- an error of two fields, being made -/
def spX2 (C : Addr) (f1 f2 : Str) : Sp := fun vs H Q _ => ∃ (a : Addr) (x y : V), vs = [.ref a, x, y] ∧ H a = some (exo a C none) ∧
  ∀ d, H d = none → d ≠ a → Q .non (upd (upd (upd H d (exd d [(f1, x)])) a (exo a C (some d))) d (exd d [(f2, y), (f1, x)]))
theorem mk2 {C : Addr} {f1 f2 : Str} {H1 : Hp} {x y : V} {Q : XK} (h : ∀ d H', H1 d = none → Same H1 H' → H' d = some (.xd [(f2, y), (f1, x)]) → Q (.ref C) (some d) H') :
    ([x, y] : List V).length ≤ 1000 ∧ ∀ a, H1 a = none → spX2 C f1 f2 (.ref a :: ([x, y] ++ [])) (upd H1 a (exo a C none)) (fun v H2 => v = .non ∧ ∃ (d : Addr) (fs : List (Str × V)), H2 a = some (exo a C (some d)) ∧ H2 d = some (exd d fs) ∧ H1 d = none ∧ Q (.ref C) (some d) (upd (del H2 a) d (.xd fs))) (fun _ _ _ => False) := by
  refine ⟨by show 2 ≤ 1000; decide, fun a ha => ⟨a, x, y, rfl, upd_same, fun d hd hda => ⟨rfl, d, _, ?_, upd_same, ?_, ?_⟩⟩⟩
  · rw [upd_ne (Ne.symm hda), upd_same]
  · rw [upd_ne hda] at hd
    exact hd
  · have hd1 : H1 d = none := by
      rw [upd_ne hda] at hd
      exact hd
    refine h d _ hd1 (fun b o e => ?_) upd_same
    have hba : b ≠ a := ne_of_none e ha
    have hbd : b ≠ d := ne_of_none e hd1
    rw [upd_ne hbd, del_ne hba, upd_ne hbd, upd_ne hba, upd_ne hbd, upd_ne hba]
    exact e
/-- what is an integer -/
def isInt : V → Bool
  | .int _ => true
  | _ => false
/-- a value that isinstance can ask -/
def Kn (K : PySem.W.Frag) (H : Hp) (x : V) : Prop := ∃ t b1 b2, TyX K H x t ∧ PySem.W.kitOne K t (.type "int") = some b1 ∧ (b1 = true → PySem.W.kitOne K t (.type "bool") = some b2) ∧ (b1 && !b2) = isInt x
theorem kn_int {K : PySem.W.Frag} {H : Hp} (i : Int) : Kn K H (.int i) := ⟨_, true, false, .base (.int i), kit_ty (by decide +kernel), fun _ => kit_ty (by decide +kernel), rfl⟩
theorem kn_bl {K : PySem.W.Frag} {H : Hp} (b : Bool) : Kn K H (.bl b) := ⟨_, true, true, .base (.bl b), kit_ty (by decide +kernel), fun _ => kit_ty (by decide +kernel), rfl⟩
theorem kn_non {K : PySem.W.Frag} {H : Hp} : Kn K H .non := ⟨_, false, false, .base .non, kit_ty (by decide +kernel), fun z => (nomatch z), rfl⟩
theorem kn_str {K : PySem.W.Frag} {H : Hp} (x : Str) : Kn K H (.str x) := ⟨_, false, false, .base (.str x), kit_ty (by decide +kernel), fun z => (nomatch z), rfl⟩
theorem kn_tup {K : PySem.W.Frag} {H : Hp} {a : Addr} {xs : List V} (e : H a = some (.tup xs)) : Kn K H (.ref a) := ⟨_, false, false, .base (.tup e), kit_ty (by decide +kernel), fun z => (nomatch z), rfl⟩
def spIsInt (K : PySem.W.Frag) : Sp := fun vs H Q _ => ∃ x, vs = [x] ∧ Kn K H x ∧ Q (.bl (isInt x)) H
def oV : Option Int → V
  | none => .non
  | some i => .int i
/-- within the bounds -/
def good (x : V) (lo hi : Option Int) : Bool := match x with
  | .int i => lo.all (fun l => decide (l ≤ i)) && hi.all (fun h => decide (i ≤ h))
  | _ => false
def spCheck (K : PySem.W.Frag) (C : Addr) : Sp := fun vs H Q E => ∃ (w : Str) (x : V) (lo hi : Option Int), vs = [.str w, x, oV lo, oV hi] ∧ Kn K H x ∧ (good x lo hi = true → Q x H) ∧
  (good x lo hi = false → ∀ d H', H d = none → Same H H' → H' d = some (.xd [("value", x), ("what", .str w)]) → E (.ref C) (some d) H')
/-- subscripts whose written part is named (within a comprehension) -/
theorem ixK_list {X : Cx} {K : PySem.W.Frag} (h : X.K = K) : IxR X (rIxL K) := h ▸ ix_list
theorem ixK_tup {X : Cx} {K : PySem.W.Frag} (h : X.K = K) : IxR X (rIxT K) := h ▸ ix_tup
/-- a field, the written part named (within a try) -/
theorem pe_fldK {X : Cx} {K : PySem.W.Frag} {e : Expr} {f : Str} {pos : Pos} {ta : TE} (h : X.K = K) (he : PE X e ta) (hb : attributeBase e f X.env (eval e X.env) = eval e X.env) : PE X (.Attribute e f pos) (tFld K ta f) := h ▸ pe_fld he hb
/-! ### operators of an own class: x op y, x op int, int op x, !=, str -/
section
variable {prog : Program} {w : World} {A : Around} {E : Value → Shared → Prop} {s : Shared} {K : PySem.W.Frag} {x C f : Addr} {ox : Obj} {od : Option Obj}
theorem bin_declines {nm : String} {g : Int → Int → Sem Fin} {n : Int} {t : Tok} {Q : Fin → Shared → Prop} {R : Value → Shared → Prop} (hs : slotArgs nm 1 ⟨[.int n t, .ref x], []⟩ = pure (.int n t, [.ref x]))
    (hx : s.heap.get? x = some ox) (hp : ∀ v, ox.data ≠ .prim v) (h : Q (.done (.ret .notImplemented)) s) :
    wpAny (model prog w) A (Builtin.Int.intBinary nm g false ⟨[.int n t, .ref x], []⟩) Q R s := by
  unfold Builtin.Int.intBinary
  refine wpAny_bind (wpAny_of_eq (a := ((Value.int n t, [Value.ref x]) : Value × List Value)) hs ?_)
  dsimp only
  unfold Builtin.Int.intOfSelf asInt?
  refine wpAny_bind (wpAny_bind (wpAny_pure ?_))
  dsimp only
  refine wpAny_pure (wpAny_bind ?_)
  show wpAny _ _ (load x >>= _) _ _ _
  refine wpAny_bind (wpAny_load hx ?_)
  have fin : wpAny (model prog w) A (do rule "int.binary.not-an-int"; ret Value.notImplemented) Q R s := wpAny_bind (wpAny_rule (wpAny_pure h))
  cases e : ox.data with
  | prim v => exact absurd e (hp v)
  | _ => exact wpAny_pure fin
/-- int's slot with an instance on the right declines -/
theorem int_try {name : Str} {id nm : String} {g : Int → Int → Sem Fin} {n : Int} {t : Tok} {Q : Value → Shared → Prop} (slot : Slot "int" name id) (entry : entryFor table id = some (Builtin.Int.intBinary nm g false)) (args : argsOk id ⟨[.int n t, .ref x], []⟩)
    (hs : slotArgs nm 1 ⟨[.int n t, .ref x], []⟩ = pure (.int n t, [.ref x])) (hx : s.heap.get? x = some ox) (hp : ∀ v, ox.data ≠ .prim v) (h : Q .notImplemented s) : wpAny (model prog w) A (call (.builtin id) [.int n t, .ref x]) Q E s :=
  GQ.call_here slot (typeIs_int s n t) entry args (bin_declines hs hx hp h)
theorem refl_bin {op : Operator} {id nm : String} {g : Int → Int → Sem Fin} {n : Int} {t : Tok} {fr : Addr} {cd : ClassData} {rest : List Value} {Q : Value → Shared → Prop} (X : K.In s.heap) (I : PySem.W.InstAt s.heap x ox C od)
    (slot : Slot "int" (PySem.dunder op.info.2) id) (entry : entryFor table id = some (Builtin.Int.intBinary nm g false)) (args : argsOk id ⟨[.int n t, .ref x], []⟩) (hs : slotArgs nm 1 ⟨[.int n t, .ref x], []⟩ = pure (.int n t, [.ref x])) (hp : ∀ v, ox.data ≠ .prim v)
    (hfI : fillsNumberSlot (.type "int") op.info.2 = pure true) (hcd : PySem.W.clsIn K C = some cd) (hm : cd.mro = .ref C :: rest) (hf : PySem.W.findIn K (.ref C) (PySem.dunder op.info.2) = some (some (.ref f))) (hsub : PySem.W.subIn K (.ref C) (.type "int") = some false)
    (hr : PySem.W.findIn K (.ref C) (dunderR op.info.2) = some (some (.ref fr))) (hfn : PySem.W.isFn K (.ref fr) = true) (h : wpAny (model prog w) A (call (.ref fr) [.ref x, .int n t]) (PySem.W.CmpBack Q) E s) :
    wpAny (model prog w) A (binaryOp op (.int n t) (.ref x)) Q E s := by
  rcases hi : op.info with ⟨sym, nm'⟩
  rw [hi] at slot hfI hf hr
  dsimp only at slot hfI hf hr
  simp only [binaryOp, hi]
  refine wpAny_holding (wpAny_bind ?_)
  unfold binaryOp1
  have hne : (Value.type "int" == Value.ref C) = false := Bool.eq_false_iff.mpr fun q => by cases beq_iff_eq.mp q
  refine wpAny_bind (wpAny_typeOf (typeIs_int s n t) (wpAny_bind (I.type.here (wpAny_bind (wpAny_of_eq hfI ?_)))))
  simp only [hne, Bool.false_eq_true, if_false]
  refine wpAny_bind ((PySem.W.fills_K X hcd hm hf).here ?_)
  simp only [Bool.and_self, if_true]
  refine wpAny_bind ((PySem.W.looks_subIn X hsub).here ?_)
  have hpy : numberSlotInPython (.type "int") nm' = pure false := rfl
  simp only [Bool.false_eq_true, if_false, pure_bind, Bool.not_false, Bool.and_self, if_true, hpy]
  refine wpAny_bind (wpAny_tryMethod_declines (typeIs_int s n t) slot (int_try slot entry args hs I.1 hp ⟨rfl, ?_⟩))
  refine wpAny_bind (wpAny_mono (PySem.W.ksp_try X I hr hfn h) (fun r s' z => ?_) fun _ _ e => e)
  obtain ⟨v, rfl, hq⟩ := z
  exact wpAny_bind (wpAny_rule (wpAny_pure (wpAny_pure hq)))
theorem cmp_try {name : Str} {b : Value} {Q : Value → Shared → Prop} (X : K.In s.heap) (I : PySem.W.InstAt s.heap x ox C od) (hs : PySem.W.findIn K (.ref C) name = some (some (.ref f))) (hf : PySem.W.isFn K (.ref f) = true)
    (h : wpAny (model prog w) A (call (.ref f) [.ref x, b]) (PySem.W.CmpBack Q) E s) : wpAny (model prog w) A (tryCompare (.ref x) name b) (fun r s' => ∃ v, r = some v ∧ Q v s') E s := by
  unfold tryCompare
  refine wpAny_bind (PySem.W.ifBound_K X I hs hf (wpAny_mono h (fun v s' hv => ?_) fun _ _ e => e))
  cases v <;> first | exact hv.elim | exact wpAny_pure ⟨_, rfl, hv⟩
theorem refl_cmp {op : CmpOp} {id nm : String} {g : Int → Int → Sem Fin} {n : Int} {t : Tok} {fr : Addr} {Q : Value → Shared → Prop} (hu : A.units < cLine) (X : K.In s.heap) (I : PySem.W.InstAt s.heap x ox C od)
    (slot : Slot "int" (cmpInfo op).2.1 id) (entry : entryFor table id = some (Builtin.Int.intBinary nm g false)) (args : argsOk id ⟨[.int n t, .ref x], []⟩) (hs : slotArgs nm 1 ⟨[.int n t, .ref x], []⟩ = pure (.int n t, [.ref x])) (hp : ∀ v, ox.data ≠ .prim v)
    (hot : oneThing? op (.int n t) (.ref x) = none) (hsub : PySem.W.subIn K (.ref C) (.type "int") = some false)
    (hr : PySem.W.findIn K (.ref C) (cmpInfo op).2.2 = some (some (.ref fr))) (hfn : PySem.W.isFn K (.ref fr) = true) (h : wpAny (model prog w) A (call (.ref fr) [.ref x, .int n t]) (PySem.W.CmpBack Q) E s) :
    wpAny (model prog w) A (richCompare op (.int n t) (.ref x)) Q E s := by
  unfold richCompare
  rw [hot]
  have hne : (Value.type "int" != Value.ref C) = true := by
    have q : (Value.type "int" == Value.ref C) = false := Bool.eq_false_iff.mpr fun q => by cases beq_iff_eq.mp q
    rw [bne, q] <;> rfl
  refine wpAny_holding (wpAny_bind (wpAny_cRoomFor hu ?_))
  dsimp only
  refine wpAny_bind (wpAny_typeOf (typeIs_int s n t) (wpAny_bind (I.type.here ?_)))
  rw [hne]
  simp only [if_true]
  refine wpAny_bind ((PySem.W.looks_subIn X hsub).here ?_)
  simp only [Bool.false_eq_true, if_false, Bool.not_false, if_true]
  have one : ∀ {Q' : Option Value → Shared → Prop}, Q' none s → wpAny (model prog w) A (tryCompare (.int n t) (cmpInfo op).2.1 (.ref x)) Q' E s := fun {Q'} q => by
    unfold tryCompare
    exact wpAny_bind (wpAny_callSpecialIfBound?_slot (typeIs_int s n t) slot (int_try slot entry args hs I.1 hp (wpAny_pure q)))
  refine wpAny_bind (one ?_)
  dsimp only
  refine wpAny_bind (wpAny_mono (cmp_try X I hr hfn h) (fun r s' z => ?_) fun _ _ e => e)
  obtain ⟨v, rfl, hq⟩ := z
  exact wpAny_pure hq
end
section
variable {prog : Program} {w : World} {A : Around} {E : Value → Shared → Prop} {s : Shared} {K : PySem.W.Frag} {x C f : Addr} {ox : Obj} {od : Option Obj}
/-- a special method that the class has from object -/
theorem ifBound_slot {M : Model} {name : Str} {id : String} {args : List Value} {Q : Option Value → Shared → Prop} (X : K.In s.heap) (I : PySem.W.InstAt s.heap x ox C od) (S : Slot "object" name id) (hs : PySem.W.findIn K (.ref C) name = some (some (.builtin id)))
    (h : wpAny M A (call (.builtin id) (.ref x :: args)) (fun v => Q (some v)) E s) : wpAny M A (callSpecialIfBound? (.ref x) name args) Q E s := by
  simp only [callSpecialIfBound?, bindSpecialIfBound?]
  refine wpAny_holding (wpAny_bind (wpAny_bind (wpAny_bind (I.type.here ((PySem.W.looks_findIn X hs).here ?_)))))
  simp only [S.bind]
  refine wpAny_bind (wpAny_askSetting (wpAny_ite ?_))
  have fin : wpAny M A (call (.builtin id) ([.ref x] ++ args) >>= fun v => pure (some v)) Q E s := wpAny_bind (wpAny_mono h (fun v s' z => wpAny_pure z) fun _ _ z => z)
  split
  · exact wpAny_bind (wpAny_pure (wpAny_pure fin))
  · exact wpAny_tryCatch (wpAny_bind (wpAny_pure (wpAny_pure fin)))
/-- x != b by the own == -/
theorem own_ne {b tb : Value} {Q : Value → Shared → Prop} (hu : A.units + 1 < cLine) (X : K.In s.heap) (I : PySem.W.InstAt s.heap x ox C od) (hb : PySem.W.Looks (model prog w) s.heap (typeOf b) tb) (hn : PySem.W.notFirst K C tb = true)
    (hne : PySem.W.findIn K (.ref C) "__ne__" = some (some (.builtin "object.__ne__"))) (hm : PySem.W.mroIn K C (.type "object") = some true) (heq : PySem.W.findIn K (.ref C) "__eq__" = some (some (.ref f))) (hf : PySem.W.isFn K (.ref f) = true)
    (h : wpAny (model prog w) A.in1 (call (.ref f) [.ref x, b]) (fun v s' => ∃ r, v = .bool r ∧ Q (.bool (!r)) s') E s) : wpAny (model prog w) A (richCompare .NotEq (.ref x) b) Q E s := by
  have S := PySem.F.cmp_object.ne
  have sub : PySem.W.Looks (model prog w) s.heap (isInstance (.ref x) (.type "object")) true := I.type.andThen (PySem.W.looks_mroIn X hm)
  have inner : wpAny (model prog w) A.in1 (Builtin.«object.__ne__» ⟨[.ref x, b], []⟩) (GQ.FinOf prog w A (wants (fun v s' => ∃ r, v = .bool r ∧ Q (.bool r) s') E)) (fun e s' => wants (fun v s' => ∃ r, v = .bool r ∧ Q (.bool r) s') E (.error e) s') s := by
    unfold Builtin.«object.__ne__»
    refine wpAny_bind (wpAny_of_eq (a := ((Value.ref x, [b]) : Value × List Value)) (by first | rfl | (simp only [slotArgs]; rfl)) ?_)
    dsimp only
    refine wpAny_bind (wpAny_cRoomFor (by show A.units + 1 < cLine; exact hu) ?_)
    refine wpAny_bind (PySem.W.ifBound_K X I heq hf (wpAny_mono h (fun v s' z => ?_) fun _ _ e => e))
    obtain ⟨r, rfl, q⟩ := z
    refine wpAny_bind (wpAny_truthy_bool ?_)
    exact wpAny_pure ⟨!r, rfl, q⟩
  have one : wpAny (model prog w) A (tryCompare (.ref x) "__ne__" b) (fun r s' => ∃ v, r = some (.bool v) ∧ Q (.bool v) s') E s := by
    unfold tryCompare
    have callne : wpAny (model prog w) A (call (.builtin "object.__ne__") [.ref x, b]) (fun v s' => ∃ r, v = .bool r ∧ Q (.bool r) s') E s :=
      wpAny_call (codeAny_call_builtin S.plain PySem.F.cmpEntry_ne (@PySem.W.check_slot (model prog w) _ _ s "object.__ne__" "object" "__ne__" (.ref x) [b] [] _ PySem.F.cmpKind_ne PySem.F.cmpSplit_ne sub (PySem.F.cmpArgs_ne _ _) inner))
    refine wpAny_bind (ifBound_slot X I S hne (wpAny_mono callne (fun v s' z => ?_) fun _ _ e => e))
    obtain ⟨r, rfl, q⟩ := z
    exact wpAny_pure ⟨r, rfl, q⟩
  unfold richCompare
  simp only [oneThing_ref]
  refine wpAny_holding (wpAny_bind (wpAny_cRoomFor (Nat.lt_of_succ_lt hu) ?_))
  refine wpAny_bind (I.type.here (wpAny_bind (hb.here ?_)))
  split
  · rename_i q
    have e : PySem.W.subIn K tb (.ref C) = some false := by
      rcases Bool.or_eq_true_iff.mp hn with e | e
      · rw [beq_iff_eq.mp e] at q; simp at q
      · exact beq_iff_eq.mp e
    refine wpAny_bind ((PySem.W.looks_subIn X e).here ?_)
    simp only [Bool.false_eq_true, if_false]
    refine wpAny_bind (wpAny_mono one (fun r s' z => ?_) fun _ _ e => e)
    obtain ⟨v, rfl, hq⟩ := z
    exact wpAny_pure hq
  · refine wpAny_bind (wpAny_pure ?_)
    simp only [Bool.false_eq_true, if_false]
    refine wpAny_bind (wpAny_mono one (fun r s' z => ?_) fun _ _ e => e)
    obtain ⟨v, rfl, hq⟩ := z
    exact wpAny_pure hq
end
/-! ### the same over the layer -/
section
variable {X : Cx} {CX : CXT} {k : Nat} {f C : Addr} {fd : FuncData} {ps : List Str} {sp : Sp} {E : XK} {pins : List (Addr × Obj)} {σ : L2.St} {H : Hp} {s : Shared}
/-- a def runs, at whatever depth -/
theorem run_deep {A : Around} {Q : VK} {us : List Value} {vs : List V} (F : FnOk X.prog X.w X.K X.mg X.base CX k f fd ps sp) (hr : Room k A) (e0 : Env0 X.prog X.w X.K X.mg X.base A X.stack s H) (hb : Binds X.K fd ps []) (hx : Passes CX X E)
    (I : Inv X pins σ H s) (r : Vals vs us) (h : sp vs H Q E) : wpAny (model X.prog X.w) A (call (.ref f) us) (EP X pins σ Q) X.xe s := by
  have hl : (us ++ []).length = ps.length := by rw [List.append_nil, ← r.length]; exact F.len _ _ _ _ h
  have hbind := hb s us I.kIn hl
  rw [List.append_nil] at hbind
  refine wpAny_call (codeAny_mono (F.run A X.stack s H ⟨us, []⟩ us vs Q E hr e0 hbind r h) fun r s' hq => ?_)
  cases r with
  | error e => exact hx pins σ H s e s' I hq
  | ok fl =>
    cases fl with
    | ret u => exact I.after hq
    | next => exact False.elim hq
    | brk => exact False.elim hq
    | cont => exact False.elim hq
theorem back_of {P : Value → Shared → Prop} {z : V} {v : Value} {s' : Shared} (r : RelV z v) (h : P v s') : PySem.W.CmpBack P v s' := by
  cases z with
  | non => cases (show v = Value.none from r); exact h
  | bl b => cases (show v = Value.bool b from r); exact h
  | ref a => cases (show v = Value.ref a from r); exact h
  | ty n => cases (show v = Value.type n from r); exact h
  | int i => obtain ⟨t, e⟩ := (show ∃ t, v = Value.int i t from r); cases e; exact h
  | str x => obtain ⟨t, e⟩ := (show ∃ t, v = Value.str x t from r); cases e; exact h
  | byt b => obtain ⟨t, e⟩ := (show ∃ t, v = Value.bytes b t from r); cases e; exact h
  | flt b => obtain ⟨t, e⟩ := (show ∃ t, v = Value.float b t from r); cases e; exact h
theorem inst_of (I : Inv X pins σ H s) {a dx : Addr} {fs : List (Str × V)} (h : H a = some (.ins C dx fs)) : ∃ od, PySem.W.InstAt s.heap a (PySem.W.instObj C dx) C (some od) := by
  obtain ⟨mA, J, _⟩ := ins_get I.hok h
  obtain ⟨od, J, _⟩ := J.look
  exact ⟨od, J⟩
/-- an instance of the class at C -/
def IsC (C : Addr) (H : Hp) (y : V) : Prop := ∃ a dx fs, y = .ref a ∧ H a = some (.ins C dx fs)
/-- what the operators ask of the class -/
structure OpC (K : PySem.W.Frag) (C : Addr) : Prop where
  first : PySem.W.selfFirst K C = true
  cls : ∃ cd rest, PySem.W.clsIn K C = some cd ∧ cd.mro = .ref C :: rest
  noInt : PySem.W.subIn K (.ref C) (.type "int") = some false
  intNo : PySem.W.subIn K (.type "int") (.ref C) = some false
  ne : PySem.W.findIn K (.ref C) "__ne__" = some (some (.builtin "object.__ne__"))
  ob : PySem.W.mroIn K C (.type "object") = some true
/-- x op y, both of C -/
def rOwnB (C : Addr) (sp : Sp) (E : XK) : R2 := fun x y H Q => IsC C H x ∧ IsC C H y ∧ sp [x, y] H Q E
theorem op_ownB {op : Operator} (T : OpC X.K C) (hs : PySem.W.findIn X.K (.ref C) (PySem.dunder op.info.2) = some (some (.ref f))) (hf : PySem.W.isFn X.K (.ref f) = true) (F : FnOk X.prog X.w X.K X.mg X.base CX k f fd ps sp) (hr : Room k X.A) (hb : Binds X.K fd ps []) (hx : Passes CX X E) :
    OpR X (binaryOp op) (rOwnB C sp E) := by
  intro pins s σ H x y v u Q I rx ry h
  obtain ⟨⟨a, dx, fs, rfl, ha⟩, ⟨b, dy, gs, rfl, hb'⟩, q⟩ := h
  cases (show v = Value.ref a from rx)
  cases (show u = Value.ref b from ry)
  obtain ⟨oa, J⟩ := inst_of I ha
  obtain ⟨ob, J'⟩ := inst_of I hb'
  obtain ⟨m, hF⟩ := I.fr
  refine PySem.W.binop_K hF I.ok.mod.kin J J'.type T.first hs hf (wpAny_mono (run_deep (vs := [.ref a, .ref b]) F hr I.env0 hb hx I (.cons rfl (.cons rfl .nil)) q) (fun w s' z => ?_) fun _ _ x => x)
  obtain ⟨z', H', I', rz, qz⟩ := z
  exact back_of rz ⟨z', H', I', rz, qz⟩
/-- x op n, n an int -/
def rOwnI (C : Addr) (sp : Sp) (E : XK) : R2 := fun x y H Q => IsC C H x ∧ (∃ n, y = .int n) ∧ sp [x, y] H Q E
theorem op_ownI {op : Operator} {fo ro rc : Option Value} (T : OpC X.K C) (hs : PySem.W.findIn X.K (.ref C) (PySem.dunder op.info.2) = some (some (.ref f))) (hf : PySem.W.isFn X.K (.ref f) = true) (hr' : PySem.W.findIn X.K (.ref C) (dunderR op.info.2) = some rc) (hp : rc = none ∨ ∃ g : Addr, rc = some (.ref g))
    (h1 : PySem.W.findIn X.K (.type "int") (PySem.dunder op.info.2) = some fo) (h2 : PySem.W.findIn X.K (.type "int") (dunderR op.info.2) = some ro)
    (F : FnOk X.prog X.w X.K X.mg X.base CX k f fd ps sp) (hr : Room k X.A) (hb : Binds X.K fd ps []) (hx : Passes CX X E) : OpR X (binaryOp op) (rOwnI C sp E) := by
  intro pins s σ H x y v u Q I rx ry h
  obtain ⟨⟨a, dx, fs, rfl, ha⟩, ⟨n, rfl⟩, q⟩ := h
  cases (show v = Value.ref a from rx)
  obtain ⟨t, rfl⟩ := (show ∃ t, u = Value.int n t from ry)
  obtain ⟨oa, J⟩ := inst_of I ha
  obtain ⟨m, hF⟩ := I.fr
  refine PySem.W.ksp_binT (T := "int") hF I.ok.mod.kin J rfl T.first hs hf hr' hp h1 h2 T.intNo (wpAny_mono (run_deep (vs := [.ref a, .int n]) F hr I.env0 hb hx I (.cons rfl (.cons ⟨t, rfl⟩ .nil)) q) (fun w s' z => ?_) fun _ _ x => x)
  obtain ⟨z', H', I', rz, qz⟩ := z
  exact back_of rz ⟨z', H', I', rz, qz⟩
/-- n op x, n an int: the reflected method -/
def rOwnR (C : Addr) (sp : Sp) (E : XK) : R2 := fun x y H Q => (∃ n, x = .int n) ∧ IsC C H y ∧ sp [y, x] H Q E
theorem op_ownR {op : Operator} {id nm : String} {g : Int → Int → Sem Fin} {fl : Addr} (T : OpC X.K C) (slot : Slot "int" (PySem.dunder op.info.2) id) (entry : entryFor table id = some (Builtin.Int.intBinary nm g false)) (args : ∀ a b : Value, argsOk id ⟨[a, b], []⟩)
    (hsl : ∀ (n : Int) (t : Tok) (x : Addr), slotArgs nm 1 ⟨[.int n t, .ref x], []⟩ = pure (.int n t, [.ref x])) (hfI : fillsNumberSlot (.type "int") op.info.2 = pure true) (hl : PySem.W.findIn X.K (.ref C) (PySem.dunder op.info.2) = some (some (.ref fl)))
    (hs : PySem.W.findIn X.K (.ref C) (dunderR op.info.2) = some (some (.ref f))) (hf : PySem.W.isFn X.K (.ref f) = true)
    (F : FnOk X.prog X.w X.K X.mg X.base CX k f fd ps sp) (hr : Room k X.A) (hb : Binds X.K fd ps []) (hx : Passes CX X E) : OpR X (binaryOp op) (rOwnR C sp E) := by
  intro pins s σ H x y v u Q I rx ry h
  obtain ⟨⟨n, rfl⟩, ⟨a, dx, fs, rfl, ha⟩, q⟩ := h
  cases (show u = Value.ref a from ry)
  obtain ⟨t, rfl⟩ := (show ∃ t, v = Value.int n t from rx)
  obtain ⟨oa, J⟩ := inst_of I ha
  obtain ⟨cd, rest, hcd, hm⟩ := T.cls
  refine refl_bin I.kIn J slot entry (args _ _) (hsl n t a) (fun v z => nomatch z) hfI hcd hm hl T.noInt hs hf (wpAny_mono (run_deep (vs := [.ref a, .int n]) F hr I.env0 hb hx I (.cons rfl (.cons ⟨t, rfl⟩ .nil)) q) (fun w s' z => ?_) fun _ _ x => x)
  obtain ⟨z', H', I', rz, qz⟩ := z
  exact back_of rz ⟨z', H', I', rz, qz⟩
/-- x op y by the own comparison, y of a known type -/
def rOwnC (K : PySem.W.Frag) (C : Addr) (sp : Sp) (E : XK) : R2 := fun x y H Q => IsC C H x ∧ (∃ t, TyX K H y t ∧ PySem.W.notFirst K C t = true) ∧ sp [x, y] H Q E
theorem op_ownC {op : CmpOp} (hop : ∀ a b, compareOp op a b = richCompare op a b) (hs : PySem.W.findIn X.K (.ref C) (cmpInfo op).2.1 = some (some (.ref f))) (hf : PySem.W.isFn X.K (.ref f) = true)
    (F : FnOk X.prog X.w X.K X.mg X.base CX k f fd ps sp) (hr : Room k X.A) (hb : Binds X.K fd ps []) (hx : Passes CX X E) : OpR X (compareOp op) (rOwnC X.K C sp E) := by
  intro pins s σ H x y v u Q I rx ry h
  obtain ⟨⟨a, dx, fs, rfl, ha⟩, ⟨ty, hty, hn⟩, q⟩ := h
  cases (show v = Value.ref a from rx)
  obtain ⟨oa, J⟩ := inst_of I ha
  obtain ⟨m, hF⟩ := I.fr
  obtain ⟨Pk, Z, p, _⟩ := kit_of I ry hty
  rw [hop]
  refine PySem.W.cmp_K (op := op) hr.units0 hF I.ok.mod.kin J (Z.ty _ _ I.kIn p) hn hs hf (wpAny_mono (run_deep (vs := [.ref a, y]) F hr I.env0 hb hx I (.cons rfl (.cons ry .nil)) q) (fun w s' z => ?_) fun _ _ x => x)
  obtain ⟨z', H', I', rz, qz⟩ := z
  exact back_of rz ⟨z', H', I', rz, qz⟩
/-- n op x, n an int: the mirrored comparison -/
theorem op_ownM {op : CmpOp} {id nm : String} {g : Int → Int → Sem Fin} (hop : ∀ a b, compareOp op a b = richCompare op a b) (T : OpC X.K C) (slot : Slot "int" (cmpInfo op).2.1 id) (entry : entryFor table id = some (Builtin.Int.intBinary nm g false)) (args : ∀ a b : Value, argsOk id ⟨[a, b], []⟩)
    (hsl : ∀ (n : Int) (t : Tok) (x : Addr), slotArgs nm 1 ⟨[.int n t, .ref x], []⟩ = pure (.int n t, [.ref x])) (hot : ∀ (n : Int) (t : Tok) (x : Addr), oneThing? op (.int n t) (.ref x) = none)
    (hs : PySem.W.findIn X.K (.ref C) (cmpInfo op).2.2 = some (some (.ref f))) (hf : PySem.W.isFn X.K (.ref f) = true)
    (F : FnOk X.prog X.w X.K X.mg X.base CX k f fd ps sp) (hr : Room k X.A) (hb : Binds X.K fd ps []) (hx : Passes CX X E) : OpR X (compareOp op) (rOwnR C sp E) := by
  intro pins s σ H x y v u Q I rx ry h
  obtain ⟨⟨n, rfl⟩, ⟨a, dx, fs, rfl, ha⟩, q⟩ := h
  cases (show u = Value.ref a from ry)
  obtain ⟨t, rfl⟩ := (show ∃ t, v = Value.int n t from rx)
  obtain ⟨oa, J⟩ := inst_of I ha
  rw [hop]
  refine refl_cmp hr.units0 I.kIn J slot entry (args _ _) (hsl n t a) (fun v z => nomatch z) (hot n t a) T.noInt hs hf (wpAny_mono (run_deep (vs := [.ref a, .int n]) F hr I.env0 hb hx I (.cons rfl (.cons ⟨t, rfl⟩ .nil)) q) (fun w s' z => ?_) fun _ _ x => x)
  obtain ⟨z', H', I', rz, qz⟩ := z
  exact back_of rz ⟨z', H', I', rz, qz⟩
/-- x != y by the own == -/
def rOwnNe (K : PySem.W.Frag) (C : Addr) (sp : Sp) (E : XK) : R2 := fun x y H Q => IsC C H x ∧ (∃ t, TyX K H y t ∧ PySem.W.notFirst K C t = true) ∧ sp [x, y] H (fun z H' => ∃ r, z = .bl r ∧ Q (.bl (!r)) H') E
theorem op_ownNe (T : OpC X.K C) (hs : PySem.W.findIn X.K (.ref C) "__eq__" = some (some (.ref f))) (hf : PySem.W.isFn X.K (.ref f) = true)
    (F : FnOk X.prog X.w X.K X.mg X.base CX k f fd ps sp) (hr : Room (k + 1) X.A) (hb : Binds X.K fd ps []) (hx : Passes CX X E) : OpR X (compareOp .NotEq) (rOwnNe X.K C sp E) := by
  intro pins s σ H x y v u Q I rx ry h
  obtain ⟨⟨a, dx, fs, rfl, ha⟩, ⟨ty, hty, hn⟩, q⟩ := h
  cases (show v = Value.ref a from rx)
  obtain ⟨oa, J⟩ := inst_of I ha
  obtain ⟨Pk, Z, p, _⟩ := kit_of I ry hty
  show wpAny _ _ (richCompare .NotEq (.ref a) u) _ _ _
  refine own_ne (by have := hr.units; omega) I.kIn J (Z.ty _ _ I.kIn p) hn T.ne T.ob hs hf (wpAny_mono (run_deep (vs := [.ref a, y]) F (Room.in1 hr) I.env0.in1 hb hx I (.cons rfl (.cons ry .nil)) q) (fun w s' z => ?_) fun _ _ x => x)
  obtain ⟨z', H', I', rz, r, rfl, qz⟩ := z
  cases (show w = Value.bool r from rz)
  exact ⟨r, rfl, .bl (!r), H', I', rfl, qz⟩
end
theorem notFirst_of {K : PySem.W.Frag} {C : Addr} {t : Value} (h : PySem.W.subIn K t (.ref C) = some false) : PySem.W.notFirst K C t = true := by simp [PySem.W.notFirst, h]
/-! ### instances of an own class; exceptions that pass -/
structure InsC (K : PySem.W.Frag) (C : Addr) : Prop where
  cl : Cls K C
  ha : PySem.W.findIn K (.ref C) "__class__" = some (some (.builtin "object.__class__"))
  hn : PySem.W.specialIn K (.builtin "object.__class__") "__get__" = some (some (.builtin "getset_descriptor.__get__"))
  ht : PySem.W.takesIn K (.builtin "object.__class__") = some true
  hm : PySem.W.mroIn K C (.type "object") = some true
theorem InsC.ty {K : PySem.W.Frag} {C : Addr} (T : InsC K C) {H : Hp} {a dx : Addr} {fs : List (Str × V)} (e : H a = some (.ins C dx fs)) : TyX K H (.ref a) (.ref C) := .base (.ins e T.cl T.ha T.hn T.ht T.hm)
theorem passLen {X : Cx} {W : WX} (tk : Takes X W) : Passes (L2.CX X.prog X.w) X (fun cls d H => ∀ σ : L2.St, σ.length = X.N.length → W cls d σ H) := fun _ σ _ _ e s' I c => tk e s' (XE.of_call I (fun _ _ _ h => h σ I.len) c)
theorem passLenN {X : Cx} {W : WX} {n : Nat} (tk : Takes X W) (hn : X.N.length = n) : Passes (L2.CX X.prog X.w) X (fun cls d H => ∀ σ : L2.St, σ.length = n → W cls d σ H) := fun _ σ _ _ e s' I c => tk e s' (XE.of_call I (fun _ _ _ h => h σ (I.len.trans hn)) c)
/-! ### ratios: the mathematics -/
/-- p / q is O / U in lowest terms -/
structure Nf (O U p q : Int) : Prop where
  pos : 0 < q
  cop : Nat.gcd p.natAbs q.natAbs = 1
  eq : p * U = O * q
  le1 : p.natAbs ≤ O.natAbs
  le2 : q.natAbs ≤ U.natAbs
theorem nf_make {O U : Int} (hU : U ≠ 0) {d : Int} (hd : d = if U < 0 then -((Nat.gcd O.natAbs U.natAbs : Nat) : Int) else ((Nat.gcd O.natAbs U.natAbs : Nat) : Int)) : d ≠ 0 ∧ d.natAbs ≤ U.natAbs ∧ Nf O U (O.fdiv d) (U.fdiv d) := by
  have hg : 0 < Nat.gcd O.natAbs U.natAbs := Nat.gcd_pos_of_pos_right _ (Int.natAbs_pos.mpr hU)
  have hgle : Nat.gcd O.natAbs U.natAbs ≤ U.natAbs := Nat.gcd_le_right _ (Int.natAbs_pos.mpr hU)
  generalize hgg : Nat.gcd O.natAbs U.natAbs = g at hd hg hgle
  have hd0 : d ≠ 0 := by
    rw [hd]
    split <;> omega
  have hda : d.natAbs = g := by
    rw [hd]
    split <;> omega
  have dO : d ∣ O := by
    rw [← Int.natAbs_dvd_natAbs, hda, ← hgg]
    exact Nat.gcd_dvd_left _ _
  have dU : d ∣ U := by
    rw [← Int.natAbs_dvd_natAbs, hda, ← hgg]
    exact Nat.gcd_dvd_right _ _
  obtain ⟨o, rfl⟩ := dO
  obtain ⟨u, rfl⟩ := dU
  rw [Int.mul_fdiv_cancel_left _ hd0, Int.mul_fdiv_cancel_left _ hd0]
  have ho : (d * o).natAbs = g * o.natAbs := by rw [Int.natAbs_mul, hda]
  have hu : (d * u).natAbs = g * u.natAbs := by rw [Int.natAbs_mul, hda]
  refine ⟨hd0, by omega, ?_, ?_, ?_, ?_, ?_⟩
  · have hu0 : u ≠ 0 := fun z => hU (by rw [z, Int.mul_zero])
    by_cases hn : d * u < 0
    · rw [if_pos hn] at hd
      have hdn : d < 0 := by omega
      by_cases h : 0 < u
      · exact h
      · have : 0 ≤ d * u := Int.mul_nonneg_of_nonpos_of_nonpos (by omega) (by omega)
        omega
    · rw [if_neg hn] at hd
      have hdp : 0 < d := by omega
      by_cases h : 0 < u
      · exact h
      · have : d * u ≤ 0 := Int.mul_nonpos_of_nonneg_of_nonpos (by omega) (by omega)
        have : d * u ≠ 0 := hU
        omega
  · rw [ho, hu, Nat.gcd_mul_left] at hgg
    exact Nat.eq_of_mul_eq_mul_left hg (by omega)
  · grind
  · rw [ho]
    exact Nat.le_mul_of_pos_left _ hg
  · rw [hu]
    exact Nat.le_mul_of_pos_left _ hg
theorem cross_unique {p q p' q' : Int} (h : 0 < q) (h' : 0 < q') (c : Nat.gcd p.natAbs q.natAbs = 1) (c' : Nat.gcd p'.natAbs q'.natAbs = 1) (e : p * q' = p' * q) : p = p' ∧ q = q' := by
  have e2 : p.natAbs * q'.natAbs = p'.natAbs * q.natAbs := by rw [← Int.natAbs_mul, ← Int.natAbs_mul, e]
  have d1 : q.natAbs ∣ q'.natAbs := Nat.Coprime.dvd_of_dvd_mul_left (k := q.natAbs) (m := p.natAbs) (n := q'.natAbs) (by rw [Nat.Coprime, Nat.gcd_comm]; exact c) ⟨p'.natAbs, by rw [e2, Nat.mul_comm]⟩
  have d2 : q'.natAbs ∣ q.natAbs := Nat.Coprime.dvd_of_dvd_mul_left (k := q'.natAbs) (m := p'.natAbs) (n := q.natAbs) (by rw [Nat.Coprime, Nat.gcd_comm]; exact c') ⟨p.natAbs, by rw [← e2, Nat.mul_comm]⟩
  have eq : q.natAbs = q'.natAbs := Nat.dvd_antisymm d1 d2
  have eq2 : q = q' := by omega
  subst eq2
  exact ⟨Int.eq_of_mul_eq_mul_right (by omega) e, rfl⟩
theorem Nf.unique {O U p q p' q' : Int} (hU : U ≠ 0) (h : Nf O U p q) (h' : Nf O U p' q') : p = p' ∧ q = q' := by
  refine cross_unique h.pos h'.pos h.cop h'.cop (Int.eq_of_mul_eq_mul_right hU ?_)
  have e1 := h.eq
  have e2 := h'.eq
  grind
/-- the same fraction by other terms -/
theorem Nf.unique2 {O U O' U' p q p' q' : Int} (hU : U ≠ 0) (hU' : U' ≠ 0) (e : O * U' = O' * U) (h : Nf O U p q) (h' : Nf O' U' p' q') : p = p' ∧ q = q' := by
  refine cross_unique h.pos h'.pos h.cop h'.cop (Int.eq_of_mul_eq_mul_right (Int.mul_ne_zero hU hU') ?_)
  have e1 := h.eq
  have e2 := h'.eq
  grind
theorem nf_self {p q : Int} (h : 0 < q) (c : Nat.gcd p.natAbs q.natAbs = 1) : Nf p q p q := ⟨h, c, rfl, Nat.le_refl _, Nat.le_refl _⟩
theorem gcd_one (n : Int) : Nat.gcd n.natAbs (1 : Int).natAbs = 1 := Nat.gcd_one_right _
/-! ### ratios: the objects -/
theorem op_fdivZ {X : Cx} : OpR X (binaryOp .FloorDiv) (rI (fun _ j => j ≠ 0 ∧ j.natAbs.log2 < 9000) fun i j => .int (i.fdiv j)) := opI fun _ _ _ _ _ _ _ hc q => floordiv_int hc.1 q (.inl (PyProof.noPylong_of_log2 hc.2))
theorem ou : ¬ (("over" : Str) = "under") := by decide +kernel
def rfR (p q : Int) : List (Str × V) := putF "under" (.int q) (putF "over" (.int p) [])
theorem rfR_eq (p q : Int) : rfR p q = ([("over", V.int p), ("under", V.int q)] : List (Str × V)) := by
  show (if ("over" : Str) = "under" then [(("over" : Str), V.int q)] else (("over" : Str), V.int p) :: putF "under" (V.int q) []) = ([("over", V.int p), ("under", V.int q)] : List (Str × V))
  rw [if_neg ou]
  all_goals rfl
theorem rfR_over (p q : Int) : (rfR p q).lookup ("over" : Str) = some (.int p) := by
  unfold rfR
  rw [lookup_putF, if_neg ou, lookup_putF, if_pos rfl]
theorem rfR_under (p q : Int) : (rfR p q).lookup ("under" : Str) = some (.int q) := by
  unfold rfR
  rw [lookup_putF, if_pos rfl]
theorem rfR_no (p q : Int) {m : Str} (h1 : ¬ m = "under") (h2 : ¬ m = "over") : (rfR p q).lookup m = none := by
  unfold rfR
  rw [lookup_putF, if_neg h1, lookup_putF, if_neg h2]
  all_goals rfl
/-- v is a ratio, p / q in lowest terms -/
structure Rat (C : Addr) (H : Hp) (v : V) (p q : Int) : Prop where
  at_ : ∃ a dx, v = .ref a ∧ H a = some (.ins C dx (rfR p q))
  pos : 0 < q
  cop : Nat.gcd p.natAbs q.natAbs = 1
theorem Rat.same {C : Addr} {H H' : Hp} {v : V} {p q : Int} (R : Rat C H v p q) (e : Same H H') : Rat C H' v p q := by
  obtain ⟨⟨a, dx, rfl, h⟩, h1, h2⟩ := R
  exact ⟨⟨a, dx, rfl, e _ _ h⟩, h1, h2⟩
theorem Rat.isC {C : Addr} {H : Hp} {v : V} {p q : Int} (R : Rat C H v p q) : IsC C H v := by
  obtain ⟨⟨a, dx, rfl, h⟩, _⟩ := R
  exact ⟨a, dx, _, rfl, h⟩
theorem Rat.ty {K : PySem.W.Frag} {C : Addr} {H : Hp} {v : V} {p q : Int} (R : Rat C H v p q) (T : InsC K C) : TyX K H v (.ref C) := by
  obtain ⟨⟨a, dx, rfl, h⟩, _⟩ := R
  exact T.ty h
theorem Rat.inj {C : Addr} {H : Hp} {v : V} {p q p' q' : Int} (R : Rat C H v p q) (R' : Rat C H v p' q') : p = p' ∧ q = q' := by
  obtain ⟨⟨a, dx, rfl, h⟩, _⟩ := R
  obtain ⟨⟨b, dy, e, h'⟩, _⟩ := R'
  cases e
  rw [h] at h'
  have e : rfR p q = rfR p' q' := by
    injection h' with h'
    injection h'
  rw [rfR_eq, rfR_eq] at e
  simp at e
  exact e
/-- a ratio, or an int that counts as one -/
inductive Num (C : Addr) (H : Hp) : V → Int → Int → Prop where
  | rat {v : V} {p q : Int} (R : Rat C H v p q) : Num C H v p q
  | int (n : Int) : Num C H (.int n) n 1
theorem Num.same {C : Addr} {H H' : Hp} {v : V} {p q : Int} (N : Num C H v p q) (e : Same H H') : Num C H' v p q := by
  cases N with
  | rat R => exact .rat (R.same e)
  | int => exact .int _
theorem Num.pos {C : Addr} {H : Hp} {v : V} {p q : Int} (N : Num C H v p q) : 0 < q := by
  cases N with
  | rat R => exact R.pos
  | int => decide
theorem log2_le {a b : Int} {n : Nat} (h : a.natAbs ≤ b.natAbs) (ha : a ≠ 0) (hb : b.natAbs.log2 < n) : a.natAbs.log2 < n := by
  have ha' : a.natAbs ≠ 0 := fun z => ha (Int.natAbs_eq_zero.mp z)
  have hb' : b.natAbs ≠ 0 := fun z => ha' (by omega)
  exact (Nat.log2_lt ha').mpr (Nat.lt_of_le_of_lt h ((Nat.log2_lt hb').mp hb))
/-- sizes: terms of at most n bits -/
def Sz (n : Nat) (p q : Int) : Prop := p.natAbs < 2 ^ n ∧ q.natAbs < 2 ^ n
theorem Sz.mono {n m : Nat} {p q : Int} (h : Sz n p q) (l : n ≤ m) : Sz m p q := ⟨Nat.lt_of_lt_of_le h.1 (Nat.pow_le_pow_right (by decide) l), Nat.lt_of_lt_of_le h.2 (Nat.pow_le_pow_right (by decide) l)⟩
theorem pow_two_succ (n : Nat) : 2 ^ n + 2 ^ n = 2 ^ (n + 1) := by rw [Nat.pow_succ]; omega
theorem sz_add {a b c d : Int} {n : Nat} (ha : a.natAbs < 2 ^ n) (hb : b.natAbs < 2 ^ n) (hc : c.natAbs < 2 ^ n) (hd : d.natAbs < 2 ^ n) : (a * b + c * d).natAbs < 2 ^ (n + n + 1) := by
  have h1 := wide_lt ha hb
  have h2 := wide_lt hc hd
  have := pow_two_succ (n + n)
  omega
theorem sz_sub {a b c d : Int} {n : Nat} (ha : a.natAbs < 2 ^ n) (hb : b.natAbs < 2 ^ n) (hc : c.natAbs < 2 ^ n) (hd : d.natAbs < 2 ^ n) : (a * b - c * d).natAbs < 2 ^ (n + n + 1) := by
  have h1 := wide_lt ha hb
  have h2 := wide_lt hc hd
  have := pow_two_succ (n + n)
  omega
theorem sz_log {a : Int} {n : Nat} (h : a.natAbs < 2 ^ n) (h0 : 0 < n) (h1 : n ≤ 9000) : a.natAbs.log2 < 9000 := Nat.lt_of_lt_of_le (PySem.Flt.log2_lt_of h0 h) h1
theorem sz_mul {a b : Int} {n : Nat} (ha : a.natAbs < 2 ^ n) (hb : b.natAbs < 2 ^ n) (h0 : 0 < n) (h1 : n ≤ 4000) : CMulW a b := wide_mul ha hb h0 h0 (by omega)
/-- what is wrong with the terms of a ratio, and how it is told -/
def BadR (x y : V) (w : Str) (z : V) : Prop := (isInt x = false ∧ w = "over" ∧ z = x) ∨ (isInt x = true ∧ isInt y = false ∧ w = "under" ∧ z = y) ∨ (isInt x = true ∧ y = .int 0 ∧ w = "under" ∧ z = .int 0)
def spInit (K : PySem.W.Frag) (C CB : Addr) : Sp := fun vs H Q E => ∃ (a dx : Addr) (x y : V), vs = [.ref a, x, y] ∧ H a = some (.ins C dx []) ∧ Kn K H x ∧ Kn K H y ∧
  (∀ O U, x = .int O → y = .int U → U ≠ 0 → U.natAbs.log2 < 9000 ∧ ∀ p q H', Nf O U p q → H' a = some (.ins C dx (rfR p q)) → (∀ b o, H b = some o → b ≠ a → H' b = some o) → Q .non H') ∧
  (∀ w z, BadR x y w z → ∀ d H', H d = none → Same H H' → H' d = some (.xd [("value", z), ("what", .str w)]) → E (.ref CB) (some d) H')
/-- a made ratio, from the terms' own use -/
theorem mk_ratio {K : PySem.W.Frag} {C CB : Addr} {H : Hp} {O U : Int} {Q : Addr → Hp → Prop} {E : XK} (hU : U ≠ 0) (hz : U.natAbs.log2 < 9000) (h : ∀ a p q H', Same H H' → Rat C H' (.ref a) p q → Nf O U p q → Q a H') :
    ∀ x dx, H x = none → H dx = none → dx ≠ x → spInit K C CB (.ref x :: ([.int O, .int U] ++ [])) (upd (upd H dx (.own x)) x (.ins C dx [])) (fun v H2 => v = .non ∧ Q x H2) E := by
  intro x dx nx nd ne
  refine ⟨x, dx, .int O, .int U, rfl, upd_same, kn_int O, kn_int U, fun O' U' e1 e2 _ => ?_, fun w z hb => ?_⟩
  · cases e1
    cases e2
    exact ⟨hz, fun p q H' nf ha k => ⟨rfl, h x p q H' (Same.made nx nd k) ⟨⟨x, dx, rfl, ha⟩, nf.pos, nf.cop⟩ nf⟩⟩
  · rcases hb with ⟨e, _⟩ | ⟨_, e, _⟩ | ⟨_, e, _⟩
    · cases e
    · cases e
    · cases e
      exact absurd rfl hU
/-- C(n): with the default under -/
theorem mk_ratio1 {K : PySem.W.Frag} {C CB : Addr} {H : Hp} {O : Int} {Q : Addr → Hp → Prop} {E : XK} (h : ∀ a H', Same H H' → Rat C H' (.ref a) O 1 → Q a H') :
    ∀ x dx, H x = none → H dx = none → dx ≠ x → spInit K C CB (.ref x :: ([.int O] ++ [.int 1])) (upd (upd H dx (.own x)) x (.ins C dx [])) (fun v H2 => v = .non ∧ Q x H2) E :=
  mk_ratio (U := 1) (by decide) (by decide) fun a p q H' sm R nf => by
    obtain ⟨rfl, rfl⟩ := nf.unique (by decide) (nf_self (by decide) (gcd_one O))
    exact h a H' sm R
def spRatioOf (C : Addr) : Sp := fun vs H Q _ => ∃ (x : V) (p q : Int), vs = [x] ∧ Num C H x p q ∧ ∀ r H', Same H H' → Rat C H' r p q → Q r H'
/-- a method with a ratio and a number: the ratio fO / fU -/
def spArith (C : Addr) (fO fU : Int → Int → Int → Int → Int) : Sp := fun vs H Q _ => ∃ (x y : V) (p1 q1 p2 q2 : Int) (n : Nat), vs = [x, y] ∧ Rat C H x p1 q1 ∧ Num C H y p2 q2 ∧ Sz n p1 q1 ∧ Sz n p2 q2 ∧ 0 < n ∧ n ≤ 4000 ∧
  ∀ r p q H', Same H H' → Rat C H' r p q → Nf (fO p1 q1 p2 q2) (fU p1 q1 p2 q2) p q → Q r H'
/-- a comparison -/
def spOrd (C : Addr) (f : Int → Int → Bool) : Sp := fun vs H Q _ => ∃ (x y : V) (p1 q1 p2 q2 : Int) (n : Nat), vs = [x, y] ∧ Rat C H x p1 q1 ∧ Num C H y p2 q2 ∧ Sz n p1 q1 ∧ Sz n p2 q2 ∧ 0 < n ∧ n ≤ 4000 ∧
  ∀ H', Same H H' → Q (.bl (f (p1 * q2) (p2 * q1))) H'
/-- == -/
def spEqR (K : PySem.W.Frag) (C : Addr) : Sp := fun vs H Q _ => ∃ (x y : V) (p q : Int), vs = [x, y] ∧ Rat C H x p q ∧
  ((∃ p' q', Rat C H y p' q' ∧ Q (.bl (decide (p = p') && decide (q = q'))) H) ∨ (∃ t, TyX K H y t ∧ PySem.W.kitOne K t (.ref C) = some false ∧ Q (.bl false) H))
theorem slotargs_lt (n : Int) (t : Tok) (x : Addr) : slotArgs "__lt__" 1 ⟨[.int n t, .ref x], []⟩ = pure (.int n t, [.ref x]) := by first | rfl | (simp only [slotArgs]; rfl)
theorem slotargs_le (n : Int) (t : Tok) (x : Addr) : slotArgs "__le__" 1 ⟨[.int n t, .ref x], []⟩ = pure (.int n t, [.ref x]) := by first | rfl | (simp only [slotArgs]; rfl)
theorem slotargs_gt (n : Int) (t : Tok) (x : Addr) : slotArgs "__gt__" 1 ⟨[.int n t, .ref x], []⟩ = pure (.int n t, [.ref x]) := by first | rfl | (simp only [slotArgs]; rfl)
theorem slotargs_ge (n : Int) (t : Tok) (x : Addr) : slotArgs "__ge__" 1 ⟨[.int n t, .ref x], []⟩ = pure (.int n t, [.ref x]) := by first | rfl | (simp only [slotArgs]; rfl)
theorem slotargs_add (n : Int) (t : Tok) (x : Addr) : slotArgs "__add__" 1 ⟨[.int n t, .ref x], []⟩ = pure (.int n t, [.ref x]) := by first | rfl | (simp only [slotArgs]; rfl)
theorem slotargs_sub (n : Int) (t : Tok) (x : Addr) : slotArgs "__sub__" 1 ⟨[.int n t, .ref x], []⟩ = pure (.int n t, [.ref x]) := by first | rfl | (simp only [slotArgs]; rfl)
theorem slotargs_mul (n : Int) (t : Tok) (x : Addr) : slotArgs "__mul__" 1 ⟨[.int n t, .ref x], []⟩ = pure (.int n t, [.ref x]) := by first | rfl | (simp only [slotArgs]; rfl)
/-- the same with an int on the right -/
def spArithI (C : Addr) (fO fU : Int → Int → Int → Int → Int) : Sp := fun vs H Q E => ∃ n : Int, vs[1]? = some (.int n) ∧ spArith C fO fU vs H Q E
def spDiv (C CB : Addr) : Sp := fun vs H Q E => ∃ (x y : V) (p1 q1 p2 q2 : Int) (n : Nat), vs = [x, y] ∧ Rat C H x p1 q1 ∧ Num C H y p2 q2 ∧ Sz n p1 q1 ∧ Sz n p2 q2 ∧ 0 < n ∧ n ≤ 4000 ∧
  (p2 ≠ 0 → ∀ r p q H', Same H H' → Rat C H' r p q → Nf (p1 * q2) (q1 * p2) p q → Q r H') ∧
  (p2 = 0 → ∀ d H', H d = none → Same H H' → H' d = some (.xd [("value", .int 0), ("what", .str "under")]) → E (.ref CB) (some d) H')
/-- a made ratio that may be refused for its under -/
theorem mk_ratioE {K : PySem.W.Frag} {C CB : Addr} {H : Hp} {O U : Int} {Q : Addr → Hp → Prop} {E : XK} (hz : U.natAbs.log2 < 9000) (h : U ≠ 0 → ∀ a p q H', Same H H' → Rat C H' (.ref a) p q → Nf O U p q → Q a H')
    (he : U = 0 → ∀ d H', H d = none → Same H H' → H' d = some (.xd [("value", .int 0), ("what", .str "under")]) → E (.ref CB) (some d) H') :
    ∀ x dx, H x = none → H dx = none → dx ≠ x → spInit K C CB (.ref x :: ([.int O, .int U] ++ [])) (upd (upd H dx (.own x)) x (.ins C dx [])) (fun v H2 => v = .non ∧ Q x H2) E := by
  intro x dx nx nd ne
  refine ⟨x, dx, .int O, .int U, rfl, upd_same, kn_int O, kn_int U, fun O' U' e1 e2 hU => ?_, fun w z hb d H' hd sm hx => ?_⟩
  · cases e1
    cases e2
    exact ⟨hz, fun p q H' nf ha k => ⟨rfl, h hU x p q H' (Same.made nx nd k) ⟨⟨x, dx, rfl, ha⟩, nf.pos, nf.cop⟩ nf⟩⟩
  · rcases hb with ⟨e, _⟩ | ⟨_, e, _⟩ | ⟨_, e, rfl, rfl⟩
    · cases e
    · cases e
    · cases e
      have s0 : Same H (upd (upd H dx (.own x)) x (.ins C dx [])) := fun b o e => by
        rw [upd_ne (ne_of_none e nx), upd_ne (ne_of_none e nd)]
        exact e
      exact he rfl d H' (s0.free hd) (s0.trans sm) hx
/-! ### rational numbers: v is the fraction O / U, its terms below 2 ^ n -/
def Rp (C : Addr) (H : Hp) (v : V) (O U : Int) (n : Nat) : Prop := ∃ p q, Rat C H v p q ∧ p * U = O * q ∧ U ≠ 0 ∧ Sz n p q ∧ 0 < n
theorem Rp.same {C : Addr} {H H' : Hp} {v : V} {O U : Int} {n : Nat} (R : Rp C H v O U n) (e : Same H H') : Rp C H' v O U n := by
  obtain ⟨p, q, R, h⟩ := R
  exact ⟨p, q, R.same e, h⟩
theorem Rp.mono {C : Addr} {H : Hp} {v : V} {O U : Int} {n m : Nat} (R : Rp C H v O U n) (l : n ≤ m) : Rp C H v O U m := by
  obtain ⟨p, q, R, h1, h2, h3, h4⟩ := R
  exact ⟨p, q, R, h1, h2, h3.mono l, by omega⟩
theorem Rp.isC {C : Addr} {H : Hp} {v : V} {O U : Int} {n : Nat} (R : Rp C H v O U n) : IsC C H v := by
  obtain ⟨p, q, R, _⟩ := R
  exact R.isC
theorem Rp.nz {C : Addr} {H : Hp} {v : V} {O U : Int} {n : Nat} (R : Rp C H v O U n) : U ≠ 0 := by
  obtain ⟨p, q, _, _, h, _⟩ := R
  exact h
theorem Rp.obj {C : Addr} {H : Hp} {v : V} {O U : Int} {n : Nat} (R : Rp C H v O U n) : ∃ a dx p q, v = .ref a ∧ H a = some (.ins C dx (rfR p q)) := by
  obtain ⟨p, q, ⟨⟨a, dx, e, h⟩, _⟩, _⟩ := R
  exact ⟨a, dx, p, q, e, h⟩
/-- the same number by other terms -/
theorem Rp.as {C : Addr} {H : Hp} {v : V} {O U O' U' : Int} {n : Nat} (R : Rp C H v O U n) (hU : U' ≠ 0) (e : O * U' = O' * U) : Rp C H v O' U' n := by
  obtain ⟨p, q, R, h1, h2, h3⟩ := R
  refine ⟨p, q, R, Int.eq_of_mul_eq_mul_right h2 ?_, hU, h3⟩
  grind
theorem rp_make {C : Addr} {H : Hp} {v : V} {O U p q : Int} {n : Nat} (R : Rat C H v p q) (nf : Nf O U p q) (hU : U ≠ 0) (hO : O.natAbs < 2 ^ n) (hU2 : U.natAbs < 2 ^ n) (n0 : 0 < n) : Rp C H v O U n :=
  ⟨p, q, R, nf.eq, hU, ⟨Nat.lt_of_le_of_lt nf.le1 hO, Nat.lt_of_le_of_lt nf.le2 hU2⟩, n0⟩
theorem rp_int {C : Addr} {H : Hp} {v : V} {m : Int} {n : Nat} (R : Rat C H v m 1) (h : m.natAbs < 2 ^ n) (h0 : 0 < n) : Rp C H v m 1 n := ⟨m, 1, R, rfl, by decide, ⟨h, Nat.one_lt_two_pow (by omega)⟩, h0⟩
theorem mul_ne3 {a b : Int} (ha : a ≠ 0) (hb : b ≠ 0) : a * b ≠ 0 := Int.mul_ne_zero ha hb
section
variable {K : PySem.W.Frag} {C CB : Addr} {H : Hp} {x y : V} {O1 U1 O2 U2 : Int} {n m : Nat} {Q : VK}
theorem st_eq (T : InsC K C) (R1 : Rp C H x O1 U1 n) (R2 : Rp C H y O2 U2 m) (k : Q (.bl (decide (O1 * U2 = O2 * U1))) H) : rOwnC K C (spEqR K C) E0 x y H Q := by
  have c1 := R1.isC
  obtain ⟨p1, q1, R1, e1, u1, _⟩ := R1
  obtain ⟨p2, q2, R2, e2, u2, _⟩ := R2
  refine ⟨c1, ⟨_, R2.ty T, by simp [PySem.W.notFirst]⟩, x, y, p1, q1, rfl, R1, .inl ⟨p2, q2, R2, ?_⟩⟩
  have : (decide (p1 = p2) && decide (q1 = q2)) = decide (O1 * U2 = O2 * U1) := by
    by_cases e : O1 * U2 = O2 * U1
    · have h : p1 * q2 = p2 * q1 := Int.eq_of_mul_eq_mul_right (Int.mul_ne_zero u1 u2) (by grind)
      obtain ⟨rfl, rfl⟩ := cross_unique R1.pos R2.pos R1.cop R2.cop h
      simp [e]
    · rw [decide_eq_false e]
      by_cases hp : p1 = p2
      · by_cases hq : q1 = q2
        · subst hp
          subst hq
          exact absurd (Int.eq_of_mul_eq_mul_right (show q1 ≠ 0 from by have := R1.pos; omega) (by grind)) e
        · simp [hq]
      · simp [hp]
  rw [this]
  exact k
theorem st_eqT (T : InsC K C) (R1 : Rp C H x O1 U1 n) (R2 : Rp C H y O2 U2 m) (e : O1 * U2 = O2 * U1) (k : Q (.bl true) H) : rOwnC K C (spEqR K C) E0 x y H Q := st_eq T R1 R2 (by rw [decide_eq_true e]; exact k)
theorem st_ne (T : InsC K C) (R1 : Rp C H x O1 U1 n) (R2 : Rp C H y O2 U2 m) (k : Q (.bl (!decide (O1 * U2 = O2 * U1))) H) : rOwnNe K C (spEqR K C) E0 x y H Q := by
  obtain ⟨h1, h2, h3⟩ := st_eq (Q := fun z H' => ∃ r, z = .bl r ∧ Q (.bl (!r)) H') T R1 R2 ⟨_, rfl, k⟩
  exact ⟨h1, h2, h3⟩
theorem st_neF (T : InsC K C) (R1 : Rp C H x O1 U1 n) (R2 : Rp C H y O2 U2 m) (e : O1 * U2 = O2 * U1) (k : Q (.bl false) H) : rOwnNe K C (spEqR K C) E0 x y H Q := st_ne T R1 R2 (by rw [decide_eq_true e]; exact k)
theorem st_div (R1 : Rp C H x O1 U1 n) (R2 : Rp C H y O2 U2 n) (h2 : O2 ≠ 0) (hn : n ≤ 2000) (k : ∀ r H', Same H H' → Rp C H' r (O1 * U2) (U1 * O2) (n + n) → Q r H') {E : XK} : spDiv C CB [x, y] H Q E := by
  obtain ⟨p1, q1, R1, e1, u1, z1, n0⟩ := R1
  obtain ⟨p2, q2, R2, e2, u2, z2, _⟩ := R2
  have hp2 : p2 ≠ 0 := fun z => by
    have : O2 * q2 = 0 := by rw [← e2, z, Int.zero_mul]
    rcases Int.mul_eq_zero.mp this with z | z
    · exact h2 z
    · have := R2.pos
      omega
  have hq1 : q1 ≠ 0 := by have := R1.pos; omega
  have hq2 : q2 ≠ 0 := by have := R2.pos; omega
  refine ⟨x, y, p1, q1, p2, q2, n, rfl, R1, .rat R2, z1, z2, n0, by omega, fun _ r p q H' sm R nf => k r H' sm ⟨p, q, R, ?_, Int.mul_ne_zero u1 h2, ⟨Nat.lt_of_le_of_lt nf.le1 (wide_lt z1.1 z2.2), Nat.lt_of_le_of_lt nf.le2 (wide_lt z1.2 z2.1)⟩, by omega⟩, fun z => absurd z hp2⟩
  have e3 := nf.eq
  exact Int.eq_of_mul_eq_mul_right (Int.mul_ne_zero hq1 hp2) (by grind)
theorem st_divI {k0 : Int} (R1 : Rp C H x O1 U1 n) (hk : k0.natAbs < 2 ^ n) (h2 : k0 ≠ 0) (hn : n ≤ 2000) (k : ∀ r H', Same H H' → Rp C H' r O1 (U1 * k0) (n + n) → Q r H') {E : XK} : spDiv C CB [x, .int k0] H Q E := by
  obtain ⟨p1, q1, R1, e1, u1, z1, n0⟩ := R1
  have hq1 : q1 ≠ 0 := by have := R1.pos; omega
  have h1n : (1 : Int).natAbs < 2 ^ n := Nat.one_lt_two_pow (by omega)
  refine ⟨x, _, p1, q1, k0, 1, n, rfl, R1, .int k0, z1, ⟨hk, h1n⟩, n0, by omega, fun _ r p q H' sm R nf => k r H' sm ⟨p, q, R, ?_, Int.mul_ne_zero u1 h2, ⟨Nat.lt_of_le_of_lt nf.le1 (wide_lt z1.1 h1n), Nat.lt_of_le_of_lt nf.le2 (wide_lt z1.2 hk)⟩, by omega⟩, fun z => absurd z h2⟩
  have e3 := nf.eq
  exact Int.eq_of_mul_eq_mul_right (Int.mul_ne_zero hq1 h2) (by grind)
theorem st_add (R1 : Rp C H x O1 U1 n) (R2 : Rp C H y O2 U2 n) (hn : n ≤ 2000) (k : ∀ r H', Same H H' → Rp C H' r (O1 * U2 + O2 * U1) (U1 * U2) (n + n + 1) → Q r H') : rOwnB C (spArith C (fun p1 q1 p2 q2 => p1 * q2 + p2 * q1) (fun p1 q1 p2 q2 => q1 * q2)) E0 x y H Q := by
  have c1 := R1.isC
  have c2 := R2.isC
  obtain ⟨p1, q1, R1, e1, u1, z1, n0⟩ := R1
  obtain ⟨p2, q2, R2, e2, u2, z2, _⟩ := R2
  have hq1 : q1 ≠ 0 := by have := R1.pos; omega
  have hq2 : q2 ≠ 0 := by have := R2.pos; omega
  refine ⟨c1, c2, x, y, p1, q1, p2, q2, n, rfl, R1, .rat R2, z1, z2, n0, by omega, fun r p q H' sm R nf => k r H' sm ⟨p, q, R, ?_, Int.mul_ne_zero u1 u2, ⟨Nat.lt_of_le_of_lt nf.le1 (sz_add z1.1 z2.2 z2.1 z1.2), Nat.lt_of_le_of_lt nf.le2 (Nat.lt_of_lt_of_le (wide_lt z1.2 z2.2) (Nat.pow_le_pow_right (by decide) (by omega)))⟩, by omega⟩⟩
  have e3 := nf.eq
  exact Int.eq_of_mul_eq_mul_right (Int.mul_ne_zero hq1 hq2) (by grind)
theorem st_addI {k0 : Int} (R1 : Rp C H x O1 U1 n) (hk : k0.natAbs < 2 ^ n) (hn : n ≤ 2000) (k : ∀ r H', Same H H' → Rp C H' r (O1 + k0 * U1) U1 (n + n + 1) → Q r H') : rOwnI C (spArith C (fun p1 q1 p2 q2 => p1 * q2 + p2 * q1) (fun p1 q1 p2 q2 => q1 * q2)) E0 x (.int k0) H Q := by
  have c1 := R1.isC
  obtain ⟨p1, q1, R1, e1, u1, z1, n0⟩ := R1
  have hq1 : q1 ≠ 0 := by have := R1.pos; omega
  have h1n : (1 : Int).natAbs < 2 ^ n := Nat.one_lt_two_pow (by omega)
  have z2 : Sz n k0 1 := ⟨hk, h1n⟩
  refine ⟨c1, ⟨_, rfl⟩, x, _, p1, q1, k0, 1, n, rfl, R1, .int k0, z1, z2, n0, by omega, fun r p q H' sm R nf => k r H' sm ⟨p, q, R, ?_, u1, ⟨Nat.lt_of_le_of_lt nf.le1 (sz_add z1.1 z2.2 z2.1 z1.2), Nat.lt_of_le_of_lt nf.le2 (Nat.lt_of_lt_of_le (wide_lt z1.2 z2.2) (Nat.pow_le_pow_right (by decide) (by omega)))⟩, by omega⟩⟩
  have e3 := nf.eq
  exact Int.eq_of_mul_eq_mul_right hq1 (by grind)
theorem st_sub (R1 : Rp C H x O1 U1 n) (R2 : Rp C H y O2 U2 n) (hn : n ≤ 2000) (k : ∀ r H', Same H H' → Rp C H' r (O1 * U2 - O2 * U1) (U1 * U2) (n + n + 1) → Q r H') : rOwnB C (spArith C (fun p1 q1 p2 q2 => p1 * q2 - p2 * q1) (fun p1 q1 p2 q2 => q1 * q2)) E0 x y H Q := by
  have c1 := R1.isC
  have c2 := R2.isC
  obtain ⟨p1, q1, R1, e1, u1, z1, n0⟩ := R1
  obtain ⟨p2, q2, R2, e2, u2, z2, _⟩ := R2
  have hq1 : q1 ≠ 0 := by have := R1.pos; omega
  have hq2 : q2 ≠ 0 := by have := R2.pos; omega
  refine ⟨c1, c2, x, y, p1, q1, p2, q2, n, rfl, R1, .rat R2, z1, z2, n0, by omega, fun r p q H' sm R nf => k r H' sm ⟨p, q, R, ?_, Int.mul_ne_zero u1 u2, ⟨Nat.lt_of_le_of_lt nf.le1 (sz_sub z1.1 z2.2 z2.1 z1.2), Nat.lt_of_le_of_lt nf.le2 (Nat.lt_of_lt_of_le (wide_lt z1.2 z2.2) (Nat.pow_le_pow_right (by decide) (by omega)))⟩, by omega⟩⟩
  have e3 := nf.eq
  exact Int.eq_of_mul_eq_mul_right (Int.mul_ne_zero hq1 hq2) (by grind)
theorem st_subI {k0 : Int} (R1 : Rp C H x O1 U1 n) (hk : k0.natAbs < 2 ^ n) (hn : n ≤ 2000) (k : ∀ r H', Same H H' → Rp C H' r (O1 - k0 * U1) U1 (n + n + 1) → Q r H') : rOwnI C (spArith C (fun p1 q1 p2 q2 => p1 * q2 - p2 * q1) (fun p1 q1 p2 q2 => q1 * q2)) E0 x (.int k0) H Q := by
  have c1 := R1.isC
  obtain ⟨p1, q1, R1, e1, u1, z1, n0⟩ := R1
  have hq1 : q1 ≠ 0 := by have := R1.pos; omega
  have h1n : (1 : Int).natAbs < 2 ^ n := Nat.one_lt_two_pow (by omega)
  have z2 : Sz n k0 1 := ⟨hk, h1n⟩
  refine ⟨c1, ⟨_, rfl⟩, x, _, p1, q1, k0, 1, n, rfl, R1, .int k0, z1, z2, n0, by omega, fun r p q H' sm R nf => k r H' sm ⟨p, q, R, ?_, u1, ⟨Nat.lt_of_le_of_lt nf.le1 (sz_sub z1.1 z2.2 z2.1 z1.2), Nat.lt_of_le_of_lt nf.le2 (Nat.lt_of_lt_of_le (wide_lt z1.2 z2.2) (Nat.pow_le_pow_right (by decide) (by omega)))⟩, by omega⟩⟩
  have e3 := nf.eq
  exact Int.eq_of_mul_eq_mul_right hq1 (by grind)
theorem st_mul (R1 : Rp C H x O1 U1 n) (R2 : Rp C H y O2 U2 n) (hn : n ≤ 2000) (k : ∀ r H', Same H H' → Rp C H' r (O1 * O2) (U1 * U2) (n + n + 1) → Q r H') : rOwnB C (spArith C (fun p1 q1 p2 q2 => p1 * p2) (fun p1 q1 p2 q2 => q1 * q2)) E0 x y H Q := by
  have c1 := R1.isC
  have c2 := R2.isC
  obtain ⟨p1, q1, R1, e1, u1, z1, n0⟩ := R1
  obtain ⟨p2, q2, R2, e2, u2, z2, _⟩ := R2
  have hq1 : q1 ≠ 0 := by have := R1.pos; omega
  have hq2 : q2 ≠ 0 := by have := R2.pos; omega
  refine ⟨c1, c2, x, y, p1, q1, p2, q2, n, rfl, R1, .rat R2, z1, z2, n0, by omega, fun r p q H' sm R nf => k r H' sm ⟨p, q, R, ?_, Int.mul_ne_zero u1 u2, ⟨Nat.lt_of_le_of_lt nf.le1 (Nat.lt_of_lt_of_le (wide_lt z1.1 z2.1) (Nat.pow_le_pow_right (by decide) (by omega))), Nat.lt_of_le_of_lt nf.le2 (Nat.lt_of_lt_of_le (wide_lt z1.2 z2.2) (Nat.pow_le_pow_right (by decide) (by omega)))⟩, by omega⟩⟩
  have e3 := nf.eq
  exact Int.eq_of_mul_eq_mul_right (Int.mul_ne_zero hq1 hq2) (by grind)
theorem st_mulI {k0 : Int} (R1 : Rp C H x O1 U1 n) (hk : k0.natAbs < 2 ^ n) (hn : n ≤ 2000) (k : ∀ r H', Same H H' → Rp C H' r (O1 * k0) U1 (n + n + 1) → Q r H') : rOwnI C (spArith C (fun p1 q1 p2 q2 => p1 * p2) (fun p1 q1 p2 q2 => q1 * q2)) E0 x (.int k0) H Q := by
  have c1 := R1.isC
  obtain ⟨p1, q1, R1, e1, u1, z1, n0⟩ := R1
  have hq1 : q1 ≠ 0 := by have := R1.pos; omega
  have h1n : (1 : Int).natAbs < 2 ^ n := Nat.one_lt_two_pow (by omega)
  have z2 : Sz n k0 1 := ⟨hk, h1n⟩
  refine ⟨c1, ⟨_, rfl⟩, x, _, p1, q1, k0, 1, n, rfl, R1, .int k0, z1, z2, n0, by omega, fun r p q H' sm R nf => k r H' sm ⟨p, q, R, ?_, u1, ⟨Nat.lt_of_le_of_lt nf.le1 (Nat.lt_of_lt_of_le (wide_lt z1.1 z2.1) (Nat.pow_le_pow_right (by decide) (by omega))), Nat.lt_of_le_of_lt nf.le2 (Nat.lt_of_lt_of_le (wide_lt z1.2 z2.2) (Nat.pow_le_pow_right (by decide) (by omega)))⟩, by omega⟩⟩
  have e3 := nf.eq
  exact Int.eq_of_mul_eq_mul_right hq1 (by grind)
theorem st_addR {k0 : Int} (R1 : Rp C H x O1 U1 n) (hk : k0.natAbs < 2 ^ n) (hn : n ≤ 2000) (k : ∀ r H', Same H H' → Rp C H' r (O1 + k0 * U1) U1 (n + n + 1) → Q r H') : rOwnR C (spArithI C (fun p1 q1 p2 q2 => p1 * q2 + p2 * q1) (fun p1 q1 p2 q2 => q1 * q2)) E0 (.int k0) x H Q := by
  have c1 := R1.isC
  obtain ⟨p1, q1, R1, e1, u1, z1, n0⟩ := R1
  have hq1 : q1 ≠ 0 := by have := R1.pos; omega
  have h1n : (1 : Int).natAbs < 2 ^ n := Nat.one_lt_two_pow (by omega)
  have z2 : Sz n k0 1 := ⟨hk, h1n⟩
  refine ⟨⟨_, rfl⟩, c1, k0, rfl, x, _, p1, q1, k0, 1, n, rfl, R1, .int k0, z1, z2, n0, by omega, fun r p q H' sm R nf => k r H' sm ⟨p, q, R, ?_, u1, ⟨Nat.lt_of_le_of_lt nf.le1 (sz_add z1.1 z2.2 z2.1 z1.2), Nat.lt_of_le_of_lt nf.le2 (Nat.lt_of_lt_of_le (wide_lt z1.2 z2.2) (Nat.pow_le_pow_right (by decide) (by omega)))⟩, by omega⟩⟩
  have e3 := nf.eq
  exact Int.eq_of_mul_eq_mul_right hq1 (by grind)
theorem st_subR {k0 : Int} (R1 : Rp C H x O1 U1 n) (hk : k0.natAbs < 2 ^ n) (hn : n ≤ 2000) (k : ∀ r H', Same H H' → Rp C H' r (k0 * U1 - O1) U1 (n + n + 1) → Q r H') : rOwnR C (spArithI C (fun p1 q1 p2 q2 => p2 * q1 - p1 * q2) (fun p1 q1 p2 q2 => q2 * q1)) E0 (.int k0) x H Q := by
  have c1 := R1.isC
  obtain ⟨p1, q1, R1, e1, u1, z1, n0⟩ := R1
  have hq1 : q1 ≠ 0 := by have := R1.pos; omega
  have h1n : (1 : Int).natAbs < 2 ^ n := Nat.one_lt_two_pow (by omega)
  have z2 : Sz n k0 1 := ⟨hk, h1n⟩
  refine ⟨⟨_, rfl⟩, c1, k0, rfl, x, _, p1, q1, k0, 1, n, rfl, R1, .int k0, z1, z2, n0, by omega, fun r p q H' sm R nf => k r H' sm ⟨p, q, R, ?_, u1, ⟨Nat.lt_of_le_of_lt nf.le1 (sz_sub z2.1 z1.2 z1.1 z2.2), Nat.lt_of_le_of_lt nf.le2 (Nat.lt_of_lt_of_le (wide_lt z2.2 z1.2) (Nat.pow_le_pow_right (by decide) (by omega)))⟩, by omega⟩⟩
  have e3 := nf.eq
  exact Int.eq_of_mul_eq_mul_right hq1 (by grind)
theorem st_mulR {k0 : Int} (R1 : Rp C H x O1 U1 n) (hk : k0.natAbs < 2 ^ n) (hn : n ≤ 2000) (k : ∀ r H', Same H H' → Rp C H' r (O1 * k0) U1 (n + n + 1) → Q r H') : rOwnR C (spArithI C (fun p1 q1 p2 q2 => p1 * p2) (fun p1 q1 p2 q2 => q1 * q2)) E0 (.int k0) x H Q := by
  have c1 := R1.isC
  obtain ⟨p1, q1, R1, e1, u1, z1, n0⟩ := R1
  have hq1 : q1 ≠ 0 := by have := R1.pos; omega
  have h1n : (1 : Int).natAbs < 2 ^ n := Nat.one_lt_two_pow (by omega)
  have z2 : Sz n k0 1 := ⟨hk, h1n⟩
  refine ⟨⟨_, rfl⟩, c1, k0, rfl, x, _, p1, q1, k0, 1, n, rfl, R1, .int k0, z1, z2, n0, by omega, fun r p q H' sm R nf => k r H' sm ⟨p, q, R, ?_, u1, ⟨Nat.lt_of_le_of_lt nf.le1 (Nat.lt_of_lt_of_le (wide_lt z1.1 z2.1) (Nat.pow_le_pow_right (by decide) (by omega))), Nat.lt_of_le_of_lt nf.le2 (Nat.lt_of_lt_of_le (wide_lt z1.2 z2.2) (Nat.pow_le_pow_right (by decide) (by omega)))⟩, by omega⟩⟩
  have e3 := nf.eq
  exact Int.eq_of_mul_eq_mul_right hq1 (by grind)
end
/-! ### str(x) by an own __str__; a static method read off its class -/
section
variable {X : Cx} {CX : CXT} {k : Nat} {f C : Addr} {fd : FuncData} {ps : List Str} {sp : Sp} {E : XK}
def rStrO (C : Addr) (sp : Sp) (E : XK) : List V → Hp → VK → Prop := fun xs H Q => ∃ x, xs = [x] ∧ IsC C H x ∧ sp [x] H (fun v H' => ∃ y : Str, v = .str y ∧ Q v H') E
theorem call_strO (hs : PySem.W.findIn X.K (.ref C) "__str__" = some (some (.ref f))) (hf : PySem.W.isFn X.K (.ref f) = true) (F : FnOk X.prog X.w X.K X.mg X.base CX k f fd ps sp) (hr : Room (k + 1 + 1) X.A) (hb : Binds X.K fd ps []) (hx : Passes CX X E) :
    CallR X (.type "str") (rStrO C sp E) := by
  intro pins s σ H xs us Q I r h
  obtain ⟨x, rfl, ⟨a, dx, fs, rfl, ha⟩, q⟩ := h
  obtain ⟨u, rfl, ru⟩ := vals1 r
  cases (show u = Value.ref a from ru)
  obtain ⟨oa, J⟩ := inst_of I ha
  refine PySem.W.kso_call (A := X.A) (Room.in1 (Room.in1 hr)).units0 I.kIn J hs hf (wpAny_mono (run_deep (vs := [.ref a]) F (Room.in1 (Room.in1 hr)) I.env0.in1.in1 hb hx I (.cons rfl .nil) q) (fun w s' z => ?_) fun _ _ x => x)
  obtain ⟨z', H', I', rz, y, rfl, qz⟩ := z
  obtain ⟨t, rfl⟩ := (show ∃ t, w = Value.str y t from rz)
  exact ⟨.str y, H', I', ⟨t, rfl⟩, qz⟩
/-- the static method m of C: the def at f -/
structure SMet (K : PySem.W.Frag) (C : Addr) (m : Str) (f : Addr) : Prop where
  rd : PySem.W.readsIn K C (.type "type") = true
  ga : PySem.W.specialIn K (.ref C) "__getattribute__" = some (some (.builtin "type.__getattribute__"))
  at_ : ∃ p rest, PySem.W.findCls K (.ref C) (.type "type") m = some (.get (.builtin "staticmethod.__get__") (.ref p) .none (.ref C)) ∧ PySem.W.recIn K p "staticmethod" = some (.ref f :: rest)
/-- C.m() -/
def tSM0 (C : Addr) (sp : Sp) (E : XK) (ta : TE) : TE := fun σ H Q => ta σ H fun x H1 => x = .ref C ∧ sp [] H1 Q E
theorem pe_smeth0 {o : Expr} {m : Str} {pos apos : Pos} {ta : TE} {pl : Sem Bool} (he : PE X o ta) (M : SMet X.K C m f) (F : FnOk X.prog X.w X.K X.mg X.base CX k f fd ps sp) (kp : PySem.W.keepIn X.K (.ref f) = true) (hr : Room k X.A) (hb : Binds X.K fd ps []) (hx : Passes CX X E)
    (ht : eval (.Call (.Attribute o m apos) [] [] pos) X.env = (do
      let ov ← eval o X.env
      standAt apos.atName
      let (f, first) ← holding [ov] (getMethod ov m pl)
      callWith pos f first (backTo pos (starEach [] X.env)) (backToKw pos (keywordEach [] X.env))) := by rfl) :
    PE X (.Call (.Attribute o m apos) [] [] pos) (tSM0 C sp E ta) := by
  refine ⟨fun pins s σ H Q I h => ?_⟩
  refine PySem.W.methodCall_KW (pl := pl) (thn (he.run pins s σ H _ I h) fun u s1 ⟨x, H1, I1, rx, ex, q⟩ => ?_) ht
  subst ex
  obtain rfl : u = Value.ref C := rx
  obtain ⟨p, rest, e, hp⟩ := M.at_
  refine PySem.W.method_cls I1.kIn M.ga ?_
  refine PySem.W.cls_bind I1.kIn M.rd e (wpAny_call (PySem.W.sm_get (s := { s1 with toks := s1.toks + 1 }) I1.kIn hp (PySem.W.handed_on rfl ?_)))
  have I2 : Inv X pins σ H1 { s1 with toks := s1.toks + 1 } := I1.tok _
  exact PySem.W.callWith_K0 (first := []) I2.kIn kp (run_fn (us := []) (vs := []) F hr hb .nil hx I2 .nil (by simpa using q))
end
/-- what the top has left -/
structure Ctx (K : PySem.W.Frag) (mg : Str → Option Value) where
  c_VoteError : Addr
  gc_VoteError : mg "VoteError" = some (.ref c_VoteError)
  c_BadNumber : Addr
  gc_BadNumber : mg "BadNumber" = some (.ref c_BadNumber)
  c_Ratio : Addr
  gc_Ratio : mg "Ratio" = some (.ref c_Ratio)
  f_BadNumber_init : Addr
  fd_BadNumber_init : FuncData
  F_BadNumber_init : Fun K "__init__" "BadNumber.__init__" s_BadNumber_init f_BadNumber_init fd_BadNumber_init
  b_BadNumber_init : Binds K fd_BadNumber_init ["self", "what", "value"] []
  f_is_integer : Addr
  fd_is_integer : FuncData
  F_is_integer : Fun K "is_integer" "is_integer" s_is_integer f_is_integer fd_is_integer
  b_is_integer : Binds K fd_is_integer ["value"] []
  g_is_integer : mg "is_integer" = some (.ref f_is_integer)
  f_check_number : Addr
  fd_check_number : FuncData
  F_check_number : Fun K "check_number" "check_number" s_check_number f_check_number fd_check_number
  b_check_number : Binds K fd_check_number ["what", "value", "low", "high"] []
  g_check_number : mg "check_number" = some (.ref f_check_number)
  f_Ratio_init : Addr
  fd_Ratio_init : FuncData
  F_Ratio_init : FunD K "__init__" "Ratio.__init__" (defArgs s_Ratio_init) (defBody s_Ratio_init) (defScope s_Ratio_init) [.int 1] [] f_Ratio_init fd_Ratio_init
  d_Ratio_init1 : List Value
  v_Ratio_init1 : Vals (List.drop 0 [.int 1]) d_Ratio_init1
  b_Ratio_init1 : Binds K fd_Ratio_init ["self", "over", "under"] d_Ratio_init1
  d_Ratio_init2 : List Value
  v_Ratio_init2 : Vals (List.drop 1 [.int 1]) d_Ratio_init2
  b_Ratio_init2 : Binds K fd_Ratio_init ["self", "over", "under"] d_Ratio_init2
  f_ratio_of : Addr
  fd_ratio_of : FuncData
  F_ratio_of : Fun K "ratio_of" "ratio_of" s_ratio_of f_ratio_of fd_ratio_of
  b_ratio_of : Binds K fd_ratio_of ["value"] []
  g_ratio_of : mg "ratio_of" = some (.ref f_ratio_of)
  f_Ratio_eq : Addr
  fd_Ratio_eq : FuncData
  F_Ratio_eq : Fun K "__eq__" "Ratio.__eq__" s_Ratio_eq f_Ratio_eq fd_Ratio_eq
  b_Ratio_eq : Binds K fd_Ratio_eq ["self", "other"] []
  me_Ratio_eq : Meth K c_Ratio "__eq__" f_Ratio_eq
  f_Ratio_str : Addr
  fd_Ratio_str : FuncData
  F_Ratio_str : Fun K "__str__" "Ratio.__str__" s_Ratio_str f_Ratio_str fd_Ratio_str
  b_Ratio_str : Binds K fd_Ratio_str ["self"] []
  me_Ratio_str : Meth K c_Ratio "__str__" f_Ratio_str
  f_Ratio_half : Addr
  fd_Ratio_half : FuncData
  F_Ratio_half : Fun K "half" "Ratio.half" s_Ratio_half f_Ratio_half fd_Ratio_half
  b_Ratio_half : Binds K fd_Ratio_half [] []
  sm_Ratio_half : SMet K c_Ratio "half" f_Ratio_half
  f_l_start : Addr
  fd_l_start : FuncData
  F_l_start : Fun K "_law_start" "_law_start" s_l_start f_l_start fd_l_start
  b_l_start : Binds K fd_l_start ["_law_script"] []
  g_l_start : mg "_law_start" = some (.ref f_l_start)
  f_l_draw : Addr
  fd_l_draw : FuncData
  F_l_draw : Fun K "_law_draw" "_law_draw" s_l_draw f_l_draw fd_l_draw
  b_l_draw : Binds K fd_l_draw ["_law_script", "_law_state", "_law_limit"] []
  g_l_draw : mg "_law_draw" = some (.ref f_l_draw)
  f_l_made : Addr
  fd_l_made : FuncData
  F_l_made : Fun K "_law_made" "_law_made" s_l_made f_l_made fd_l_made
  b_l_made : Binds K fd_l_made ["_law_over", "_law_under"] []
  g_l_made : mg "_law_made" = some (.ref f_l_made)
  f_l_common : Addr
  fd_l_common : FuncData
  F_l_common : Fun K "_law_common" "_law_common" s_l_common f_l_common fd_l_common
  b_l_common : Binds K fd_l_common ["_law_first", "_law_second"] []
  g_l_common : mg "_law_common" = some (.ref f_l_common)
  f_law : Addr
  fd_law : FuncData
  F_law : Fun K "law" "law" s_law f_law fd_law
  b_law : Binds K fd_law ["_law_script"] []
  g_law : mg "law" = some (.ref f_law)
  ox_BadNumber : OexC K c_BadNumber
  xn_BadNumber : PySem.W.findIn K (.ref c_BadNumber) "__init__" = some (some (.ref f_BadNumber_init))
  xt_BadNumber : PySem.W.typeIn K (.ref f_BadNumber_init) = some (.type "function")
  xf_BadNumber : XfC K c_BadNumber
  xi_BadNumber : XiC K c_BadNumber
  n_BadNumber_what : PySem.W.findIn K (.ref c_BadNumber) "what" = some none
  n_BadNumber_value : PySem.W.findIn K (.ref c_BadNumber) "value" = some none
  cl_Ratio : Cls K c_Ratio
  M_Ratio : Mk K c_Ratio f_Ratio_init
  oc_Ratio : OpC K c_Ratio
  ic_Ratio : InsC K c_Ratio
  n_Ratio_over : NoAttr K c_Ratio "over"
  n_Ratio_under : NoAttr K c_Ratio "under"
  ki_Ratio_Ratio : PySem.W.kitOne K (.ref c_Ratio) (.ref c_Ratio) = some true
  ki_int_Ratio : PySem.W.kitOne K (.type "int") (.ref c_Ratio) = some false
  ki_tuple_Ratio : PySem.W.kitOne K (.type "tuple") (.ref c_Ratio) = some false
  ex_BadNumber_BadNumber : PySem.W.exmOne K (.ref c_BadNumber) (.ref c_BadNumber) = some true
  tuNo_Ratio : PySem.W.subIn K (.type "tuple") (.ref c_Ratio) = some false
  gi_gcd : mg "gcd" = some (.builtin "math.gcd")
  m_abs : mg "abs" = none
  m_bool : mg "bool" = none
  m_int : mg "int" = none
  m_isinstance : mg "isinstance" = none
  m_len : mg "len" = none
  m_range : mg "range" = none
  m_str : mg "str" = none

section
variable {P : Program} {w : World} {K : PySem.W.Frag} {mg : Str → Option Value} {base : Heap}
theorem ok_l_start (T : Ctx K mg) : FnOk P w K mg base CX0 1 T.f_l_start T.fd_l_start ["_law_script"] (spStart K) := by
  refine T.F_l_start.ok sc_l_start (fun vs H Q E h => ?_) (fun cdv A outer s H vs Q E hr h => ?_)
  · obtain ⟨l, ns, rfl, _⟩ := h
    rfl
  · obtain ⟨l, ns, rfl, hS, q⟩ := h
    refine ⟨_, (pss_cons (ps_set (i := 1) sc_l_start.nd rfl (Or.inl rfl) pe_int)
      (Evl.pss_cut (ps_if (pt_cmpR op_gt (pe_callB call_len_seq (by rfl) T.m_len (by decide +kernel) (pa_cons (pv 0) pa_nil)) pe_int (nomark _))
        (pss_one (ps_set (i := 1) sc_l_start.nd rfl (Or.inl rfl) (pe_ix ix_list (pv 0) pe_int (fun _ _ => rfl))))
        pss_nil)
      (pss_one (ps_ret (pe_lst (pa_cons (pe_callB call_abs (by rfl) T.m_abs (by decide +kernel) (pa_cons (pe_callTy call_int1 (by rfl) T.m_int (by decide +kernel) (pa_cons (pv 1) pa_nil)) pa_nil)) (pa_cons (pe_callTy call_int1 (by rfl) T.m_int (by decide +kernel) (pa_cons (pe_cmpR op_ge (pe_callB call_abs (by rfl) T.m_abs (by decide +kernel) (pa_cons (pe_callTy call_int1 (by rfl) T.m_int (by decide +kernel) (pa_cons (pv 1) pa_nil)) pa_nil)) (pe_op op_pow pe_int pe_int) (nomark _)) pa_nil)) (pa_cons pe_int (pa_cons pe_int pa_nil))))))))), ?_⟩
    refine ⟨fun σ' H' => H' = H ∧ ∃ z : Int, σ' = [some (.ref l), some (.int z)], ?_, ?_⟩
    · refine ⟨_, rfl, l, _, rfl, .inl hS, _, _, rfl, rfl, _, rfl, ?_⟩
      refine ite2 (fun hc => ?_) fun hc => ⟨rfl, 0, rfl⟩
      have hn : 0 < ns.length := by
        have := of_decide_eq_true hc
        rw [List.length_map] at this
        omega
      refine ⟨_, rfl, l, _, _, .int ns[0], rfl, rfl, hS, at_of (j := 0) rfl (by rw [List.getElem?_map, List.getElem?_eq_getElem hn]; rfl), ?_⟩
      exact ⟨rfl, _, rfl⟩
    · rintro σ' H' ⟨rfl, z, rfl⟩
      refine ⟨_, rfl, .inl ⟨_, rfl, _, rfl, ?_⟩⟩
      refine ⟨_, rfl, .inl ⟨_, rfl, _, rfl, _, _, rfl, rfl, ⟨by decide, by decide, by decide⟩, _, _, rfl, rfl, .inr ⟨_, rfl, ?_⟩⟩⟩
      refine ⟨by show 4 ≤ sizeLine; decide, fun t ht => ?_⟩
      exact q t _ ht ⟨⟨ns, hS⟩, ht, same_upd ht, ⟨_, _, _, _, upd_same⟩⟩ (But.refl.upd)
theorem ok_l_draw (T : Ctx K mg) : FnOk P w K mg base CX0 1 T.f_l_draw T.fd_l_draw ["_law_script", "_law_state", "_law_limit"] (spDraw K) := by
  refine T.F_l_draw.ok sc_l_draw (fun vs H Q E h => ?_) (fun cdv A outer s H vs Q E hr h => ?_)
  · obtain ⟨l, t, m, H0, rfl, _⟩ := h
    rfl
  · obtain ⟨l, t, m, H0, rfl, D, hm, hm2, q⟩ := h
    obtain ⟨a, b, c, d, ht⟩ := D.st
    have fin : ∀ (z : Int) H', But t H H' → Drw K H0 l t H' → Q (.int (z.fmod m)) H' := fun z H' e1 D' =>
      q _ _ (Int.fmod_nonneg_of_pos _ hm) (Int.fmod_lt_of_pos _ hm) e1 D'
    refine ⟨_, (pss_cons (ps_asg (pe_op op_add (pe_ix ix_list (pv 1) pe_int (fun _ _ => rfl)) pe_int) (pg_sub (pv 1) pe_int set_list))
      (Evl.pss_cut (ps_if (PW.pt (pw_and (pt_cmpR op_eq (pe_ix ix_list (pv 1) pe_int (fun _ _ => rfl)) pe_int (nomark _)) (pw_and1 (pt_cmpR op_gt (pe_ix ix_list (pv 1) pe_int (fun _ _ => rfl)) pe_int (nomark _)))))
        (pss_cons (ps_set (i := 3) sc_l_draw.nd rfl (Or.inl rfl) (pe_op op_modN (pe_callTy call_int1 (by rfl) T.m_int (by decide +kernel) (pa_cons (pe_ix ix_list (pv 1) pe_int (fun _ _ => rfl)) pa_nil)) (pv 2)))
        (pss_cons (ps_asg (pe_op op_fdivN (pe_ix ix_list (pv 1) pe_int (fun _ _ => rfl)) (pv 2)) (pg_sub (pv 1) pe_int set_list))
        (pss_one (ps_ret (pv 3)))))
        pss_nil)
      (pss_cons (ps_asg pe_int (pg_sub (pv 1) pe_int set_list))
      (pss_cons (ps_set (i := 4) sc_l_draw.nd rfl (Or.inl rfl) pe_int)
      (Evl.pss_cut (ps_if (pt_cmpR op_gt (pe_callB call_len_seq (by rfl) T.m_len (by decide +kernel) (pa_cons (pv 0) pa_nil)) pe_int (nomark _))
        (pss_one (ps_set (i := 4) sc_l_draw.nd rfl (Or.inl rfl) (pe_ix ix_list (pv 0) (pe_op op_modN (pe_callTy call_int1 (by rfl) T.m_int (by decide +kernel) (pa_cons (pe_ix ix_list (pv 1) pe_int (fun _ _ => rfl)) pa_nil)) (pe_callB call_len_seq (by rfl) T.m_len (by decide +kernel) (pa_cons (pv 0) pa_nil))) (fun _ _ => rfl))))
        pss_nil)
      (pss_cons (ps_asg (pe_op op_add (pe_ix ix_list (pv 1) pe_int (fun _ _ => rfl)) pe_int) (pg_sub (pv 1) pe_int set_list))
      (pss_cons (ps_set (i := 5) sc_l_draw.nd rfl (Or.inl rfl) (pe_op op_mul (pe_op op_mod (pe_callTy call_int1 (by rfl) T.m_int (by decide +kernel) (pa_cons (pe_ix ix_list (pv 1) pe_int (fun _ _ => rfl)) pa_nil)) pe_int) pe_int))
      (pss_cons (ps_set (i := 5) sc_l_draw.nd rfl (Or.inl rfl) (pe_op op_add (pe_op op_add (pe_op op_add (pv 5) (pe_op op_mod (pe_callTy call_int1 (by rfl) T.m_int (by decide +kernel) (pa_cons (pv 4) pa_nil)) pe_int)) (pe_op op_mul pe_int (pe_ix ix_list (pv 1) pe_int (fun _ _ => rfl)))) pe_int))
      (pss_cons (ps_asg (pe_op op_mod (pe_callTy call_int1 (by rfl) T.m_int (by decide +kernel) (pa_cons (pv 5) pa_nil)) pe_int) (pg_sub (pv 1) pe_int set_list))
      (pss_cons (ps_set (i := 5) sc_l_draw.nd rfl (Or.inl rfl) (pe_op op_mod (pe_callTy call_int1 (by rfl) T.m_int (by decide +kernel) (pa_cons (pe_op op_add (pe_op op_mul (pe_ix ix_list (pv 1) pe_int (fun _ _ => rfl)) pe_int) (pe_ix ix_list (pv 1) pe_int (fun _ _ => rfl))) pa_nil)) pe_int))
      (pss_one (ps_ret (pe_op op_modN (pe_callTy call_int1 (by rfl) T.m_int (by decide +kernel) (pa_cons (pe_op op_fdiv (pv 5) pe_int) pa_nil)) (pv 2)))))))))))))), ?_⟩
    -- state[3] = state[3] + 1
    refine ⟨_, rfl, t, _, _, _, rfl, rfl, SqL.of ht, at3, _, _, rfl, rfl, _, rfl, t, _, _, 3, rfl, rfl, ht, rfl, ?_⟩
    -- the first way
    refine ⟨fun σ' H' => σ' = [some (.ref l), some (.ref t), some (.int m), none, none, none] ∧ H' = upd H t (.lst [.int a, .int b, .int c, .int (d + 1)]), ?_, ?_⟩
    · refine ⟨_, rfl, t, _, _, _, rfl, rfl, SqL.of upd_same, at1, rfl, _, rfl, ?_⟩
      refine ite2 (fun hc => ?_) fun hc => iteF ⟨rfl, rfl⟩
      refine ⟨_, rfl, t, _, _, _, rfl, rfl, SqL.of upd_same, at0, _, _, rfl, rfl, _, rfl, ?_⟩
      refine ite2 (fun hc => ?_) fun hc => ⟨rfl, rfl⟩
      refine ⟨_, rfl, t, _, _, _, rfl, rfl, SqL.of upd_same, at0, .inl ⟨_, rfl, _, rfl, _, _, rfl, rfl, by omega, ?_⟩⟩
      refine ⟨_, rfl, t, _, _, _, rfl, rfl, SqL.of upd_same, at0, _, rfl, _, _, rfl, rfl, ⟨by omega, by omega⟩, _, rfl, t, _, _, 0, rfl, rfl, upd_same, rfl, ?_⟩
      exact ⟨_, rfl, fin _ _ (But.refl.upd.upd) (D.upd.upd)⟩
    · rintro σ' H' ⟨rfl, rfl⟩
      -- state[1] = 0; cell = 0
      refine ⟨_, rfl, t, _, _, 1, rfl, rfl, upd_same, rfl, ?_⟩
      have e1 : upd (upd H t (.lst [.int a, .int b, .int c, .int (d + 1)])) t (.lst ([V.int a, .int b, .int c, .int (d + 1)].set 1 (.int 0))) = upd H t (.lst [.int a, .int 0, .int c, .int (d + 1)]) := upd_upd
      rw [e1]
      have D1 : Drw K H0 l t (upd H t (.lst [.int a, .int 0, .int c, .int (d + 1)])) := D.upd
      obtain ⟨ns, hS⟩ := D1.sc
      refine ⟨fun σ' H' => H' = upd H t (.lst [.int a, .int 0, .int c, .int (d + 1)]) ∧ ∃ z : Int, σ' = [some (.ref l), some (.ref t), some (.int m), none, some (.int z), none], ?_, ?_⟩
      · refine ⟨_, rfl, l, _, rfl, .inl hS, _, _, rfl, rfl, _, rfl, ?_⟩
        refine ite2 (fun hc => ?_) fun hc => ⟨rfl, 0, rfl⟩
        have hn : 0 < ns.length := by
          have := of_decide_eq_true hc
          rw [List.length_map] at this
          omega
        have hn' : (0 : Int) < (((ns.map V.int).length : Nat) : Int) := by
          rw [List.length_map]
          omega
        have h0 := Int.fmod_nonneg_of_pos c hn'
        have h1 := Int.fmod_lt_of_pos c hn'
        rw [List.length_map] at h1
        have hj : (c.fmod ((ns.map V.int).length : Nat)).toNat < ns.length := by
          rw [List.length_map] at h0 ⊢
          omega
        refine ⟨_, rfl, _, rfl, t, _, _, _, rfl, rfl, SqL.of upd_same, at2, .inl ⟨_, rfl, _, rfl, l, _, rfl, .inl hS, _, _, rfl, rfl, by omega, ?_⟩⟩
        refine ⟨l, _, _, .int ns[(c.fmod ((ns.map V.int).length : Nat)).toNat], rfl, rfl, hS, at_of (j := (c.fmod ((ns.map V.int).length : Nat)).toNat) (by omega) (by rw [List.getElem?_map, List.getElem?_eq_getElem hj]; rfl), ?_⟩
        exact ⟨rfl, _, rfl⟩
      · rintro σ' H' ⟨rfl, z, rfl⟩
        -- state[2] = state[2] + 1
        refine ⟨_, rfl, t, _, _, _, rfl, rfl, SqL.of upd_same, at2, _, _, rfl, rfl, _, rfl, t, _, _, 2, rfl, rfl, upd_same, rfl, ?_⟩
        have e2 : upd (upd H t (.lst [.int a, .int 0, .int c, .int (d + 1)])) t (.lst ([V.int a, .int 0, .int c, .int (d + 1)].set 2 (.int (c + 1)))) = upd H t (.lst [.int a, .int 0, .int (c + 1), .int (d + 1)]) := upd_upd
        rw [e2]
        have hb := Int.emod_nonneg a (b := 2147483647) (by decide)
        have hb2 := Int.emod_lt_of_pos a (b := 2147483647) (by decide)
        refine ⟨_, rfl, t, _, _, _, rfl, rfl, SqL.of upd_same, at0, .inl ⟨_, rfl, _, _, rfl, rfl, (show (0 : Int) < 2147483647 by decide), _, _, rfl, rfl, .inl ⟨by omega, by omega⟩, ?_⟩⟩
        refine ⟨_, rfl, _, rfl, .inl ⟨_, rfl, _, _, rfl, rfl, (show (0 : Int) < 2147483629 by decide), _, _, rfl, rfl, _, rfl, t, _, _, _, rfl, rfl, SqL.of upd_same, at3, _, _, rfl, rfl, .inl ⟨by decide, by decide⟩, _, _, rfl, rfl, _, _, rfl, rfl, ?_⟩⟩
        refine ⟨_, rfl, .inl ⟨_, rfl, _, _, rfl, rfl, (show (0 : Int) < 2147483647 by decide), _, rfl, t, _, _, 0, rfl, rfl, upd_same, rfl, ?_⟩⟩
        generalize hw : (a % 2147483647 * 48271 + z % 2147483629 + 7 * (d + 1) + 11) = w'
        have e3 : upd (upd H t (.lst [.int a, .int 0, .int (c + 1), .int (d + 1)])) t (.lst ([V.int a, .int 0, .int (c + 1), .int (d + 1)].set 0 (.int (w' % 2147483647)))) = upd H t (.lst [.int (w' % 2147483647), .int 0, .int (c + 1), .int (d + 1)]) := upd_upd
        rw [e3]
        have hc := Int.emod_nonneg w' (b := 2147483647) (by decide)
        have hc2 := Int.emod_lt_of_pos w' (b := 2147483647) (by decide)
        refine ⟨_, rfl, t, _, _, _, rfl, rfl, SqL.of upd_same, at0, _, _, rfl, rfl, .inl ⟨by omega, by omega⟩, _, rfl, t, _, _, _, rfl, rfl, SqL.of upd_same, at3, _, _, rfl, rfl, .inl ⟨_, rfl, _, _, rfl, rfl, (show (0 : Int) < 2147483629 by decide), ?_⟩⟩
        refine ⟨_, rfl, _, _, rfl, rfl, ⟨by decide, by decide⟩, .inl ⟨_, rfl, _, rfl, _, _, rfl, rfl, by omega, ?_⟩⟩
        exact fin _ _ But.refl.upd D.upd
end
section
variable {P : Program} {w : World} {K : PySem.W.Frag} {mg : Str → Option Value} {base : Heap}
theorem ok_BadNumber_init (T : Ctx K mg) : FnOk P w K mg base CX0 1 T.f_BadNumber_init T.fd_BadNumber_init ["self", "what", "value"] (spX2 T.c_BadNumber "what" "value") := by
  refine T.F_BadNumber_init.ok sc_BadNumber_init (fun vs H Q E h => ?_) (fun cdv A outer s H vs Q E hr h => ?_)
  · obtain ⟨a, x, y, rfl, _⟩ := h
    rfl
  · obtain ⟨a, x, y, rfl, ha, q⟩ := h
    refine ⟨_, (pss_cons (ps_ost (pv 0) (pv 1))
      (pss_one (ps_ost (pv 0) (pv 2)))), ?_⟩
    refine ⟨_, rfl, _, rfl, a, T.c_BadNumber, rfl, T.ox_BadNumber, T.n_BadNumber_what, .inl ⟨ha, fun d hd hda => ?_⟩⟩
    refine ⟨_, rfl, _, rfl, a, T.c_BadNumber, rfl, T.ox_BadNumber, T.n_BadNumber_value, .inr ⟨d, [("what", x)], upd_same, ?_, by show 1 ≤ 900; decide, ?_⟩⟩
    · rw [upd_ne hda, upd_same]
    · exact q d hd hda
theorem ok_is_integer (T : Ctx K mg) : FnOk P w K mg base CX0 1 T.f_is_integer T.fd_is_integer ["value"] (spIsInt K) := by
  refine T.F_is_integer.ok sc_is_integer (fun vs H Q E h => ?_) (fun cdv A outer s H vs Q E hr h => ?_)
  · obtain ⟨x, rfl, _⟩ := h
    rfl
  · obtain ⟨x, rfl, ⟨t, b1, b2, ty, k1, k2, e⟩, q⟩ := h
    refine ⟨_, (pss_one (ps_ret (pe_and (pe_callB call_isi (by rfl) T.m_isinstance (by decide +kernel) (pa_cons (pv 0) (pa_cons (pe_bltn (v := .ty "int") (by rfl) T.m_int (by decide +kernel) rfl) pa_nil))) (pe_one (pe_not (pe_callB call_isi (by rfl) T.m_isinstance (by decide +kernel) (pa_cons (pv 0) (pa_cons (pe_bltn (v := .ty "bool") (by rfl) T.m_bool (by decide +kernel) rfl) pa_nil)))))))), ?_⟩
    refine ⟨_, rfl, _, _, _, _, _, rfl, .ty _, ty, k1, b1, rfl, ?_⟩
    rw [← e] at q
    cases b1 with
    | false => exact iteF q
    | true => exact iteT ⟨_, rfl, _, _, _, _, _, rfl, .ty _, ty, k2 rfl, b2, rfl, q⟩
theorem ok_check_number (T : Ctx K mg) : FnOk P w K mg base (L2.CX P w) 3 T.f_check_number T.fd_check_number ["what", "value", "low", "high"] (spCheck K T.c_BadNumber) := by
  refine T.F_check_number.okX sc_check_number (fun vs H Q E h => ?_) (fun cdv A outer s H vs Q E hr h => ?_)
  · obtain ⟨w, x, lo, hi, rfl, _⟩ := h
    rfl
  · obtain ⟨w, x, lo, hi, rfl, kn, q1, q2⟩ := h
    refine ⟨_, (pss_cons (ps_if (pt_not (pt_val (pe_call (ok_is_integer T) (hr.mono (by decide)) (by rfl) T.g_is_integer T.F_is_integer.kp T.b_is_integer .nil pass0 (pa_cons (pv 1) pa_nil))))
        (pss_one (ps_raise rfl (takes_of rfl rfl rfl rfl) (pmk_oex T.ox_BadNumber T.xn_BadNumber T.xt_BadNumber (ok_BadNumber_init T) (hr.mono (by decide)) T.b_BadNumber_init .nil pass0 (by rfl) T.gc_BadNumber (pa_cons (pv 0) (pa_cons (pv 1) pa_nil)))))
        pss_nil)
      (Evl.pss_cut (ps_if (PW.pt (pw_and (pt_cmpR op_notN (pv 2) pe_non (nomark _)) (pw_and1 (pt_cmpR op_lt (pv 1) (pv 2) (nomark _)))))
        (pss_one (ps_raise rfl (takes_of rfl rfl rfl rfl) (pmk_oex T.ox_BadNumber T.xn_BadNumber T.xt_BadNumber (ok_BadNumber_init T) (hr.mono (by decide)) T.b_BadNumber_init .nil pass0 (by rfl) T.gc_BadNumber (pa_cons (pv 0) (pa_cons (pv 1) pa_nil)))))
        pss_nil)
      (Evl.pss_cut (ps_if (PW.pt (pw_and (pt_cmpR op_notN (pv 3) pe_non (nomark _)) (pw_and1 (pt_cmpR op_gt (pv 1) (pv 3) (nomark _)))))
        (pss_one (ps_raise rfl (takes_of rfl rfl rfl rfl) (pmk_oex T.ox_BadNumber T.xn_BadNumber T.xt_BadNumber (ok_BadNumber_init T) (hr.mono (by decide)) T.b_BadNumber_init .nil pass0 (by rfl) T.gc_BadNumber (pa_cons (pv 0) (pa_cons (pv 1) pa_nil)))))
        pss_nil)
      (pss_one (ps_ret (pv 1)))))), ?_⟩
    refine ⟨_, rfl, x, rfl, kn, _, rfl, ?_⟩
    cases x with
    | int i =>
      refine iteF ?_
      refine ⟨fun σ' H' => σ' = [some (.str w), some (.int i), some (oV lo), some (oV hi)] ∧ H' = H ∧ lo.all (fun l => decide (l ≤ i)) = true, ?_, ?_⟩
      · cases lo with
        | none => exact ⟨_, rfl, rfl, _, rfl, iteF ⟨rfl, rfl, rfl⟩⟩
        | some l =>
          refine ⟨_, rfl, rfl, _, rfl, iteT ⟨_, rfl, _, rfl, _, _, rfl, rfl, _, rfl, ?_⟩⟩
          refine ite2 (fun hc => ?_) fun hc => ⟨rfl, rfl, ?_⟩
          · have hlt := of_decide_eq_true hc
            refine ⟨_, rfl, _, rfl, mk2 (q2 ?_)⟩
            have z : decide (l ≤ i) = false := decide_eq_false (by omega)
            simp [good, z]
          · have hlt := of_decide_eq_false (Bool.eq_false_iff.mpr hc)
            exact decide_eq_true (show l ≤ i by omega)
      · rintro σ' H' ⟨rfl, rfl, hlo⟩
        refine ⟨fun σ' H'' => σ' = [some (.str w), some (.int i), some (oV lo), some (oV hi)] ∧ H'' = H' ∧ hi.all (fun h => decide (i ≤ h)) = true, ?_, ?_⟩
        · cases hi with
          | none => exact ⟨_, rfl, rfl, _, rfl, iteF ⟨rfl, rfl, rfl⟩⟩
          | some l =>
            refine ⟨_, rfl, rfl, _, rfl, iteT ⟨_, rfl, _, rfl, _, _, rfl, rfl, _, rfl, ?_⟩⟩
            refine ite2 (fun hc => ?_) fun hc => ⟨rfl, rfl, ?_⟩
            · have hlt := of_decide_eq_true hc
              refine ⟨_, rfl, _, rfl, mk2 (q2 ?_)⟩
              have z : decide (i ≤ l) = false := decide_eq_false (by omega)
              simp [good, z]
            · have hlt := of_decide_eq_false (Bool.eq_false_iff.mpr hc)
              exact decide_eq_true (show i ≤ l by omega)
        · rintro σ' H'' ⟨rfl, rfl, hhi⟩
          refine ⟨_, rfl, q1 ?_⟩
          show (lo.all (fun l => decide (l ≤ i)) && hi.all (fun h => decide (i ≤ h))) = true
          rw [hlo, hhi] <;> rfl
    | _ => exact iteT ⟨_, rfl, _, rfl, mk2 (q2 rfl)⟩
end
section
variable {P : Program} {w : World} {K : PySem.W.Frag} {mg : Str → Option Value} {base : Heap}
theorem ok_Ratio_init (T : Ctx K mg) : FnOk P w K mg base (L2.CX P w) 4 T.f_Ratio_init T.fd_Ratio_init ["self", "over", "under"] (spInit K T.c_Ratio T.c_BadNumber) := by
  refine T.F_Ratio_init.ok (CX := L2.CX P w) sc_Ratio_init (fun vs H Q E h => ?_) (fun cdv A outer s H vs Q E hr h => ?_)
  · obtain ⟨a, dx, x, y, rfl, _⟩ := h
    rfl
  · obtain ⟨a, dx, x, y, rfl, ha, kx, ky, hok, hbad⟩ := h
    refine ⟨_, (pss_cons (ps_expr (pe_call (ok_check_number T) (hr.mono (by decide)) (by rfl) T.g_check_number T.F_check_number.kp T.b_check_number .nil (passes_call (takes_of rfl rfl rfl rfl) (fun _ _ _ _ h => h)) (pa_cons pe_str (pa_cons (pv 1) (pa_cons pe_non (pa_cons pe_non pa_nil))))))
      (pss_cons (ps_expr (pe_call (ok_check_number T) (hr.mono (by decide)) (by rfl) T.g_check_number T.F_check_number.kp T.b_check_number .nil (passes_call (takes_of rfl rfl rfl rfl) (fun _ _ _ _ h => h)) (pa_cons pe_str (pa_cons (pv 2) (pa_cons pe_non (pa_cons pe_non pa_nil))))))
      (pss_cons (ps_if (pt_cmpR op_eq (pv 2) pe_int (nomark _))
        (pss_one (ps_raise rfl (takes_of rfl rfl rfl rfl) (pmk_oex T.ox_BadNumber T.xn_BadNumber T.xt_BadNumber (ok_BadNumber_init T) (hr.mono (by decide)) T.b_BadNumber_init .nil pass0 (by rfl) T.gc_BadNumber (pa_cons pe_str (pa_cons (pv 2) pa_nil)))))
        pss_nil)
      (pss_cons (ps_set (i := 3) sc_Ratio_init.nd rfl (Or.inl rfl) (pe_callBfun cr_gcd (by rfl) T.gi_gcd (pa_cons (pv 1) (pa_cons (pv 2) pa_nil))))
      (Evl.pss_cut (ps_if (pt_cmpR op_lt (pv 2) pe_int (nomark _))
        (pss_one (ps_set (i := 3) sc_Ratio_init.nd rfl (Or.inl rfl) (pe_un un_neg (pv 3))))
        pss_nil)
      (pss_cons (ps_fld (pv 0) (pe_op op_fdivZ (pv 1) (pv 3)) rfl)
      (pss_one (ps_fld (pv 0) (pe_op op_fdivZ (pv 2) (pv 3)) rfl)))))))), ?_⟩
    -- check_number("over", over)
    refine ⟨_, rfl, "over", x, none, none, rfl, kx, fun hg => ?_, fun hg => ?_⟩
    · obtain ⟨O, rfl⟩ : ∃ O, x = .int O := by
        cases x with
        | int i => exact ⟨i, rfl⟩
        | _ => cases hg
      refine ⟨_, rfl, "under", y, none, none, rfl, ky, fun hg2 => ?_, fun hg2 => ?_⟩
      · obtain ⟨U, rfl⟩ : ∃ U, y = .int U := by
          cases y with
          | int i => exact ⟨i, rfl⟩
          | _ => cases hg2
        refine ⟨_, rfl, rfl, _, rfl, ite2 (fun hc => ?_) fun hc => ?_⟩
        · have e0 : V.int U = .int 0 := of_decide_eq_true hc
          cases e0
          exact ⟨_, rfl, mk2 (hbad "under" (.int 0) (.inr (.inr ⟨rfl, rfl, rfl, rfl⟩)))⟩
        · have hU : U ≠ 0 := fun z => hc (decide_eq_true (by rw [z]))
          obtain ⟨hz, k⟩ := hok O U rfl rfl hU
          obtain ⟨h1, h2, h3⟩ := nf_make (O := O) hU rfl
          refine ⟨_, rfl, _, rfl, O, U, rfl, ?_⟩
          refine ⟨fun σ' H' => H' = H ∧ σ' = [some (.ref a), some (.int O), some (.int U), some (.int (if U < 0 then -((Nat.gcd O.natAbs U.natAbs : Nat) : Int) else ((Nat.gcd O.natAbs U.natAbs : Nat) : Int)))], ?_, ?_⟩
          · refine ⟨_, rfl, _, _, rfl, rfl, _, rfl, ite2 (fun hn => ?_) fun hn => ?_⟩
            · have hn' := of_decide_eq_true hn
              rw [if_pos hn']
              exact ⟨_, rfl, _, rfl, rfl, rfl⟩
            · have hn' := of_decide_eq_false (Bool.eq_false_iff.mpr hn)
              rw [if_neg hn']
              exact ⟨rfl, rfl⟩
          · rintro σ' H' ⟨rfl, rfl⟩
            have hl : (if U < 0 then -((Nat.gcd O.natAbs U.natAbs : Nat) : Int) else ((Nat.gcd O.natAbs U.natAbs : Nat) : Int)).natAbs.log2 < 9000 := log2_le h2 h1 hz
            refine ⟨_, rfl, _, rfl, _, _, rfl, rfl, ⟨h1, hl⟩, _, rfl, a, T.c_Ratio, dx, [], rfl, ha, T.cl_Ratio, T.n_Ratio_over, (by show 0 < 1000; decide), ?_⟩
            refine ⟨_, rfl, _, rfl, _, _, rfl, rfl, ⟨h1, hl⟩, _, rfl, a, T.c_Ratio, dx, _, rfl, upd_same, T.cl_Ratio, T.n_Ratio_under, (by show 1 < 1000; decide), ?_⟩
            exact k _ _ _ h3 upd_same fun b o e hb => by rw [upd_ne hb, upd_ne hb]; exact e
      · exact hbad "under" y (.inr (.inl ⟨rfl, by
          cases y with
          | int i => cases hg2
          | _ => rfl, rfl, rfl⟩))
    · exact hbad "over" x (.inl ⟨by
        cases x with
        | int i => cases hg
        | _ => rfl, rfl, rfl⟩)
theorem ok_ratio_of (T : Ctx K mg) : FnOk P w K mg base CX0 6 T.f_ratio_of T.fd_ratio_of ["value"] (spRatioOf T.c_Ratio) := by
  refine T.F_ratio_of.ok sc_ratio_of (fun vs H Q E h => ?_) (fun cdv A outer s H vs Q E hr h => ?_)
  · obtain ⟨x, p, q, rfl, _⟩ := h
    rfl
  · obtain ⟨x, p, q, rfl, hx, k⟩ := h
    refine ⟨_, (pss_cons (ps_if (pt_val (pe_callB call_isi (by rfl) T.m_isinstance (by decide +kernel) (pa_cons (pv 0) (pa_cons (pe_glob (v := .ref T.c_Ratio) (by rfl) T.gc_Ratio rfl) pa_nil))))
        (pss_one (ps_ret (pv 0)))
        pss_nil)
      (pss_cons (ps_if (pt_val (pe_call (ok_is_integer T) (hr.mono (by decide)) (by rfl) T.g_is_integer T.F_is_integer.kp T.b_is_integer .nil pass0 (pa_cons (pv 0) pa_nil)))
        (pss_one (ps_ret (pe_make T.M_Ratio (ok_Ratio_init T) (hr.mono (by decide)) (by rfl) T.gc_Ratio T.b_Ratio_init1 T.v_Ratio_init1 passL (pa_cons (pv 0) pa_nil))))
        pss_nil)
      (pss_one (ps_ret pe_non)))), ?_⟩
    cases hx with
    | rat R => exact ⟨_, rfl, _, _, _, _, true, rfl, .own _, R.ty T.ic_Ratio, T.ki_Ratio_Ratio, true, rfl, iteT ⟨_, rfl, k _ _ (Same.refl _) R⟩⟩
    | int =>
      refine ⟨_, rfl, _, _, _, _, false, rfl, .own _, .base (.int _), T.ki_int_Ratio, false, rfl, iteF ?_⟩
      exact ⟨_, rfl, _, rfl, kn_int _, true, rfl, iteT ⟨_, rfl, mk_ratio1 fun r H' sm R => k _ H' sm R⟩⟩
theorem ok_Ratio_eq (T : Ctx K mg) : FnOk P w K mg base CX0 1 T.f_Ratio_eq T.fd_Ratio_eq ["self", "other"] (spEqR K T.c_Ratio) := by
  refine T.F_Ratio_eq.ok sc_Ratio_eq (fun vs H Q E h => ?_) (fun cdv A outer s H vs Q E hr h => ?_)
  · obtain ⟨x, y, p, q, rfl, _⟩ := h
    rfl
  · obtain ⟨x, y, p, q, rfl, R, h⟩ := h
    refine ⟨_, (pss_one (ps_ret (pe_and (pe_callB call_isi (by rfl) T.m_isinstance (by decide +kernel) (pa_cons (pv 1) (pa_cons (pe_glob (v := .ref T.c_Ratio) (by rfl) T.gc_Ratio rfl) pa_nil))) (pe_and (pe_cmpR op_eq (pe_fld (pv 0) rfl) (pe_fld (pv 1) rfl) (nomark _)) (pe_one (pe_cmpR op_eq (pe_fld (pv 0) rfl) (pe_fld (pv 1) rfl) (nomark _))))))), ?_⟩
    obtain ⟨⟨a, dx, rfl, ha⟩, _⟩ := id R
    rcases h with ⟨p', q', R', k⟩ | ⟨t, ty, hk, k⟩
    · obtain ⟨⟨b, dy, rfl, hb⟩, _⟩ := id R'
      refine ⟨_, rfl, _, _, _, _, true, rfl, .own _, R'.ty T.ic_Ratio, T.ki_Ratio_Ratio, true, rfl, iteT ?_⟩
      refine ⟨_, rfl, a, T.c_Ratio, dx, _, _, rfl, ha, T.cl_Ratio, T.n_Ratio_over, rfR_over _ _, _, rfl, b, T.c_Ratio, dy, _, _, rfl, hb, T.cl_Ratio, T.n_Ratio_over, rfR_over _ _, rfl, decide (p = p'), congrArg V.bl ?_, ?_⟩
      · by_cases e : p = p'
        · subst e
          simp
        · rw [decide_eq_false e]
          exact decide_eq_false fun z => e (by injection z)
      · by_cases e : p = p'
        · rw [decide_eq_true e]
          rw [decide_eq_true e] at k
          refine iteT ⟨_, rfl, a, T.c_Ratio, dx, _, _, rfl, ha, T.cl_Ratio, T.n_Ratio_under, rfR_under _ _, _, rfl, b, T.c_Ratio, dy, _, _, rfl, hb, T.cl_Ratio, T.n_Ratio_under, rfR_under _ _, rfl, ?_⟩
          have e2 : decide (V.int q = V.int q') = decide (q = q') := by
            by_cases e : q = q'
            · subst e
              simp
            · rw [decide_eq_false e]
              exact decide_eq_false fun z => e (by injection z)
          rw [e2]
          exact k
        · rw [decide_eq_false e]
          rw [decide_eq_false e] at k
          exact iteF k
    · exact ⟨_, rfl, _, _, _, _, false, rfl, .own _, ty, hk, false, rfl, iteF k⟩
end
/-! ### str of a ratio; the half -/
def rtext (p q : Int) : Str := if q = 1 then (toString p : String) else ((((toString p : String) : Str) ++ ("/" : Str)) ++ ((toString q : String) : Str))
def spStr (C : Addr) : Sp := fun vs H Q _ => ∃ (x : V) (p q : Int), vs = [x] ∧ Rat C H x p q ∧ p.natAbs.log2 < 1920 ∧ q.natAbs.log2 < 1920 ∧ Q (.str (rtext p q)) H
def spHalf (C : Addr) : Sp := fun vs H Q _ => vs = [] ∧ ∀ r H', Same H H' → Rat C H' r 1 2 → Q r H'
theorem empty_app (y : Str) : Str.empty ++ y = y := TL.ext_tl (by rw [TL.tl_append]; rfl)
theorem len_app (x y : Str) : (x ++ y).length = x.length + y.length := by rw [TL.len_tl, TL.len_tl, TL.len_tl, TL.tl_append, List.length_append]
section
variable {P : Program} {w : World} {K : PySem.W.Frag} {mg : Str → Option Value} {base : Heap}
theorem ok_Ratio_str (T : Ctx K mg) : FnOk P w K mg base CX0 1 T.f_Ratio_str T.fd_Ratio_str ["self"] (spStr T.c_Ratio) := by
  refine T.F_Ratio_str.ok sc_Ratio_str (fun vs H Q E h => ?_) (fun cdv A outer s H vs Q E hr h => ?_)
  · obtain ⟨x, p, q, rfl, _⟩ := h
    rfl
  · obtain ⟨x, p, q, rfl, R, h1, h2, k⟩ := h
    refine ⟨_, (pss_cons (ps_if (pt_cmpR op_eq (pe_fld (pv 0) rfl) pe_int (nomark _))
        (pss_one (ps_ret (pe_callTy call_str_int (by rfl) T.m_str (by decide +kernel) (pa_cons (pe_fld (pv 0) rfl) pa_nil))))
        pss_nil)
      (pss_one (ps_ret (pe_joined (PJ.cons (pe_fmt (pe_fld (pv 0) rfl)) (PJ.cons pe_str (PJ.cons (pe_fmt (pe_fld (pv 0) rfl)) PJ.nil))))))), ?_⟩
    obtain ⟨⟨a, dx, rfl, ha⟩, _⟩ := id R
    refine ⟨_, rfl, a, T.c_Ratio, dx, _, _, rfl, ha, T.cl_Ratio, T.n_Ratio_under, rfR_under _ _, rfl, _, rfl, ite2 (fun h => ?_) fun h => ?_⟩
    · have e : q = 1 := by
        have e : V.int q = .int 1 := of_decide_eq_true h
        injection e
      refine ⟨_, rfl, a, T.c_Ratio, dx, _, _, rfl, ha, T.cl_Ratio, T.n_Ratio_over, rfR_over _ _, _, rfl, h1, ?_⟩
      unfold rtext at k
      rw [if_pos e] at k
      exact k
    · have e : ¬ q = 1 := fun z => h (decide_eq_true (by rw [z]))
      unfold rtext at k
      rw [if_neg e] at k
      have l1 := PyProof.Rows.int_text_len_1921 h1
      have l2 := PyProof.Rows.int_text_len_1921 h2
      have e3 : ("/" : Str).length = 1 := rfl
      refine ⟨_, rfl, a, T.c_Ratio, dx, _, _, rfl, ha, T.cl_Ratio, T.n_Ratio_over, rfR_over _ _, .inr ⟨_, rfl, h1, _, rfl, ?_, _, rfl, ?_, _, rfl, a, T.c_Ratio, dx, _, _, rfl, ha, T.cl_Ratio, T.n_Ratio_under, rfR_under _ _, .inr ⟨_, rfl, h2, _, rfl, ?_, ?_⟩⟩⟩
      · rw [empty_app]
        exact Nat.le_trans l1 (by decide)
      · rw [empty_app, len_app, e3]
        exact Nat.le_trans (Nat.add_le_add_right l1 1) (by decide)
      · rw [empty_app, len_app, len_app, e3]
        exact Nat.le_trans (Nat.add_le_add (Nat.add_le_add_right l1 1) l2) (by decide)
      · rw [empty_app]
        exact k
end
section
variable {P : Program} {w : World} {K : PySem.W.Frag} {mg : Str → Option Value} {base : Heap}
theorem ok_Ratio_half (T : Ctx K mg) : FnOk P w K mg base CX0 6 T.f_Ratio_half T.fd_Ratio_half [] (spHalf T.c_Ratio) := by
  refine T.F_Ratio_half.ok sc_Ratio_half (fun vs H Q E h => ?_) (fun cdv A outer s H vs Q E hr h => ?_)
  · obtain ⟨rfl, _⟩ := h
    rfl
  · obtain ⟨rfl, k⟩ := h
    refine ⟨_, (pss_one (ps_ret (pe_make T.M_Ratio (ok_Ratio_init T) (hr.mono (by decide)) (by rfl) T.gc_Ratio T.b_Ratio_init2 T.v_Ratio_init2 passL (pa_cons pe_int (pa_cons pe_int pa_nil))))), ?_⟩
    refine mk_ratio (by decide) (by decide) fun r p q H7 s7 R nf => ?_
    obtain ⟨rfl, rfl⟩ := nf.unique (by decide) (nf_self (p := 1) (q := 2) (by decide) (by decide))
    exact k _ _ s7 R
end

def spLaw (K : PySem.W.Frag) : Sp := fun vs H Q _ => ∃ (a : Addr) (ns : List Int), vs = [.ref a] ∧ SqL K H a (ns.map V.int) ∧ ns.length ≤ 63 ∧ ∀ H', Q (.bl true) H'
/-- a ratio that may be refused for either term -/
theorem mk_ratioG {K : PySem.W.Frag} {C CB : Addr} {H : Hp} {u v : V} {Q : Addr → Hp → Prop} {E : XK} (ku : ∀ H, Kn K H u) (kv : ∀ H, Kn K H v)
    (hok : ∀ O U, u = .int O → v = .int U → U ≠ 0 → U.natAbs.log2 < 9000 ∧ ∀ a p q H', Same H H' → Rat C H' (.ref a) p q → Nf O U p q → Q a H')
    (hbad : ∀ w z, BadR u v w z → ∀ d H', H d = none → Same H H' → H' d = some (.xd [("value", z), ("what", .str w)]) → E (.ref CB) (some d) H') :
    ∀ x dx, H x = none → H dx = none → dx ≠ x → spInit K C CB (.ref x :: ([u, v] ++ [])) (upd (upd H dx (.own x)) x (.ins C dx [])) (fun v H2 => v = .non ∧ Q x H2) E := by
  intro x dx nx nd ne
  refine ⟨x, dx, u, v, rfl, upd_same, ku _, kv _, fun O' U' e1 e2 hU => ?_, fun w z hb d H' hd sm hx => ?_⟩
  · obtain ⟨hz, k⟩ := hok O' U' e1 e2 hU
    exact ⟨hz, fun p q H' nf ha k' => ⟨rfl, k x p q H' (Same.made nx nd k') ⟨⟨x, dx, rfl, ha⟩, nf.pos, nf.cop⟩ nf⟩⟩
  · have s0 : Same H (upd (upd H dx (.own x)) x (.ins C dx [])) := fun b o e => by
      rw [upd_ne (ne_of_none e nx), upd_ne (ne_of_none e nd)]
      exact e
    exact hbad w z hb d H' (s0.free hd) (s0.trans sm) hx
def spMade (K : PySem.W.Frag) (C CB : Addr) : Sp := fun vs H Q _ => ∃ (x y : V), vs = [x, y] ∧ (∀ H, Kn K H x) ∧ (∀ H, Kn K H y) ∧
  (∀ O U, x = .int O → y = .int U → U ≠ 0 → U.natAbs.log2 < 9000 ∧ ∀ r H' p q, Same H H' → Nf O U p q → Dp K H' r (.tuple [.int p, .int q]) → Q r H') ∧
  (∀ w z, BadR x y w z → ∃ dz, (∀ H', Dp K H' z dz) ∧ ∀ r H', Same H H' → Dp K H' r (.tuple [.str "bad", .str w, dz]) → Q r H')
def spCommon : Sp := fun vs H Q _ => ∃ (a b : Int), vs = [.int a, .int b] ∧ 0 ≤ a ∧ 1 ≤ b ∧ b ≤ 60 ∧ Q (.int (Nat.gcd a.natAbs b.natAbs : Nat)) H
def twoD (a b : Int) : PyData := .tuple [.int a, .int b]
theorem shaped_two (a b : Int) : SeqAt.shaped (twoD a b) = true := by
  unfold twoD SeqAt.shaped
  simp [PyData.canLay0, PyData.canLayAll0, PyData.depth, PyData.depthAll]
theorem dp_two {K : PySem.W.Frag} {H : Hp} {l : Addr} {a b : Int} (h : H l = some (.tup [.int a, .int b])) : Dp K H (.ref l) (twoD a b) := .tup (.inl (.inl h)) (.cons (.int _) (.cons (.int _) .nil))
theorem abs_nat (i : Int) : (if i < 0 then -i else i).natAbs = i.natAbs := by split <;> omega
theorem abs_nn (i : Int) : 0 ≤ (if i < 0 then -i else i) := by split <;> omega
section
variable {P : Program} {w : World} {K : PySem.W.Frag} {mg : Str → Option Value} {base : Heap}
theorem ok_l_made (T : Ctx K mg) : FnOk P w K mg base CX0 6 T.f_l_made T.fd_l_made ["_law_over", "_law_under"] (spMade K T.c_Ratio T.c_BadNumber) := by
  refine T.F_l_made.ok sc_l_made (fun vs H Q E h => ?_) (fun cdv A outer s H vs Q E hr h => ?_)
  · obtain ⟨x, y, rfl, _⟩ := h
    rfl
  · obtain ⟨x, y, rfl, kx, ky, hok, hbad⟩ := h
    refine ⟨_, (pss_one (ps_try_as (i := 3) (Wout := fun _ _ _ _ => False) rfl rfl sc_l_made.nd rfl rfl ⟨rfl, by decide, Or.inl T.gc_BadNumber⟩ takes0
        (fun W pn xe tk po => (pss_cons (ps_set (i := 2) sc_l_made.nd rfl (Or.inl rfl) (pe_make T.M_Ratio (ok_Ratio_init T) (hr.mono (by decide)) (by rfl) T.gc_Ratio T.b_Ratio_init2 T.v_Ratio_init2 (passLenN (n := 4) tk rfl) (pa_cons (pv 0) (pa_cons (pv 1) pa_nil))))
        (pss_one (ps_ret (pe_tup (pa_cons (pe_fldK (K := K) rfl (pv 2) rfl) (pa_cons (pe_fldK (K := K) rfl (pv 2) rfl) pa_nil)))))))
        (fun a oe cls d pn hz hf => (pss_one (ps_ret (pe_tup (pa_cons pe_str (pa_cons (pe_xf T.xf_BadNumber T.n_BadNumber_what hz hf (pv 3)) (pa_cons (pe_xf T.xf_BadNumber T.n_BadNumber_value hz hf (pv 3)) pa_nil))))))))), ?_⟩
    refine ⟨_, rfl, _, rfl, ?_⟩
    refine mk_ratioG kx ky (fun O U e1 e2 hU => ?_) fun w z hb d H' nd sm hx σ hσ => ?_
    · obtain ⟨hz, k⟩ := hok O U e1 e2 hU
      refine ⟨hz, fun a p q H' sm R nf => ?_⟩
      obtain ⟨⟨b, dx, e, ha⟩, _⟩ := id R
      cases e
      refine ⟨_, rfl, a, T.c_Ratio, dx, _, _, rfl, ha, T.cl_Ratio, T.n_Ratio_over, rfR_over _ _, _, rfl, a, T.c_Ratio, dx, _, _, rfl, ha, T.cl_Ratio, T.n_Ratio_under, rfR_under _ _, (by show 2 ≤ sizeLine; decide), fun tt ht => ?_⟩
      exact k _ _ p q (same_upd2 sm (sm.free ht)) nf (dp_two upd_same)
    · obtain ⟨dz, hd, k⟩ := hbad w z hb
      refine ⟨true, T.ex_BadNumber_BadNumber, fun _ a na => ?_, fun z => nomatch z⟩
      have h2 : (σ.set 3 (some (V.ref a)))[3]? = some (some (V.ref a)) := List.getElem?_set_self (by omega)
      refine ⟨_, h2, rfl, rfl, d, _, _, rfl, hx, rfl, _, h2, rfl, rfl, d, _, _, rfl, hx, rfl, (by show 3 ≤ sizeLine; decide), fun tt ht => ?_⟩
      exact k _ _ (same_upd2 sm (sm.free ht)) (.tup (.inl (.inl upd_same)) (.cons (.str _) (.cons (.str _) (.cons (hd _) .nil))))
/-- what the trial has found -/
def Com (a b : Int) (i : Nat) (f : Int) : Prop := 1 ≤ f ∧ f ∣ a ∧ f ∣ b ∧ ∀ j : Int, 1 ≤ j → j ≤ i → j ∣ a → j ∣ b → j ≤ f
theorem ok_l_common (T : Ctx K mg) : FnOk P w K mg base CX0 1 T.f_l_common T.fd_l_common ["_law_first", "_law_second"] spCommon := by
  refine T.F_l_common.ok sc_l_common (fun vs H Q E h => ?_) (fun cdv A outer s H vs Q E hr h => ?_)
  · obtain ⟨x, y, rfl, _⟩ := h
    rfl
  · obtain ⟨a, b, rfl, ha, hb, hb2, k⟩ := h
    refine ⟨_, (pss_cons (ps_set (i := 2) sc_l_common.nd rfl (Or.inl rfl) pe_int)
      (pss_cons (ps_for PassesOwn.never rfl (pi_range2 (by rfl) T.m_range (pa_cons pe_int (pa_cons pe_int pa_nil))) (pg_name (i := 3) sc_l_common.nd rfl (Or.inl rfl))
        (pss_one (ps_if (PW.pt (pw_and (pt_cmpR op_eq (pe_op op_modN (pv 0) (pv 3)) pe_int (nomark _)) (pw_and1 (pt_cmpR op_eq (pe_op op_modN (pv 1) (pv 3)) pe_int (nomark _)))))
          (pss_one (ps_set (i := 2) sc_l_common.nd rfl (Or.inl rfl) (pv 3)))
          pss_nil)))
      (pss_one (ps_ret (pv 2))))), ?_⟩
    refine ⟨1, 61, rfl, by decide, for_range (n := 60) (fun i σ H' => H' = H ∧ ∃ f v, Com a b i f ∧ σ = [some (.int a), some (.int b), some (.int f), v])
      ⟨rfl, 1, _, ⟨by omega, Int.one_dvd _, Int.one_dvd _, fun j h1 h2 _ _ => by omega⟩, rfl⟩ ?_ ?_⟩
    · rintro i σ H0 hi ⟨rfl, f, v, C, rfl⟩
      obtain ⟨c1, c2, c3, c4⟩ := C
      have hj : (1 + (i : Int)) ≠ 0 := by omega
      have dv : ∀ {z : Int}, V.int (z.fmod (1 + (i : Int))) = V.int 0 ↔ (1 + (i : Int)) ∣ z := fun {z} => by
        rw [V.int.injEq, Int.fmod_eq_emod_of_nonneg _ (by omega)]
        exact ⟨Int.dvd_of_emod_eq_zero, Int.emod_eq_zero_of_dvd⟩
      have keep : ¬ ((1 + (i : Int)) ∣ a ∧ (1 + (i : Int)) ∣ b) → Com a b (i + 1) f := fun h => ⟨c1, c2, c3, fun j h1 h2 h3 h4 => by
        by_cases e : j = 1 + (i : Int)
        · subst e
          exact absurd ⟨h3, h4⟩ h
        · exact c4 j h1 (by omega) h3 h4⟩
      refine ⟨_, rfl, _, rfl, _, _, rfl, rfl, hj, rfl, _, rfl, ?_⟩
      refine ite2 (fun h1 => ?_) fun h1 => ?_
      · have d1 := dv.mp (of_decide_eq_true h1)
        refine ⟨_, rfl, _, rfl, _, _, rfl, rfl, hj, rfl, _, rfl, ?_⟩
        refine ite2 (fun h2 => ?_) fun h2 => ?_
        · have d2 := dv.mp (of_decide_eq_true h2)
          exact ⟨_, rfl, rfl, _, _, ⟨by omega, d1, d2, fun j h1 h2 _ _ => by omega⟩, rfl⟩
        · exact ⟨rfl, _, _, keep fun z => h2 (decide_eq_true (dv.mpr z.2)), rfl⟩
      · exact iteF ⟨rfl, _, _, keep fun z => h1 (decide_eq_true (dv.mpr z.1)), rfl⟩
    · rintro σ H0 ⟨rfl, f, v, ⟨c1, c2, c3, c4⟩, rfl⟩
      have hg : f = (Nat.gcd a.natAbs b.natAbs : Nat) := by
        have d1 : f ∣ ((Nat.gcd a.natAbs b.natAbs : Nat) : Int) := Int.dvd_coe_gcd c2 c3
        have hp : 0 < Nat.gcd a.natAbs b.natAbs := Nat.gcd_pos_of_pos_right _ (by omega)
        have l1 := Int.le_of_dvd (by omega) d1
        have l2 : Nat.gcd a.natAbs b.natAbs ≤ b.natAbs := Nat.gcd_le_right _ (by omega)
        have l3 := c4 ((Nat.gcd a.natAbs b.natAbs : Nat) : Int) (by omega) (by omega) (Int.gcd_dvd_left ..) (Int.gcd_dvd_right ..)
        omega
      rw [← hg] at k
      exact ⟨_, rfl, k⟩
theorem ok_law (T : Ctx K mg) : FnOk P w K mg base CX0 9 T.f_law T.fd_law ["_law_script"] (spLaw K) := by
  refine T.F_law.ok sc_law (fun vs H Q E h => ?_) (fun cdv A outer s H vs Q E hr h => ?_)
  · obtain ⟨l, ns, rfl, _⟩ := h
    rfl
  · obtain ⟨l, ns, rfl, hS, hlen, q⟩ := h
    refine ⟨_, (pss_cons (ps_set (i := 1) sc_law.nd rfl (Or.inl rfl) (pe_call (ok_l_start T) (hr.mono (by decide)) (by rfl) T.g_l_start T.F_l_start.kp T.b_l_start .nil pass0 (pa_cons (pv 0) pa_nil)))
      (pss_cons (ps_for PassesOwn.never rfl (pi_range1 (by rfl) T.m_range (pa_cons pe_int pa_nil)) (pg_name (i := 2) sc_law.nd rfl (Or.inl rfl))
        (pss_cons (ps_set (i := 3) sc_law.nd rfl (Or.inl rfl) (pe_op op_sub (pe_call (ok_l_draw T) (hr.mono (by decide)) (by rfl) T.g_l_draw T.F_l_draw.kp T.b_l_draw .nil pass0 (pa_cons (pv 0) (pa_cons (pv 1) (pa_cons pe_int pa_nil)))) pe_int))
        (pss_cons (ps_set (i := 4) sc_law.nd rfl (Or.inl rfl) (pe_op op_add pe_int (pe_call (ok_l_draw T) (hr.mono (by decide)) (by rfl) T.g_l_draw T.F_l_draw.kp T.b_l_draw .nil pass0 (pa_cons (pv 0) (pa_cons (pv 1) (pa_cons pe_int pa_nil))))))
        (pss_cons (ps_set (i := 5) sc_law.nd rfl (Or.inl rfl) (pe_call (ok_l_common T) (hr.mono (by decide)) (by rfl) T.g_l_common T.F_l_common.kp T.b_l_common .nil pass0 (pa_cons (pe_callB call_abs (by rfl) T.m_abs (by decide +kernel) (pa_cons (pe_callTy call_int1 (by rfl) T.m_int (by decide +kernel) (pa_cons (pv 3) pa_nil)) pa_nil)) (pa_cons (pv 4) pa_nil))))
        (pss_cons (ps_set (i := 6) sc_law.nd rfl (Or.inl rfl) (pe_tup (pa_cons (pe_op op_fdivN (pv 3) (pv 5)) (pa_cons (pe_op op_fdivN (pv 4) (pv 5)) pa_nil))))
        (pss_cons (ps_set (i := 7) sc_law.nd rfl (Or.inl rfl) (pe_op op_add pe_int (pe_call (ok_l_draw T) (hr.mono (by decide)) (by rfl) T.g_l_draw T.F_l_draw.kp T.b_l_draw .nil pass0 (pa_cons (pv 0) (pa_cons (pv 1) (pa_cons pe_int pa_nil))))))
        (pss_cons (ps_set (i := 8) sc_law.nd rfl (Or.inl rfl) (pe_ix ix_list (pe_lst (pa_cons pe_int (pa_cons (pe_op op_pow pe_int pe_int) pa_nil))) (pe_call (ok_l_draw T) (hr.mono (by decide)) (by rfl) T.g_l_draw T.F_l_draw.kp T.b_l_draw .nil pass0 (pa_cons (pv 0) (pa_cons (pv 1) (pa_cons pe_int pa_nil)))) (fun _ _ => rfl)))
        (pss_cons (ps_for PassesOwn.never rfl (pi_list (pe_lst (pa_cons (pv 7) (pa_cons (pe_un un_neg (pv 7)) (pa_cons (pv 8) (pa_cons (pe_un un_neg (pv 8)) pa_nil)))))) (pg_name (i := 9) sc_law.nd rfl (Or.inl rfl))
          (pss_one (ps_if (pt_cmpR (op_neD hr.units) (pe_call (ok_l_made T) (hr.mono (by decide)) (by rfl) T.g_l_made T.F_l_made.kp T.b_l_made .nil pass0 (pa_cons (pe_op op_mul (pv 3) (pv 9)) (pa_cons (pe_op op_mul (pv 4) (pv 9)) pa_nil))) (pv 6) (nomark _))
            (pss_one (ps_ret pe_bl))
            pss_nil)))
        (pss_cons (ps_set (i := 10) sc_law.nd rfl (Or.inl rfl) (pe_make T.M_Ratio (ok_Ratio_init T) (hr.mono (by decide)) (by rfl) T.gc_Ratio T.b_Ratio_init2 T.v_Ratio_init2 passL (pa_cons (pv 3) (pa_cons (pv 4) pa_nil))))
        (Evl.pss_cut (ps_if (PW.pt (pw_or (pt_cmpR (op_ownNe T.oc_Ratio T.me_Ratio_eq.at_ T.me_Ratio_eq.fn (ok_Ratio_eq T) (hr.mono (by decide)) T.b_Ratio_eq pass0) (pv 10) (pe_make T.M_Ratio (ok_Ratio_init T) (hr.mono (by decide)) (by rfl) T.gc_Ratio T.b_Ratio_init2 T.v_Ratio_init2 passL (pa_cons (pe_op op_mul (pv 3) (pv 7)) (pa_cons (pe_op op_mul (pv 4) (pv 7)) pa_nil))) (nomark _)) (pw_or1 (pt_not (pt_cmpR (op_ownC (fun _ _ => rfl) T.me_Ratio_eq.at_ T.me_Ratio_eq.fn (ok_Ratio_eq T) (hr.mono (by decide)) T.b_Ratio_eq pass0) (pv 10) (pe_make T.M_Ratio (ok_Ratio_init T) (hr.mono (by decide)) (by rfl) T.gc_Ratio T.b_Ratio_init2 T.v_Ratio_init2 passL (pa_cons (pe_ix ix_tup (pv 6) pe_int (fun _ _ => rfl)) (pa_cons (pe_ix ix_tup (pv 6) pe_int (fun _ _ => rfl)) pa_nil))) (nomark _))))))
          (pss_one (ps_ret pe_bl))
          pss_nil)
        (Evl.pss_cut (ps_if (PW.pt (pw_or (pt_cmpR (op_ownC (fun _ _ => rfl) T.me_Ratio_eq.at_ T.me_Ratio_eq.fn (ok_Ratio_eq T) (hr.mono (by decide)) T.b_Ratio_eq pass0) (pv 10) (pe_make T.M_Ratio (ok_Ratio_init T) (hr.mono (by decide)) (by rfl) T.gc_Ratio T.b_Ratio_init2 T.v_Ratio_init2 passL (pa_cons (pe_op op_add (pv 3) pe_int) (pa_cons (pv 4) pa_nil))) (nomark _)) (pw_or1 (pt_not (pt_cmpR (op_ownNe T.oc_Ratio T.me_Ratio_eq.at_ T.me_Ratio_eq.fn (ok_Ratio_eq T) (hr.mono (by decide)) T.b_Ratio_eq pass0) (pv 10) (pe_make T.M_Ratio (ok_Ratio_init T) (hr.mono (by decide)) (by rfl) T.gc_Ratio T.b_Ratio_init2 T.v_Ratio_init2 passL (pa_cons (pe_op op_sub (pv 3) pe_int) (pa_cons (pv 4) pa_nil))) (nomark _))))))
          (pss_one (ps_ret pe_bl))
          pss_nil)
        (pss_cons (ps_set (i := 11) sc_law.nd rfl (Or.inl rfl) (pe_callTy call_str_int (by rfl) T.m_str (by decide +kernel) (pa_cons (pe_ix ix_tup (pv 6) pe_int (fun _ _ => rfl)) pa_nil)))
        (Evl.pss_cut (ps_if (pt_cmpR op_gt (pe_ix ix_tup (pv 6) pe_int (fun _ _ => rfl)) pe_int (nomark _))
          (pss_one (ps_set (i := 11) sc_law.nd rfl (Or.inl rfl) (pe_op op_add_str (pe_op op_add_str (pv 11) pe_str) (pe_callTy call_str_int (by rfl) T.m_str (by decide +kernel) (pa_cons (pe_ix ix_tup (pv 6) pe_int (fun _ _ => rfl)) pa_nil)))))
          pss_nil)
        (Evl.pss_cut (ps_if (PW.pt (pw_or (pt_cmpR op_ne (pe_callTy (call_strO T.me_Ratio_str.at_ T.me_Ratio_str.fn (ok_Ratio_str T) (hr.mono (by decide)) T.b_Ratio_str pass0) (by rfl) T.m_str (by decide +kernel) (pa_cons (pv 10) pa_nil)) (pv 11) (nomark _)) (pw_or (pt_cmpR (op_ownNe T.oc_Ratio T.me_Ratio_eq.at_ T.me_Ratio_eq.fn (ok_Ratio_eq T) (hr.mono (by decide)) T.b_Ratio_eq pass0) (pe_make T.M_Ratio (ok_Ratio_init T) (hr.mono (by decide)) (by rfl) T.gc_Ratio T.b_Ratio_init1 T.v_Ratio_init1 passL (pa_cons (pv 3) pa_nil)) (pe_make T.M_Ratio (ok_Ratio_init T) (hr.mono (by decide)) (by rfl) T.gc_Ratio T.b_Ratio_init2 T.v_Ratio_init2 passL (pa_cons (pv 3) (pa_cons pe_int pa_nil))) (nomark _)) (pw_or1 (pt_cmpR (op_neD hr.units) (pe_tup (pa_cons (pe_fld (pe_make T.M_Ratio (ok_Ratio_init T) (hr.mono (by decide)) (by rfl) T.gc_Ratio T.b_Ratio_init1 T.v_Ratio_init1 passL (pa_cons (pv 3) pa_nil)) rfl) (pa_cons (pe_fld (pe_make T.M_Ratio (ok_Ratio_init T) (hr.mono (by decide)) (by rfl) T.gc_Ratio T.b_Ratio_init1 T.v_Ratio_init1 passL (pa_cons (pv 3) pa_nil)) rfl) pa_nil))) (pe_tup (pa_cons (pv 3) (pa_cons pe_int pa_nil))) (nomark _))))))
          (pss_one (ps_ret pe_bl))
          pss_nil)
        (pss_one (ps_if (PW.pt (pw_or (pt_cmpR (op_ownC (fun _ _ => rfl) T.me_Ratio_eq.at_ T.me_Ratio_eq.fn (ok_Ratio_eq T) (hr.mono (by decide)) T.b_Ratio_eq pass0) (pe_make T.M_Ratio (ok_Ratio_init T) (hr.mono (by decide)) (by rfl) T.gc_Ratio T.b_Ratio_init1 T.v_Ratio_init1 passL (pa_cons (pv 3) pa_nil)) (pv 3) (nomark _)) (pw_or1 (pt_cmpR (op_ownC (fun _ _ => rfl) T.me_Ratio_eq.at_ T.me_Ratio_eq.fn (ok_Ratio_eq T) (hr.mono (by decide)) T.b_Ratio_eq pass0) (pv 10) (pe_tup (pa_cons (pe_ix ix_tup (pv 6) pe_int (fun _ _ => rfl)) (pa_cons (pe_ix ix_tup (pv 6) pe_int (fun _ _ => rfl)) pa_nil))) (nomark _)))))
          (pss_one (ps_ret pe_bl))
          pss_nil))))))))))))))))
      (pss_cons (ps_for PassesOwn.never rfl (pi_list (pe_lst (pa_cons pe_bl (pa_cons pe_bl (pa_cons pe_non (pa_cons pe_str pa_nil)))))) (pg_name (i := 12) sc_law.nd rfl (Or.inl rfl))
        (pss_one (ps_if (PW.pt (pw_or (pt_cmpR (op_neD hr.units) (pe_call (ok_l_made T) (hr.mono (by decide)) (by rfl) T.g_l_made T.F_l_made.kp T.b_l_made .nil pass0 (pa_cons (pv 12) (pa_cons (pv 12) pa_nil))) (pe_tup (pa_cons pe_str (pa_cons pe_str (pa_cons (pv 12) pa_nil)))) (nomark _)) (pw_or1 (pt_cmpR (op_neD hr.units) (pe_call (ok_l_made T) (hr.mono (by decide)) (by rfl) T.g_l_made T.F_l_made.kp T.b_l_made .nil pass0 (pa_cons pe_int (pa_cons (pv 12) pa_nil))) (pe_tup (pa_cons pe_str (pa_cons pe_str (pa_cons (pv 12) pa_nil)))) (nomark _)))))
          (pss_one (ps_ret pe_bl))
          pss_nil)))
      (pss_one (ps_ret (pe_and (pe_cmpR (op_eqD hr.units) (pe_call (ok_l_made T) (hr.mono (by decide)) (by rfl) T.g_l_made T.F_l_made.kp T.b_l_made .nil pass0 (pa_cons pe_int (pa_cons pe_int pa_nil))) (pe_tup (pa_cons pe_str (pa_cons pe_str (pa_cons pe_int pa_nil)))) (nomark _)) (pe_one (pe_cmpR (op_ownC (fun _ _ => rfl) T.me_Ratio_eq.at_ T.me_Ratio_eq.fn (ok_Ratio_eq T) (hr.mono (by decide)) T.b_Ratio_eq pass0) (pe_smeth0 (pe_glob (v := .ref T.c_Ratio) (by rfl) T.gc_Ratio rfl) T.sm_Ratio_half (ok_Ratio_half T) T.F_Ratio_half.kp (hr.mono (by decide)) T.b_Ratio_half pass0) (pe_make T.M_Ratio (ok_Ratio_init T) (hr.mono (by decide)) (by rfl) T.gc_Ratio T.b_Ratio_init2 T.v_Ratio_init2 passL (pa_cons pe_int (pa_cons pe_int pa_nil))) (nomark _))))))))), ?_⟩
    refine ⟨_, rfl, l, ns, rfl, hS, fun t H1 nt D1 b1 => ?_⟩
    refine ⟨6, rfl, by decide, by decide, for_range (n := 6) (fun i σ H' => Drw K H l t H' ∧ ∃ v2 v3 v4 v5 v6 v7 v8 v9 v10 v11 v12, σ = [some (.ref l), some (.ref t), v2, v3, v4, v5, v6, v7, v8, v9, v10, v11, v12])
      ⟨D1, _, _, _, _, _, _, _, _, _, _, _, rfl⟩ ?_ ?_⟩
    · rintro i σ H0 hi ⟨D0, v2, v3, v4, v5, v6, v7, v8, v9, v10, v11, v12, rfl⟩
      refine ⟨_, rfl, _, rfl, l, t, 121, H, rfl, D0, by decide, by decide, fun x1 H1 a1 a2 b1 D1 => ⟨_, _, rfl, rfl, ?_⟩⟩
      refine ⟨_, rfl, _, rfl, l, t, 60, H, rfl, D1, by decide, by decide, fun x2 H2 a3 a4 b2 D2 => ⟨_, _, rfl, rfl, ?_⟩⟩
      dsimp only
      generalize hov : x1 - 60 = a
      generalize hun : 1 + x2 = b
      have ha1 : -60 ≤ a ∧ a ≤ 60 := by omega
      have hb1 : 1 ≤ b ∧ b ≤ 60 := by omega
      clear hov hun
      refine ⟨_, rfl, .inl ⟨_, rfl, _, rfl, _, rfl, _, _, rfl, abs_nn a, by omega, by omega, ?_⟩⟩
      rw [abs_nat]
      generalize hg : ((Nat.gcd a.natAbs b.natAbs : Nat) : Int) = g
      have hgp : 1 ≤ g := by
        have : 0 < Nat.gcd a.natAbs b.natAbs := Nat.gcd_pos_of_pos_right _ (by omega)
        omega
      have hgl : g ≤ 60 := by
        have : Nat.gcd a.natAbs b.natAbs ≤ b.natAbs := Nat.gcd_le_right _ (by omega)
        omega
      have hgm : g ≠ 0 ∧ g.natAbs < 1073741824 := ⟨by omega, by omega⟩
      have nf0 : Nf a b (a.fdiv g) (b.fdiv g) := (nf_make (O := a) (U := b) (by omega) (d := g) (by rw [if_neg (by omega), hg])).2.2
      refine ⟨_, rfl, _, rfl, _, _, rfl, rfl, hgm, _, rfl, _, rfl, _, _, rfl, rfl, hgm, (by show 2 ≤ sizeLine; decide), fun dt ndt => ?_⟩
      dsimp only
      generalize a.fdiv g = p at nf0 ⊢
      generalize b.fdiv g = q' at nf0 ⊢
      have D3 := D2.mono (same_upd (o := .tup [.int p, .int q']) ndt)
      have hdt : upd H2 dt (.tup [.int p, .int q']) dt = some (.tup [.int p, .int q']) := upd_same
      generalize upd H2 dt (.tup [.int p, .int q']) = H3 at D3 hdt ⊢
      refine ⟨_, rfl, _, rfl, l, t, 9, H, rfl, D3, by decide, by decide, fun x3 H4 a5 a6 b4 D4 => ⟨_, _, rfl, rfl, ?_⟩⟩
      have ndt2 : dt ≠ t := by
        obtain ⟨_, _, _, _, h0⟩ := D3.st
        exact ne_of hdt h0 (by intro z; cases z)
      have hdt4 := (b4 dt ndt2).trans hdt
      dsimp only
      generalize hti : 1 + x3 = m
      have hm1 : 1 ≤ m ∧ m ≤ 9 := by omega
      clear hti
      refine ⟨_, _, rfl, rfl, ⟨by decide, by decide, by decide⟩, (by show 2 ≤ sizeLine; decide), fun fl nfl => ?_⟩
      have D5 := D4.mono (same_upd (o := .lst [.int 1, .int (10 ^ (30 : Int).toNat)]) nfl)
      have hfl : upd H4 fl (.lst [.int 1, .int (10 ^ (30 : Int).toNat)]) fl = some (.lst [.int 1, .int (10 ^ (30 : Int).toNat)]) := upd_same
      have hdt5 := same_upd (o := .lst [.int 1, .int (10 ^ (30 : Int).toNat)]) nfl _ _ hdt4
      have nflt : fl ≠ t := fun e => by
        subst e
        obtain ⟨_, _, _, _, h0⟩ := D4.st
        rw [nfl] at h0
        cases h0
      generalize upd H4 fl (.lst [.int 1, .int (10 ^ (30 : Int).toNat)]) = H5 at D5 hfl hdt5 ⊢
      refine ⟨_, rfl, _, rfl, l, t, 2, H, rfl, D5, by decide, by decide, fun x4 H6 a7 a8 b6 D6 => ?_⟩
      have hdt6 := (b6 dt ndt2).trans hdt5
      have hfl6 := (b6 fl nflt).trans hfl
      obtain ⟨far, hfar, hf2⟩ : ∃ far : Int, atI [V.int 1, .int (10 ^ (30 : Int).toNat)] x4 = some (.int far) ∧ (far ≠ 0 ∧ far.natAbs < 2 ^ 100) := by
        have : x4 = 0 ∨ x4 = 1 := by omega
        rcases this with rfl | rfl
        · exact ⟨_, rfl, by decide, by decide⟩
        · exact ⟨_, rfl, by decide, by decide⟩
      refine ⟨fl, _, _, _, rfl, rfl, SqL.of hfl6, hfar, ?_⟩
      clear hfl6 hfar hdt5 hfl hdt4 hdt D5 D4 D3 D2 D1 D0
      refine ⟨_, rfl, _, rfl, _, rfl, _, rfl, _, rfl, _, rfl, (by show 4 ≤ sizeLine; decide), fun pl npl => ?_⟩
      obtain ⟨L4, hL4⟩ : ∃ L4, L4 = [m, -m, far, -far].map V.int := ⟨_, rfl⟩
      have hl4 : ∀ H : Hp, (upd H pl (.lst [V.int m, V.int (-m), V.int far, V.int (-far)])) pl = some (.lst L4) := fun H => by
        rw [hL4]
        exact upd_same
      have hints : ∀ i x, L4[i]? = some x → ∃ y, x = V.int y ∧ y ≠ 0 ∧ y.natAbs < 2 ^ 100 := fun i x hi => by
        have hm := List.mem_of_getElem? hi
        rw [hL4] at hm
        obtain ⟨y, hy, rfl⟩ := List.mem_map.mp hm
        simp only [List.mem_cons, List.not_mem_nil, or_false] at hy
        refine ⟨y, rfl, ?_⟩
        rcases hy with rfl | rfl | rfl | rfl
        all_goals omega
      clear hL4
      refine ⟨pl, rfl, ⟨_, SqL.of (hl4 _)⟩, for_list (K := K) (a := pl) (xs := L4)
        (fun j σ H' => H' pl = some (.lst L4) ∧ H' dt = some (.tup [.int p, .int q']) ∧ Drw K H l t H' ∧ ∃ v9, σ = [some (.ref l), some (.ref t), some (.int (0 + i)), some (.int a), some (.int b), some (.int g), some (.ref dt), some (.int m), some (.int far), v9, v10, v11, v12])
        ⟨hl4 _, same_upd npl _ _ hdt6, D6.mono (same_upd npl), _, rfl⟩ (fun i σ H' _ ⟨s1, _⟩ => SqL.of s1) ?_ ?_⟩
      · rintro j x σ H7 hj ⟨hp, hdt, D7, v9, rfl⟩
        obtain ⟨n, rfl, hn, hn2⟩ := hints j x hj
        have hbn : b * n ≠ 0 := Int.mul_ne_zero (by omega) hn
        refine ⟨_, rfl, _, rfl, _, _, rfl, rfl, .inl ⟨by omega, by omega⟩, _, rfl, _, rfl, _, _, rfl, rfl, .inl ⟨by omega, by omega⟩, ?_⟩
        refine ⟨_, _, rfl, fun _ => kn_int _, fun _ => kn_int _, fun O U e1 e2 hU => ?_, fun w z hb => ?_⟩
        · cases e1
          cases e2
          refine ⟨sz_log (n := 110) ?_ (by decide) (by decide), fun r H8 p2 q2 s8 nf2 d2 => ?_⟩
          · show (b * n).natAbs < 2 ^ 110
            rw [Int.natAbs_mul]
            have : b.natAbs ≤ 60 := by omega
            have := Nat.mul_le_mul this (Nat.le_of_lt hn2)
            omega
          · obtain ⟨rfl, rfl⟩ := nf2.unique2 hbn (show b ≠ 0 by omega) (by show a * n * b = a * (b * n); grind) nf0
            exact ⟨_, rfl, _, _, d2, dp_two (s8 _ _ hdt), shaped_two _ _, shaped_two _ _, false, congrArg V.bl (ne_self (shaped_two _ _)), iteF ⟨s8 _ _ hp, s8 _ _ hdt, D7.mono s8, _, rfl⟩⟩
        · rcases hb with ⟨e, _⟩ | ⟨_, e, _⟩ | ⟨_, e, _⟩
          · cases e
          · cases e
          · have e' : b * n = 0 := by injection e
            exact absurd e' hbn
      · rintro σ H7 ⟨hp, hdt, D7, v9, rfl⟩
        clear hints hl4 npl
        have hb0 : b ≠ 0 := by omega
        have lg : ∀ x : Int, x.natAbs < 2 ^ 20 → x.natAbs.log2 < 9000 := fun x hx => sz_log hx (by decide) (by decide)
        have am : ∀ x y : Int, x.natAbs ≤ 60 → y.natAbs ≤ 60 → (x * y).natAbs < 2 ^ 20 := fun x y h1 h2 => by
          rw [Int.natAbs_mul]
          have := Nat.mul_le_mul h1 h2
          omega
        have cm : ∀ x y : Int, x.natAbs ≤ 60 → CMul x y := fun x y h => .inl ⟨by omega, by omega⟩
        have tov : atI [V.int p, V.int q'] 0 = some (V.int p) := rfl
        have tun : atI [V.int p, V.int q'] 1 = some (V.int q') := rfl
        refine ⟨_, rfl, _, rfl, ?_⟩
        refine mk_ratio hb0 (lg b (by omega)) fun r1 p1 q1 H8 s8 R1 nf1 => ?_
        obtain ⟨rfl, rfl⟩ := nf1.unique hb0 nf0
        have P1 : Rp T.c_Ratio H8 (.ref r1) a b 20 := rp_make R1 nf1 hb0 (by omega) (by omega) (by decide)
        have hdt := s8 _ _ hdt
        have D8 := D7.mono s8
        clear D7 D6
        -- made != Ratio(over * times, ..) or not made == Ratio(due[0], due[1])
        refine ⟨fun σ' H' => σ' = [some (.ref l), some (.ref t), some (.int (0 + i)), some (.int a), some (.int b), some (.int g), some (.ref dt), some (.int m), some (.int far), v9, some (.ref r1), v11, v12] ∧ Same H8 H', ?_, ?_⟩
        · refine ⟨_, rfl, _, rfl, _, rfl, _, _, rfl, rfl, cm _ _ (by omega), _, rfl, _, rfl, _, _, rfl, rfl, cm _ _ (by omega), ?_⟩
          have hbm : b * m ≠ 0 := Int.mul_ne_zero hb0 (by omega)
          refine mk_ratio hbm (lg _ (am _ _ (by omega) (by omega))) fun r2 p2 q2 H9 s9 R2 nf2 => ?_
          have P2 : Rp T.c_Ratio H9 (.ref r2) (a * m) (b * m) 20 := rp_make R2 nf2 hbm (am _ _ (by omega) (by omega)) (am _ _ (by omega) (by omega)) (by decide)
          refine st_neF T.ic_Ratio (P1.same s9) P2 (by grind) ⟨_, rfl, iteF ?_⟩
          refine ⟨_, rfl, _, rfl, dt, _, _, _, rfl, rfl, .inl (.inl (s9 _ _ hdt)), tov, _, rfl, dt, _, _, _, rfl, rfl, .inl (.inl (s9 _ _ hdt)), tun, ?_⟩
          have hq1 : q1 ≠ 0 := by have := nf0.pos; omega
          have e0 := nf0.eq
          have l1 := nf0.le1
          have l2 := nf0.le2
          refine mk_ratio hq1 (lg _ (by omega)) fun r3 p3 q3 H10 s10 R3 nf3 => ?_
          have P3 : Rp T.c_Ratio H10 (.ref r3) p1 q1 20 := rp_make R3 nf3 hq1 (by omega) (by omega) (by decide)
          exact st_eqT T.ic_Ratio ((P1.same s9).same s10) P3 (by grind) ⟨_, rfl, iteF ⟨rfl, s9.trans s10⟩⟩
        · rintro σ' H9 ⟨rfl, s9⟩
          refine ⟨fun σ' H' => σ' = [some (.ref l), some (.ref t), some (.int (0 + i)), some (.int a), some (.int b), some (.int g), some (.ref dt), some (.int m), some (.int far), v9, some (.ref r1), v11, v12] ∧ Same H8 H', ?_, ?_⟩
          · refine ⟨_, rfl, _, rfl, _, _, rfl, rfl, _, rfl, ?_⟩
            refine mk_ratio hb0 (lg _ (by omega)) fun r2 p2 q2 H10 s10 R2 nf2 => ?_
            have P2 : Rp T.c_Ratio H10 (.ref r2) (a + 1) b 20 := rp_make R2 nf2 hb0 (by omega) (by omega) (by decide)
            have ne1 : ¬ a * b = (a + 1) * b := fun z => by
              rw [Int.add_mul] at z
              omega
            refine st_eq T.ic_Ratio ((P1.same s9).same s10) P2 ?_
            rw [decide_eq_false ne1]
            refine ⟨_, rfl, iteF ?_⟩
            have s9' := s9.trans s10
            refine ⟨_, rfl, _, rfl, _, _, rfl, rfl, _, rfl, ?_⟩
            refine mk_ratio hb0 (lg _ (by omega)) fun r3 p3 q3 H11 s11 R3 nf3 => ?_
            have P3 : Rp T.c_Ratio H11 (.ref r3) (a - 1) b 20 := rp_make R3 nf3 hb0 (by omega) (by omega) (by decide)
            have ne2 : ¬ a * b = (a - 1) * b := fun z => by
              rw [Int.sub_mul] at z
              omega
            refine st_ne T.ic_Ratio ((P1.same s9').same s11) P3 ?_
            rw [decide_eq_false ne2]
            exact ⟨_, rfl, iteF ⟨rfl, s9'.trans s11⟩⟩
          · rintro σ' H10 ⟨rfl, s10⟩
            have P1 := P1.same s10
            have R1 := R1.same s10
            have hdt := s10 _ _ hdt
            have D10 := D8.mono s10
            have l1 := nf0.le1
            have l2 := nf0.le2
            have hp1 : p1.natAbs.log2 < 1920 := Nat.lt_trans (PySem.Flt.log2_lt_of (show 0 < 10 by decide) (show p1.natAbs < 2 ^ 10 by omega)) (by decide)
            have hq1 : q1.natAbs.log2 < 1920 := Nat.lt_trans (PySem.Flt.log2_lt_of (show 0 < 10 by decide) (show q1.natAbs < 2 ^ 10 by omega)) (by decide)
            -- words
            refine ⟨_, rfl, dt, _, _, _, rfl, rfl, .inl (.inl hdt), tov, _, rfl, hp1, ?_⟩
            refine ⟨fun σ' H' => σ' = [some (.ref l), some (.ref t), some (.int (0 + i)), some (.int a), some (.int b), some (.int g), some (.ref dt), some (.int m), some (.int far), v9, some (.ref r1), some (.str (rtext p1 q1)), v12] ∧ H' = H10, ?_, ?_⟩
            · refine ⟨_, rfl, dt, _, _, _, rfl, rfl, .inl (.inl hdt), tun, _, _, rfl, rfl, _, rfl, ite2 (fun h => ?_) fun h => ?_⟩
              · have hgt : 1 < q1 := of_decide_eq_true h
                have t1 := PyProof.Rows.int_text_len_1921 hp1
                have t2 := PyProof.Rows.int_text_len_1921 hq1
                have e3 : ("/" : Str).length = 1 := rfl
                refine ⟨_, rfl, _, _, rfl, rfl, ?_, _, rfl, dt, _, _, _, rfl, rfl, .inl (.inl hdt), tun, _, rfl, hq1, _, _, rfl, rfl, ?_, ?_⟩
                · rw [e3]
                  exact Nat.le_trans (Nat.add_le_add_right t1 1) (by decide)
                · rw [len_app, e3]
                  exact Nat.le_trans (Nat.add_le_add (Nat.add_le_add_right t1 1) t2) (by decide)
                · refine ⟨?_, rfl⟩
                  rw [rtext, if_neg (by omega)]
                  rfl
              · have hle := of_decide_eq_false (Bool.eq_false_iff.mpr h)
                have := nf0.pos
                refine ⟨?_, rfl⟩
                rw [rtext, if_pos (by omega)]
                rfl
            · rintro σ' H11 ⟨rfl, rfl⟩
              have cond : ∀ x : Int, (x = a ∨ x = b) → x.natAbs.log2 < 1920 := fun x hx => Nat.lt_trans (PySem.Flt.log2_lt_of (show 0 < 10 by decide) (show x.natAbs < 2 ^ 10 by omega)) (by decide)
              refine ⟨fun σ' H' => σ' = [some (.ref l), some (.ref t), some (.int (0 + i)), some (.int a), some (.int b), some (.int g), some (.ref dt), some (.int m), some (.int far), v9, some (.ref r1), some (.str (rtext p1 q1)), v12] ∧ Same H11 H', ?_, ?_⟩
              · refine ⟨_, rfl, _, rfl, R1.isC, _, p1, q1, rfl, R1, hp1, hq1, _, rfl, _, rfl, rfl, false, congrArg V.bl (by simp), iteF ?_⟩
                refine ⟨_, rfl, ?_⟩
                refine mk_ratio1 fun r2 H12 s12 R2 => ?_
                refine ⟨_, rfl, ?_⟩
                refine mk_ratio (by decide) (by decide) fun r3 p3 q3 H13 s13 R3 nf3 => ?_
                have P2 : Rp T.c_Ratio H12 (.ref r2) a 1 20 := rp_int R2 (by omega) (by decide)
                have P3 : Rp T.c_Ratio H13 (.ref r3) a 1 20 := rp_make R3 nf3 (by decide) (by omega) (by decide) (by decide)
                refine st_neF T.ic_Ratio (P2.same s13) P3 (by grind) ⟨_, rfl, iteF ?_⟩
                have s13' := s12.trans s13
                refine ⟨_, rfl, ?_⟩
                refine mk_ratio1 fun r4 H14 s14 R4 => ?_
                obtain ⟨⟨a4, dx4, e4, ha4⟩, _⟩ := id R4
                cases e4
                refine ⟨_, T.c_Ratio, dx4, _, _, rfl, ha4, T.cl_Ratio, T.n_Ratio_over, rfR_over _ _, _, rfl, ?_⟩
                refine mk_ratio1 fun r5 H15 s15 R5 => ?_
                obtain ⟨⟨a5, dx5, e5, ha5⟩, _⟩ := id R5
                cases e5
                refine ⟨_, T.c_Ratio, dx5, _, _, rfl, ha5, T.cl_Ratio, T.n_Ratio_under, rfR_under _ _, (by show 2 ≤ sizeLine; decide), fun t1 nt1 => ?_⟩
                refine ⟨_, rfl, (by show 2 ≤ sizeLine; decide), fun t2 nt2 => ?_⟩
                have s16 := (s14.trans s15).trans (same_upd (o := .tup [.int a, .int 1]) nt1)
                exact ⟨_, _, dp_same (same_upd nt2) (dp_two upd_same), dp_two upd_same, shaped_two _ _, shaped_two _ _, false, congrArg V.bl (ne_self (shaped_two _ _)), iteF ⟨rfl, s13'.trans (s16.trans (same_upd nt2))⟩⟩
              · rintro σ' H12 ⟨rfl, s12⟩
                have R1 := R1.same s12
                have hdt := s12 _ _ hdt
                have D12 := D10.mono s12
                refine ⟨_, rfl, ?_⟩
                refine mk_ratio1 fun r2 H13 s13 R2 => ?_
                refine ⟨_, rfl, R2.isC, ⟨_, .base (.int _), notFirst_of T.oc_Ratio.intNo⟩, _, _, a, 1, rfl, R2, .inr ⟨_, .base (.int _), T.ki_int_Ratio, _, rfl, iteF ?_⟩⟩
                refine ⟨_, rfl, _, rfl, dt, _, _, _, rfl, rfl, .inl (.inl (s13 _ _ hdt)), tov, _, rfl, dt, _, _, _, rfl, rfl, .inl (.inl (s13 _ _ hdt)), tun, (by show 2 ≤ sizeLine; decide), fun t2 nt2 => ?_⟩
                have s14 := s13.trans (same_upd (o := .tup [.int p1, .int q1]) nt2)
                have R1 := R1.same s14
                have ht : TyX K (upd H13 t2 (.tup [.int p1, .int q1])) (.ref t2) (.type "tuple") := .base (.tup upd_same)
                exact ⟨R1.isC, ⟨_, ht, notFirst_of T.tuNo_Ratio⟩, _, _, p1, q1, rfl, R1, .inr ⟨_, ht, T.ki_tuple_Ratio, _, rfl, iteF ⟨D12.mono s14, _, _, _, _, _, _, _, _, _, _, _, rfl⟩⟩⟩
    · rintro σ H0 ⟨D0, v2, v3, v4, v5, v6, v7, v8, v9, v10, v11, v12, rfl⟩
      refine ⟨(by show 4 ≤ sizeLine; decide), fun pl npl => ?_⟩
      obtain ⟨L4, hL4⟩ : ∃ L4, L4 = [V.bl true, .bl false, .non, .str "1"] := ⟨_, rfl⟩
      have hl4 : ∀ H : Hp, (upd H pl (.lst [V.bl true, .bl false, .non, .str "1"])) pl = some (.lst L4) := fun H => by
        rw [hL4]
        exact upd_same
      have hints : ∀ i x, L4[i]? = some x → (∀ H, Kn K H x) ∧ isInt x = false ∧ ∃ d, (∀ H, Dp K H x d) ∧ SeqAt.shaped (.tuple [.str "bad", .str "over", d]) = true ∧ SeqAt.shaped (.tuple [.str "bad", .str "under", d]) = true := fun i x hi => by
        have hm := List.mem_of_getElem? hi
        rw [hL4] at hm
        simp only [List.mem_cons, List.not_mem_nil, or_false] at hm
        rcases hm with rfl | rfl | rfl | rfl
        · exact ⟨fun _ => kn_bl _, rfl, .bool true, fun _ => .bl _, by decide +kernel, by decide +kernel⟩
        · exact ⟨fun _ => kn_bl _, rfl, .bool false, fun _ => .bl _, by decide +kernel, by decide +kernel⟩
        · exact ⟨fun _ => kn_non, rfl, .none, fun _ => .non, by decide +kernel, by decide +kernel⟩
        · exact ⟨fun _ => kn_str _, rfl, .str "1", fun _ => .str _, by decide +kernel, by decide +kernel⟩
      clear hL4
      refine ⟨pl, rfl, ⟨_, SqL.of (hl4 _)⟩, for_list (K := K) (a := pl) (xs := L4)
        (fun j σ H' => H' pl = some (.lst L4) ∧ ∃ v12, σ = [some (.ref l), some (.ref t), v2, v3, v4, v5, v6, v7, v8, v9, v10, v11, v12])
        ⟨hl4 _, _, rfl⟩ (fun i σ H' _ ⟨s1, _⟩ => SqL.of s1) ?_ ?_⟩
      · rintro j x σ H7 hj ⟨hp, v12, rfl⟩
        obtain ⟨kn, hi, d, hd, sh1, sh2⟩ := hints j x hj
        refine ⟨_, rfl, _, rfl, _, _, rfl, kn, kn, fun O U e1 e2 hU => ?_, fun w z hb => ?_⟩
        · subst e1
          cases hi
        · have hw : w = "over" ∧ z = x := by
            rcases hb with ⟨_, e, e'⟩ | ⟨e, _⟩ | ⟨e, _⟩
            · exact ⟨e, e'⟩
            · rw [hi] at e
              cases e
            · rw [hi] at e
              cases e
          obtain ⟨rfl, rfl⟩ := hw
          refine ⟨d, hd, fun r H8 s8 dr => ?_⟩
          refine ⟨_, rfl, (by show 3 ≤ sizeLine; decide), fun t2 nt2 => ?_⟩
          refine ⟨_, _, dp_same (same_upd nt2) dr, .tup (.inl (.inl upd_same)) (.cons (.str _) (.cons (.str _) (.cons (hd _) .nil))), sh1, sh1, false, congrArg V.bl (ne_self sh1), iteF ?_⟩
          have s9 := s8.trans (same_upd (o := .tup [.str "bad", .str "over", z]) nt2)
          refine ⟨_, rfl, _, _, rfl, fun _ => kn_int _, kn, fun O U e1 e2 hU => ?_, fun w z' hb => ?_⟩
          · subst e2
            cases hi
          · have hw : w = "under" ∧ z' = z := by
              rcases hb with ⟨e, _⟩ | ⟨_, _, e, e'⟩ | ⟨_, e, _⟩
              · cases e
              · exact ⟨e, e'⟩
              · subst e
                cases hi
            obtain ⟨rfl, rfl⟩ := hw
            refine ⟨d, hd, fun r H10 s10 dr2 => ?_⟩
            refine ⟨_, rfl, (by show 3 ≤ sizeLine; decide), fun t3 nt3 => ?_⟩
            refine ⟨_, _, dp_same (same_upd nt3) dr2, .tup (.inl (.inl upd_same)) (.cons (.str _) (.cons (.str _) (.cons (hd _) .nil))), sh2, sh2, false, congrArg V.bl (ne_self sh2), iteF ⟨?_, _, rfl⟩⟩
            exact (s9.trans (s10.trans (same_upd nt3))) _ _ hp
      · rintro σ H7 ⟨hp, v12, rfl⟩
        refine ⟨_, _, rfl, fun _ => kn_int _, fun _ => kn_int _, fun O U e1 e2 hU => ?_, fun w z hb => ?_⟩
        · cases e2
          exact absurd rfl hU
        · have hw : w = "under" ∧ z = .int 0 := by
            rcases hb with ⟨e, _⟩ | ⟨_, e, _⟩ | ⟨_, _, e, e'⟩
            · cases e
            · cases e
            · exact ⟨e, e'⟩
          obtain ⟨rfl, rfl⟩ := hw
          have sh : SeqAt.shaped (.tuple [.str "bad", .str "under", .int 0]) = true := by decide +kernel
          refine ⟨.int 0, fun _ => .int _, fun r H8 s8 dr => ?_⟩
          refine ⟨(by show 3 ≤ sizeLine; decide), fun t2 nt2 => ?_⟩
          refine ⟨_, _, dp_same (same_upd nt2) dr, .tup (.inl (.inl upd_same)) (.cons (.str _) (.cons (.str _) (.cons (.int _) .nil))), sh, sh, true, congrArg V.bl (eq_self sh), iteT ?_⟩
          refine ⟨rfl, rfl, fun r1 H9 s9 R1 => ?_⟩
          refine mk_ratio (by decide) (by decide) fun r2 p2 q2 H10 s10 R2 nf2 => ?_
          have P1 : Rp T.c_Ratio H9 r1 1 2 20 := ⟨1, 2, R1, rfl, by decide, ⟨by decide, by decide⟩, by decide⟩
          have P2 : Rp T.c_Ratio H10 (.ref r2) 1 2 20 := rp_make R2 nf2 (by decide) (by decide) (by decide) (by decide)
          exact st_eqT T.ic_Ratio (P1.same s10) P2 rfl (q _)
end
theorem all_mk {l : PySem.W.OpenLaw} {w : World} {K : PySem.W.Frag} {h : Heap} {mg : Str → Option Value} {fa ca_VoteError ca_BadNumber ca_Ratio fa_BadNumber_init fa_is_integer fa_check_number fa_Ratio_init fa_ratio_of fa_Ratio_eq fa_Ratio_str fa_Ratio_half fa_l_start fa_l_draw fa_l_made fa_l_common fa_law : Addr} (X : K.In h) (G : h.Ns mainGlobals mg) (hfa : mg "law" = some (.ref fa))
    {od_BadNumber_init an_BadNumber_init : Option Addr} {sl_BadNumber_init : Array (Option Value)} {oc_BadNumber_init kV_BadNumber_init dc_BadNumber_init pm_BadNumber_init cd_BadNumber_init ct_BadNumber_init : Value}
    {od_is_integer an_is_integer : Option Addr} {sl_is_integer : Array (Option Value)} {oc_is_integer kV_is_integer dc_is_integer pm_is_integer cd_is_integer ct_is_integer : Value}
    {od_check_number an_check_number : Option Addr} {sl_check_number : Array (Option Value)} {oc_check_number kV_check_number dc_check_number pm_check_number cd_check_number ct_check_number : Value}
    {od_Ratio_init an_Ratio_init : Option Addr} {sl_Ratio_init : Array (Option Value)} {oc_Ratio_init kV_Ratio_init dc_Ratio_init pm_Ratio_init cd_Ratio_init ct_Ratio_init : Value}
    {dt_Ratio_init : Addr} {dto_Ratio_init : Obj} {dtn_Ratio_init : Nat} {dk_Ratio_init0 : Tok}
    {od_ratio_of an_ratio_of : Option Addr} {sl_ratio_of : Array (Option Value)} {oc_ratio_of kV_ratio_of dc_ratio_of pm_ratio_of cd_ratio_of ct_ratio_of : Value}
    {od_Ratio_eq an_Ratio_eq : Option Addr} {sl_Ratio_eq : Array (Option Value)} {oc_Ratio_eq kV_Ratio_eq dc_Ratio_eq pm_Ratio_eq cd_Ratio_eq ct_Ratio_eq : Value}
    {od_Ratio_str an_Ratio_str : Option Addr} {sl_Ratio_str : Array (Option Value)} {oc_Ratio_str kV_Ratio_str dc_Ratio_str pm_Ratio_str cd_Ratio_str ct_Ratio_str : Value}
    {sp_Ratio_half : Addr} {sr_Ratio_half : List Value}
    {od_Ratio_half an_Ratio_half : Option Addr} {sl_Ratio_half : Array (Option Value)} {oc_Ratio_half kV_Ratio_half dc_Ratio_half pm_Ratio_half cd_Ratio_half ct_Ratio_half : Value}
    {od_l_start an_l_start : Option Addr} {sl_l_start : Array (Option Value)} {oc_l_start kV_l_start dc_l_start pm_l_start cd_l_start ct_l_start : Value}
    {od_l_draw an_l_draw : Option Addr} {sl_l_draw : Array (Option Value)} {oc_l_draw kV_l_draw dc_l_draw pm_l_draw cd_l_draw ct_l_draw : Value}
    {od_l_made an_l_made : Option Addr} {sl_l_made : Array (Option Value)} {oc_l_made kV_l_made dc_l_made pm_l_made cd_l_made ct_l_made : Value}
    {od_l_common an_l_common : Option Addr} {sl_l_common : Array (Option Value)} {oc_l_common kV_l_common dc_l_common pm_l_common cd_l_common ct_l_common : Value}
    {od_law an_law : Option Addr} {sl_law : Array (Option Value)} {oc_law kV_law dc_law pm_law cd_law ct_law : Value}
    {nm_BadNumber q_BadNumber : Str} {N_BadNumber : Addr} {bs_BadNumber bm_BadNumber : List Value} {sn_BadNumber : List Str} {sub_BadNumber : List Value} {ab_BadNumber : Bool} {col_BadNumber : Option Bool} {dd_BadNumber : Option Addr} {m0_BadNumber m1_BadNumber m2_BadNumber m3_BadNumber m5_BadNumber : Option Value}
    (aC_VoteError : PySem.W.nsIn K mainGlobals "VoteError" = some (some (.ref ca_VoteError)))
    (aC_BadNumber : PySem.W.nsIn K mainGlobals "BadNumber" = some (some (.ref ca_BadNumber)))
    (aC_Ratio : PySem.W.nsIn K mainGlobals "Ratio" = some (some (.ref ca_Ratio)))
    (a_BadNumber_init : PySem.W.findIn K (.ref ca_BadNumber) "__init__" = some (some (.ref fa_BadNumber_init)))
    (l_BadNumber_init : K.lookup fa_BadNumber_init = some ⟨oc_BadNumber_init, od_BadNumber_init, .func (PySem.W.fnOf "__init__" "BadNumber.__init__" (defArgs s_BadNumber_init) (defBody s_BadNumber_init) (defScope s_BadNumber_init) .none kV_BadNumber_init dc_BadNumber_init pm_BadNumber_init an_BadNumber_init cd_BadNumber_init ct_BadNumber_init), sl_BadNumber_init⟩)
    (cc_BadNumber_init : PySem.W.codeIn K cd_BadNumber_init "BadNumber.__init__" = true)
    (kk_BadNumber_init : PySem.W.keepIn K (.ref fa_BadNumber_init) = true)
    (a_is_integer : PySem.W.nsIn K mainGlobals "is_integer" = some (some (.ref fa_is_integer)))
    (l_is_integer : K.lookup fa_is_integer = some ⟨oc_is_integer, od_is_integer, .func (PySem.W.fnOf "is_integer" "is_integer" (defArgs s_is_integer) (defBody s_is_integer) (defScope s_is_integer) .none kV_is_integer dc_is_integer pm_is_integer an_is_integer cd_is_integer ct_is_integer), sl_is_integer⟩)
    (cc_is_integer : PySem.W.codeIn K cd_is_integer "is_integer" = true)
    (kk_is_integer : PySem.W.keepIn K (.ref fa_is_integer) = true)
    (a_check_number : PySem.W.nsIn K mainGlobals "check_number" = some (some (.ref fa_check_number)))
    (l_check_number : K.lookup fa_check_number = some ⟨oc_check_number, od_check_number, .func (PySem.W.fnOf "check_number" "check_number" (defArgs s_check_number) (defBody s_check_number) (defScope s_check_number) .none kV_check_number dc_check_number pm_check_number an_check_number cd_check_number ct_check_number), sl_check_number⟩)
    (cc_check_number : PySem.W.codeIn K cd_check_number "check_number" = true)
    (kk_check_number : PySem.W.keepIn K (.ref fa_check_number) = true)
    (a_Ratio_init : PySem.W.findIn K (.ref ca_Ratio) "__init__" = some (some (.ref fa_Ratio_init)))
    (i_Ratio_init : PySem.W.isFn K (.ref fa_Ratio_init) = true)
    (l_Ratio_init : K.lookup fa_Ratio_init = some ⟨oc_Ratio_init, od_Ratio_init, .func (PySem.W.fnOf "__init__" "Ratio.__init__" (defArgs s_Ratio_init) (defBody s_Ratio_init) (defScope s_Ratio_init) (.ref dt_Ratio_init) kV_Ratio_init dc_Ratio_init pm_Ratio_init an_Ratio_init cd_Ratio_init ct_Ratio_init), sl_Ratio_init⟩)
    (cc_Ratio_init : PySem.W.codeIn K cd_Ratio_init "Ratio.__init__" = true)
    (kk_Ratio_init : PySem.W.keepIn K (.ref fa_Ratio_init) = true)
    (dl_Ratio_init : K.lookup dt_Ratio_init = some dto_Ratio_init)
    (dd_Ratio_init : dto_Ratio_init.data = .seq [.int 1 dk_Ratio_init0].toArray dtn_Ratio_init)
    (a_ratio_of : PySem.W.nsIn K mainGlobals "ratio_of" = some (some (.ref fa_ratio_of)))
    (l_ratio_of : K.lookup fa_ratio_of = some ⟨oc_ratio_of, od_ratio_of, .func (PySem.W.fnOf "ratio_of" "ratio_of" (defArgs s_ratio_of) (defBody s_ratio_of) (defScope s_ratio_of) .none kV_ratio_of dc_ratio_of pm_ratio_of an_ratio_of cd_ratio_of ct_ratio_of), sl_ratio_of⟩)
    (cc_ratio_of : PySem.W.codeIn K cd_ratio_of "ratio_of" = true)
    (kk_ratio_of : PySem.W.keepIn K (.ref fa_ratio_of) = true)
    (a_Ratio_eq : PySem.W.findIn K (.ref ca_Ratio) "__eq__" = some (some (.ref fa_Ratio_eq)))
    (i_Ratio_eq : PySem.W.isFn K (.ref fa_Ratio_eq) = true)
    (l_Ratio_eq : K.lookup fa_Ratio_eq = some ⟨oc_Ratio_eq, od_Ratio_eq, .func (PySem.W.fnOf "__eq__" "Ratio.__eq__" (defArgs s_Ratio_eq) (defBody s_Ratio_eq) (defScope s_Ratio_eq) .none kV_Ratio_eq dc_Ratio_eq pm_Ratio_eq an_Ratio_eq cd_Ratio_eq ct_Ratio_eq), sl_Ratio_eq⟩)
    (cc_Ratio_eq : PySem.W.codeIn K cd_Ratio_eq "Ratio.__eq__" = true)
    (kk_Ratio_eq : PySem.W.keepIn K (.ref fa_Ratio_eq) = true)
    (a_Ratio_str : PySem.W.findIn K (.ref ca_Ratio) "__str__" = some (some (.ref fa_Ratio_str)))
    (i_Ratio_str : PySem.W.isFn K (.ref fa_Ratio_str) = true)
    (l_Ratio_str : K.lookup fa_Ratio_str = some ⟨oc_Ratio_str, od_Ratio_str, .func (PySem.W.fnOf "__str__" "Ratio.__str__" (defArgs s_Ratio_str) (defBody s_Ratio_str) (defScope s_Ratio_str) .none kV_Ratio_str dc_Ratio_str pm_Ratio_str an_Ratio_str cd_Ratio_str ct_Ratio_str), sl_Ratio_str⟩)
    (cc_Ratio_str : PySem.W.codeIn K cd_Ratio_str "Ratio.__str__" = true)
    (kk_Ratio_str : PySem.W.keepIn K (.ref fa_Ratio_str) = true)
    (rd_Ratio_half : PySem.W.readsIn K ca_Ratio (.type "type") = true)
    (sg_Ratio_half : PySem.W.specialIn K (.ref ca_Ratio) "__getattribute__" = some (some (.builtin "type.__getattribute__")))
    (sa1_Ratio_half : PySem.W.findCls K (.ref ca_Ratio) (.type "type") "half" = some (.get (.builtin "staticmethod.__get__") (.ref sp_Ratio_half) .none (.ref ca_Ratio)))
    (sa2_Ratio_half : PySem.W.recIn K sp_Ratio_half "staticmethod" = some (.ref fa_Ratio_half :: sr_Ratio_half))
    (l_Ratio_half : K.lookup fa_Ratio_half = some ⟨oc_Ratio_half, od_Ratio_half, .func (PySem.W.fnOf "half" "Ratio.half" (defArgs s_Ratio_half) (defBody s_Ratio_half) (defScope s_Ratio_half) .none kV_Ratio_half dc_Ratio_half pm_Ratio_half an_Ratio_half cd_Ratio_half ct_Ratio_half), sl_Ratio_half⟩)
    (cc_Ratio_half : PySem.W.codeIn K cd_Ratio_half "Ratio.half" = true)
    (kk_Ratio_half : PySem.W.keepIn K (.ref fa_Ratio_half) = true)
    (a_l_start : PySem.W.nsIn K mainGlobals "_law_start" = some (some (.ref fa_l_start)))
    (l_l_start : K.lookup fa_l_start = some ⟨oc_l_start, od_l_start, .func (PySem.W.fnOf "_law_start" "_law_start" (defArgs s_l_start) (defBody s_l_start) (defScope s_l_start) .none kV_l_start dc_l_start pm_l_start an_l_start cd_l_start ct_l_start), sl_l_start⟩)
    (cc_l_start : PySem.W.codeIn K cd_l_start "_law_start" = true)
    (kk_l_start : PySem.W.keepIn K (.ref fa_l_start) = true)
    (a_l_draw : PySem.W.nsIn K mainGlobals "_law_draw" = some (some (.ref fa_l_draw)))
    (l_l_draw : K.lookup fa_l_draw = some ⟨oc_l_draw, od_l_draw, .func (PySem.W.fnOf "_law_draw" "_law_draw" (defArgs s_l_draw) (defBody s_l_draw) (defScope s_l_draw) .none kV_l_draw dc_l_draw pm_l_draw an_l_draw cd_l_draw ct_l_draw), sl_l_draw⟩)
    (cc_l_draw : PySem.W.codeIn K cd_l_draw "_law_draw" = true)
    (kk_l_draw : PySem.W.keepIn K (.ref fa_l_draw) = true)
    (a_l_made : PySem.W.nsIn K mainGlobals "_law_made" = some (some (.ref fa_l_made)))
    (l_l_made : K.lookup fa_l_made = some ⟨oc_l_made, od_l_made, .func (PySem.W.fnOf "_law_made" "_law_made" (defArgs s_l_made) (defBody s_l_made) (defScope s_l_made) .none kV_l_made dc_l_made pm_l_made an_l_made cd_l_made ct_l_made), sl_l_made⟩)
    (cc_l_made : PySem.W.codeIn K cd_l_made "_law_made" = true)
    (kk_l_made : PySem.W.keepIn K (.ref fa_l_made) = true)
    (a_l_common : PySem.W.nsIn K mainGlobals "_law_common" = some (some (.ref fa_l_common)))
    (l_l_common : K.lookup fa_l_common = some ⟨oc_l_common, od_l_common, .func (PySem.W.fnOf "_law_common" "_law_common" (defArgs s_l_common) (defBody s_l_common) (defScope s_l_common) .none kV_l_common dc_l_common pm_l_common an_l_common cd_l_common ct_l_common), sl_l_common⟩)
    (cc_l_common : PySem.W.codeIn K cd_l_common "_law_common" = true)
    (kk_l_common : PySem.W.keepIn K (.ref fa_l_common) = true)
    (a_law : PySem.W.nsIn K mainGlobals "law" = some (some (.ref fa_law)))
    (l_law : K.lookup fa_law = some ⟨oc_law, od_law, .func (PySem.W.fnOf "law" "law" (defArgs s_law) (defBody s_law) (defScope s_law) .none kV_law dc_law pm_law an_law cd_law ct_law), sl_law⟩)
    (cc_law : PySem.W.codeIn K cd_law "law" = true)
    (kk_law : PySem.W.keepIn K (.ref fa_law) = true)
    (xL_BadNumber : K.lookup ca_BadNumber = some (excClassObj nm_BadNumber q_BadNumber ca_BadNumber N_BadNumber bs_BadNumber bm_BadNumber true sn_BadNumber sub_BadNumber ab_BadNumber col_BadNumber dd_BadNumber m0_BadNumber m1_BadNumber m2_BadNumber m3_BadNumber m5_BadNumber "ValueError.__new__"))
    (bm_ok_BadNumber : PySem.HandSPX.refsVE bm_BadNumber = true)
    (sa_BadNumber : PySem.W.findIn K (.ref ca_BadNumber) "__setattr__" = some (some (.builtin "object.__setattr__")))
    (eC_BadNumber : PySem.W.subIn K (.ref ca_BadNumber) (.type "BaseException") = some true)
    (tC_BadNumber : PySem.W.typeIn K (.ref ca_BadNumber) = some (.type "type"))
    (kC_BadNumber : PySem.W.keepIn K (.ref ca_BadNumber) = true)
    (tI_BadNumber : PySem.W.typeIn K (.ref fa_BadNumber_init) = some (.type "function"))
    (ga_BadNumber : PySem.W.findIn K (.ref ca_BadNumber) "__getattribute__" = some (some (.builtin "BaseException.__getattribute__")))
    (gg_BadNumber : PySem.W.findIn K (.ref ca_BadNumber) "__getattr__" = some none)
    (hd_BadNumber : PySem.W.hasDictIn K ca_BadNumber = true)
    (ic_BadNumber : PySem.W.isClsIn K ca_BadNumber = true)
    (cc_BadNumber : PySem.W.findIn K (.ref ca_BadNumber) "__class__" = some (some (.builtin "object.__class__")))
    (cm_BadNumber : PySem.W.mroIn K ca_BadNumber (.type "object") = some true)
    (n_BadNumber_what : PySem.W.findIn K (.ref ca_BadNumber) "what" = some none)
    (n_BadNumber_value : PySem.W.findIn K (.ref ca_BadNumber) "value" = some none)
    (cn_ : PySem.W.specialIn K (.builtin "object.__class__") "__get__" = some (some (.builtin "getset_descriptor.__get__")))
    (ct_ : PySem.W.takesIn K (.builtin "object.__class__") = some true)
    (pg_Ratio : PySem.W.plainGet K ca_Ratio Str.empty = true)
    (hd_Ratio : PySem.W.hasDictIn K ca_Ratio = true)
    (po_Ratio : PySem.W.plainOver K ca_Ratio = true)
    (sa_Ratio : PySem.W.findIn K (.ref ca_Ratio) "__setattr__" = some (some (.builtin "object.__setattr__")))
    (mk_Ratio : PySem.W.makesIn K ca_Ratio = true)
    (kc_Ratio : PySem.W.keepIn K (.ref ca_Ratio) = true)
    (sf_Ratio : PySem.W.selfFirst K ca_Ratio = true)
    (ni_Ratio : PySem.W.subIn K (.ref ca_Ratio) (.type "int") = some false)
    (in_Ratio : PySem.W.subIn K (.type "int") (.ref ca_Ratio) = some false)
    (ne_Ratio : PySem.W.findIn K (.ref ca_Ratio) "__ne__" = some (some (.builtin "object.__ne__")))
    (cc_Ratio : PySem.W.findIn K (.ref ca_Ratio) "__class__" = some (some (.builtin "object.__class__")))
    (cm_Ratio : PySem.W.mroIn K ca_Ratio (.type "object") = some true)
    (n_Ratio_over : PySem.W.findIn K (.ref ca_Ratio) "over" = some none)
    (n_Ratio_under : PySem.W.findIn K (.ref ca_Ratio) "under" = some none)
    (ki_Ratio_Ratio : PySem.W.kitOne K (.ref ca_Ratio) (.ref ca_Ratio) = some true)
    (ki_int_Ratio : PySem.W.kitOne K (.type "int") (.ref ca_Ratio) = some false)
    (ki_tuple_Ratio : PySem.W.kitOne K (.type "tuple") (.ref ca_Ratio) = some false)
    (sb_BadNumber_BadNumber : PySem.W.subIn K (.ref ca_BadNumber) (.ref ca_BadNumber) = some true)
    (ex_tuNo_Ratio : PySem.W.subIn K (.type "tuple") (.ref ca_Ratio) = some false)
    (gi_gcd : PySem.W.nsIn K mainGlobals "gcd" = some (some (.builtin "math.gcd")))
    (mb_abs : PySem.W.nsIn K mainGlobals "abs" = some none)
    (mb_bool : PySem.W.nsIn K mainGlobals "bool" = some none)
    (mb_int : PySem.W.nsIn K mainGlobals "int" = some none)
    (mb_isinstance : PySem.W.nsIn K mainGlobals "isinstance" = some none)
    (mb_len : PySem.W.nsIn K mainGlobals "len" = some none)
    (mb_range : PySem.W.nsIn K mainGlobals "range" = some none)
    (mb_str : PySem.W.nsIn K mainGlobals "str" = some none) :
    ∃ fd : FuncData, (∀ (s : Shared) (v : Value), BindsTo s fd ⟨[v], []⟩ [("_law_script", v)]) ∧ ∀ base : Heap, K.In base → base.Ns mainGlobals mg → FnOk l.prog w K mg base CX0 9 fa fd ["_law_script"] (spLaw K) := by
  have e := hfa.symm.trans (PySem.W.mg_of X G a_law)
  cases e
  have FF_BadNumber_init := fun_mk (st := s_BadNumber_init) l_BadNumber_init cc_BadNumber_init kk_BadNumber_init
  have bb_BadNumber_init := FF_BadNumber_init.binds (ps := ["self", "what", "value"]) fun _ _ _ _ _ _ us hl => match us, hl with | [_, _, _], _ => rfl
  have FF_is_integer := fun_mk (st := s_is_integer) l_is_integer cc_is_integer kk_is_integer
  have bb_is_integer := FF_is_integer.binds (ps := ["value"]) fun _ _ _ _ _ _ us hl => match us, hl with | [_], _ => rfl
  have FF_check_number := fun_mk (st := s_check_number) l_check_number cc_check_number kk_check_number
  have bb_check_number := FF_check_number.binds (ps := ["what", "value", "low", "high"]) fun _ _ _ _ _ _ us hl => match us, hl with | [_, _, _, _], _ => rfl
  have FF_Ratio_init : FunD K "__init__" "Ratio.__init__" (defArgs s_Ratio_init) (defBody s_Ratio_init) (defScope s_Ratio_init) [.int 1] [] fa_Ratio_init _ := ⟨⟨_, _, _, _, _, _, _, _, _, _, rfl, l_Ratio_init, cc_Ratio_init, .inr ⟨by simp, dt_Ratio_init, dto_Ratio_init, _, dtn_Ratio_init, rfl, dl_Ratio_init, dd_Ratio_init, (.cons ⟨_, rfl⟩ .nil)⟩, .inl rfl⟩, kk_Ratio_init⟩
  obtain ⟨dv_Ratio_init1, vv_Ratio_init1, bb_Ratio_init1⟩ := FF_Ratio_init.binds1 (ps := ["self", "over", "under"]) 2 0 (by simp) (by simp) fun _ _ _ _ _ _ _ us its hl hi => match us, its, hl, hi with | [_, _], [_], _, _ => ⟨_, rfl, rfl⟩
  obtain ⟨dv_Ratio_init2, vv_Ratio_init2, bb_Ratio_init2⟩ := FF_Ratio_init.binds1 (ps := ["self", "over", "under"]) 3 1 (by simp) (by simp) fun _ _ _ _ _ _ _ us its hl hi => match us, its, hl, hi with | [_, _, _], [_], _, _ => ⟨_, rfl, rfl⟩
  have FF_ratio_of := fun_mk (st := s_ratio_of) l_ratio_of cc_ratio_of kk_ratio_of
  have bb_ratio_of := FF_ratio_of.binds (ps := ["value"]) fun _ _ _ _ _ _ us hl => match us, hl with | [_], _ => rfl
  have FF_Ratio_eq := fun_mk (st := s_Ratio_eq) l_Ratio_eq cc_Ratio_eq kk_Ratio_eq
  have bb_Ratio_eq := FF_Ratio_eq.binds (ps := ["self", "other"]) fun _ _ _ _ _ _ us hl => match us, hl with | [_, _], _ => rfl
  have FF_Ratio_str := fun_mk (st := s_Ratio_str) l_Ratio_str cc_Ratio_str kk_Ratio_str
  have bb_Ratio_str := FF_Ratio_str.binds (ps := ["self"]) fun _ _ _ _ _ _ us hl => match us, hl with | [_], _ => rfl
  have FF_Ratio_half := fun_mk (st := s_Ratio_half) l_Ratio_half cc_Ratio_half kk_Ratio_half
  have bb_Ratio_half := FF_Ratio_half.binds (ps := []) fun _ _ _ _ _ _ us hl => match us, hl with | [], _ => rfl
  have FF_l_start := fun_mk (st := s_l_start) l_l_start cc_l_start kk_l_start
  have bb_l_start := FF_l_start.binds (ps := ["_law_script"]) fun _ _ _ _ _ _ us hl => match us, hl with | [_], _ => rfl
  have FF_l_draw := fun_mk (st := s_l_draw) l_l_draw cc_l_draw kk_l_draw
  have bb_l_draw := FF_l_draw.binds (ps := ["_law_script", "_law_state", "_law_limit"]) fun _ _ _ _ _ _ us hl => match us, hl with | [_, _, _], _ => rfl
  have FF_l_made := fun_mk (st := s_l_made) l_l_made cc_l_made kk_l_made
  have bb_l_made := FF_l_made.binds (ps := ["_law_over", "_law_under"]) fun _ _ _ _ _ _ us hl => match us, hl with | [_, _], _ => rfl
  have FF_l_common := fun_mk (st := s_l_common) l_l_common cc_l_common kk_l_common
  have bb_l_common := FF_l_common.binds (ps := ["_law_first", "_law_second"]) fun _ _ _ _ _ _ us hl => match us, hl with | [_, _], _ => rfl
  have FF_law := fun_mk (st := s_law) l_law cc_law kk_law
  have bb_law := FF_law.binds (ps := ["_law_script"]) fun _ _ _ _ _ _ us hl => match us, hl with | [_], _ => rfl
  exact ⟨PySem.W.fnOf "law" "law" (defArgs s_law) (defBody s_law) (defScope s_law) .none kV_law dc_law pm_law an_law cd_law ct_law, fun s v => .of_eq rfl, fun base _ _ => ok_law (T := {
    c_VoteError := ca_VoteError,
    gc_VoteError := PySem.W.mg_of X G aC_VoteError,
    c_BadNumber := ca_BadNumber,
    gc_BadNumber := PySem.W.mg_of X G aC_BadNumber,
    c_Ratio := ca_Ratio,
    gc_Ratio := PySem.W.mg_of X G aC_Ratio,
    f_BadNumber_init := fa_BadNumber_init,
    fd_BadNumber_init := _,
    F_BadNumber_init := FF_BadNumber_init,
    b_BadNumber_init := bb_BadNumber_init,
    f_is_integer := fa_is_integer,
    fd_is_integer := _,
    F_is_integer := FF_is_integer,
    b_is_integer := bb_is_integer,
    g_is_integer := PySem.W.mg_of X G a_is_integer,
    f_check_number := fa_check_number,
    fd_check_number := _,
    F_check_number := FF_check_number,
    b_check_number := bb_check_number,
    g_check_number := PySem.W.mg_of X G a_check_number,
    f_Ratio_init := fa_Ratio_init,
    fd_Ratio_init := _,
    F_Ratio_init := FF_Ratio_init,
    d_Ratio_init1 := dv_Ratio_init1,
    v_Ratio_init1 := vv_Ratio_init1,
    b_Ratio_init1 := bb_Ratio_init1,
    d_Ratio_init2 := dv_Ratio_init2,
    v_Ratio_init2 := vv_Ratio_init2,
    b_Ratio_init2 := bb_Ratio_init2,
    f_ratio_of := fa_ratio_of,
    fd_ratio_of := _,
    F_ratio_of := FF_ratio_of,
    b_ratio_of := bb_ratio_of,
    g_ratio_of := PySem.W.mg_of X G a_ratio_of,
    f_Ratio_eq := fa_Ratio_eq,
    fd_Ratio_eq := _,
    F_Ratio_eq := FF_Ratio_eq,
    b_Ratio_eq := bb_Ratio_eq,
    me_Ratio_eq := ⟨a_Ratio_eq, i_Ratio_eq, kk_Ratio_eq⟩,
    f_Ratio_str := fa_Ratio_str,
    fd_Ratio_str := _,
    F_Ratio_str := FF_Ratio_str,
    b_Ratio_str := bb_Ratio_str,
    me_Ratio_str := ⟨a_Ratio_str, i_Ratio_str, kk_Ratio_str⟩,
    f_Ratio_half := fa_Ratio_half,
    fd_Ratio_half := _,
    F_Ratio_half := FF_Ratio_half,
    b_Ratio_half := bb_Ratio_half,
    sm_Ratio_half := ⟨rd_Ratio_half, sg_Ratio_half, _, _, sa1_Ratio_half, sa2_Ratio_half⟩,
    f_l_start := fa_l_start,
    fd_l_start := _,
    F_l_start := FF_l_start,
    b_l_start := bb_l_start,
    g_l_start := PySem.W.mg_of X G a_l_start,
    f_l_draw := fa_l_draw,
    fd_l_draw := _,
    F_l_draw := FF_l_draw,
    b_l_draw := bb_l_draw,
    g_l_draw := PySem.W.mg_of X G a_l_draw,
    f_l_made := fa_l_made,
    fd_l_made := _,
    F_l_made := FF_l_made,
    b_l_made := bb_l_made,
    g_l_made := PySem.W.mg_of X G a_l_made,
    f_l_common := fa_l_common,
    fd_l_common := _,
    F_l_common := FF_l_common,
    b_l_common := bb_l_common,
    g_l_common := PySem.W.mg_of X G a_l_common,
    f_law := fa,
    fd_law := _,
    F_law := FF_law,
    b_law := bb_law,
    g_law := PySem.W.mg_of X G a_law,
    ox_BadNumber := ⟨⟨_, _, _, _, _, _, _, _, _, _, _, _, _, _, _, xL_BadNumber, bm_ok_BadNumber⟩, sa_BadNumber, eC_BadNumber, tC_BadNumber, kC_BadNumber⟩,
    xn_BadNumber := a_BadNumber_init,
    xt_BadNumber := tI_BadNumber,
    xf_BadNumber := ⟨ga_BadNumber, gg_BadNumber, eC_BadNumber, hd_BadNumber⟩,
    xi_BadNumber := ⟨ic_BadNumber, ga_BadNumber, gg_BadNumber, eC_BadNumber, cc_BadNumber, cn_, ct_, cm_BadNumber⟩,
    n_BadNumber_what := n_BadNumber_what,
    n_BadNumber_value := n_BadNumber_value,
    oc_Ratio := ⟨sf_Ratio, PySem.W.ksp_first sf_Ratio, ni_Ratio, in_Ratio, ne_Ratio, cm_Ratio⟩,
    ic_Ratio := ⟨⟨pg_Ratio, hd_Ratio, po_Ratio, sa_Ratio⟩, cc_Ratio, cn_, ct_, cm_Ratio⟩,
    cl_Ratio := ⟨pg_Ratio, hd_Ratio, po_Ratio, sa_Ratio⟩,
    M_Ratio := ⟨mk_Ratio, a_Ratio_init, i_Ratio_init, kc_Ratio⟩,
    n_Ratio_over := n_Ratio_over,
    n_Ratio_under := n_Ratio_under,
    ki_Ratio_Ratio := ki_Ratio_Ratio,
    ki_int_Ratio := ki_int_Ratio,
    ki_tuple_Ratio := ki_tuple_Ratio,
    ex_BadNumber_BadNumber := exm_own eC_BadNumber ic_BadNumber tC_BadNumber sb_BadNumber_BadNumber,
    tuNo_Ratio := ex_tuNo_Ratio,
    gi_gcd := PySem.W.mg_of X G gi_gcd,
    m_abs := PySem.W.mg_none_of X G mb_abs,
    m_bool := PySem.W.mg_none_of X G mb_bool,
    m_int := PySem.W.mg_none_of X G mb_int,
    m_isinstance := PySem.W.mg_none_of X G mb_isinstance,
    m_len := PySem.W.mg_none_of X G mb_len,
    m_range := PySem.W.mg_none_of X G mb_range,
    m_str := PySem.W.mg_none_of X G mb_str })⟩
theorem walk {l : PySem.W.OpenLaw} {q : Program} {loose : List Str} {XP : (Str → Option Value) → Heap → Prop} {YP : World → Heap → Prop} {d : DefRec} {K : Params → PySem.W.Frag} (hn : l.most = some 63) (hdf : d.params.defaults = [])
    (hY : ∀ (w : World) (h : Heap), YP w h → (K w.params).In h)
    (F : ∀ (w : World) (mg : Str → Option Value) (fa : Addr) (h : Heap), (K w.params).In h → h.Ns mainGlobals mg → mg d.name = some (.ref fa) →
      ∃ fd : FuncData, (∀ (s : Shared) (u : Value), BindsTo s fd ⟨[u], []⟩ [("_law_script", u)]) ∧ ∀ base : Heap, (K w.params).In base → base.Ns mainGlobals mg → FnOk l.prog w (K w.params) mg base CX0 9 fa fd ["_law_script"] (spLaw (K w.params))) :
    PySem.W.WalkO q loose XP YP l.row.toRowW d [] (fun f vs => PySem.call f vs) :=
  L2.walk_of (n := 63) (k := 9) (x := "_law_script") (CX := fun _ => CX0) (sp := fun w => spLaw (K w.params)) hn (by decide) hdf ⟨rfl, by decide, by decide⟩ hY F (fun _ _ a ns hl _ hS => ⟨a, ns, rfl, hS, hl, fun _ => rfl⟩) fun _ _ _ _ _ z => z
end Cv
open PySem PySem.W PyProof.Rows
set_option maxRecDepth 100000 in
set_option maxHeartbeats 0 in
theorem PySem.Challenge.cw_copyvotes_k03_making_ratios_holds : PySem.Challenge.rw_copyvotes_k03_making_ratios.Holds := by
  w_on; o_law; k_head; (case hw => w_witness2)
  k_fill
  refine Cv.walk (l := PySem.Challenge.rw_copyvotes_k03_making_ratios) rfl rfl (fun w h Y => PySem.W.kIn_of Y) ?F
  case F =>
    intro w mg fa h KX G hmg
    refine' Cv.all_mk KX G hmg ?aC_VoteError ?aC_BadNumber ?aC_Ratio ?a_BadNumber_init ?l_BadNumber_init ?cc_BadNumber_init ?kk_BadNumber_init ?a_is_integer ?l_is_integer ?cc_is_integer ?kk_is_integer ?a_check_number ?l_check_number ?cc_check_number ?kk_check_number ?a_Ratio_init ?i_Ratio_init ?l_Ratio_init ?cc_Ratio_init ?kk_Ratio_init ?dl_Ratio_init ?dd_Ratio_init ?a_ratio_of ?l_ratio_of ?cc_ratio_of ?kk_ratio_of ?a_Ratio_eq ?i_Ratio_eq ?l_Ratio_eq ?cc_Ratio_eq ?kk_Ratio_eq ?a_Ratio_str ?i_Ratio_str ?l_Ratio_str ?cc_Ratio_str ?kk_Ratio_str ?rd_Ratio_half ?sg_Ratio_half ?sa1_Ratio_half ?sa2_Ratio_half ?l_Ratio_half ?cc_Ratio_half ?kk_Ratio_half ?a_l_start ?l_l_start ?cc_l_start ?kk_l_start ?a_l_draw ?l_l_draw ?cc_l_draw ?kk_l_draw ?a_l_made ?l_l_made ?cc_l_made ?kk_l_made ?a_l_common ?l_l_common ?cc_l_common ?kk_l_common ?a_law ?l_law ?cc_law ?kk_law ?xL_BadNumber ?bm_ok_BadNumber ?sa_BadNumber ?eC_BadNumber ?tC_BadNumber ?kC_BadNumber ?tI_BadNumber ?ga_BadNumber ?gg_BadNumber ?hd_BadNumber ?ic_BadNumber ?cc_BadNumber ?cm_BadNumber ?n_BadNumber_what ?n_BadNumber_value ?cn_ ?ct_ ?pg_Ratio ?hd_Ratio ?po_Ratio ?sa_Ratio ?mk_Ratio ?kc_Ratio ?sf_Ratio ?ni_Ratio ?in_Ratio ?ne_Ratio ?cc_Ratio ?cm_Ratio ?n_Ratio_over ?n_Ratio_under ?ki_Ratio_Ratio ?ki_int_Ratio ?ki_tuple_Ratio ?sb_BadNumber_BadNumber ?ex_tuNo_Ratio ?gi_gcd ?mb_abs ?mb_bool ?mb_int ?mb_isinstance ?mb_len ?mb_range ?mb_str
    (case aC_VoteError => k_is)
    (case aC_BadNumber => k_is)
    (case aC_Ratio => k_is)
    (case a_BadNumber_init => k_is)
    (case l_BadNumber_init => k_is)
    (case cc_BadNumber_init => k_is)
    (case kk_BadNumber_init => k_is)
    (case a_is_integer => k_is)
    (case l_is_integer => k_is)
    (case cc_is_integer => k_is)
    (case kk_is_integer => k_is)
    (case a_check_number => k_is)
    (case l_check_number => k_is)
    (case cc_check_number => k_is)
    (case kk_check_number => k_is)
    (case a_Ratio_init => k_is)
    (case i_Ratio_init => k_is)
    (case l_Ratio_init => k_is)
    (case cc_Ratio_init => k_is)
    (case kk_Ratio_init => k_is)
    (case dl_Ratio_init => k_is)
    (case dd_Ratio_init => rfl)
    (case a_ratio_of => k_is)
    (case l_ratio_of => k_is)
    (case cc_ratio_of => k_is)
    (case kk_ratio_of => k_is)
    (case a_Ratio_eq => k_is)
    (case i_Ratio_eq => k_is)
    (case l_Ratio_eq => k_is)
    (case cc_Ratio_eq => k_is)
    (case kk_Ratio_eq => k_is)
    (case a_Ratio_str => k_is)
    (case i_Ratio_str => k_is)
    (case l_Ratio_str => k_is)
    (case cc_Ratio_str => k_is)
    (case kk_Ratio_str => k_is)
    (case rd_Ratio_half => k_is)
    (case sg_Ratio_half => k_is)
    (case sa1_Ratio_half => k_is)
    (case sa2_Ratio_half => k_is)
    (case l_Ratio_half => k_is)
    (case cc_Ratio_half => k_is)
    (case kk_Ratio_half => k_is)
    (case a_l_start => k_is)
    (case l_l_start => k_is)
    (case cc_l_start => k_is)
    (case kk_l_start => k_is)
    (case a_l_draw => k_is)
    (case l_l_draw => k_is)
    (case cc_l_draw => k_is)
    (case kk_l_draw => k_is)
    (case a_l_made => k_is)
    (case l_l_made => k_is)
    (case cc_l_made => k_is)
    (case kk_l_made => k_is)
    (case a_l_common => k_is)
    (case l_l_common => k_is)
    (case cc_l_common => k_is)
    (case kk_l_common => k_is)
    (case a_law => k_is)
    (case l_law => k_is)
    (case cc_law => k_is)
    (case kk_law => k_is)
    (case xL_BadNumber => k_is)
    (case bm_ok_BadNumber => decide +kernel)
    (case sa_BadNumber => k_is)
    (case eC_BadNumber => k_is)
    (case tC_BadNumber => k_is)
    (case kC_BadNumber => k_is)
    (case tI_BadNumber => k_is)
    (case ga_BadNumber => k_is)
    (case gg_BadNumber => k_is)
    (case hd_BadNumber => k_is)
    (case ic_BadNumber => k_is)
    (case cc_BadNumber => k_is)
    (case cm_BadNumber => k_is)
    (case n_BadNumber_what => k_is)
    (case n_BadNumber_value => k_is)
    (case cn_ => k_is)
    (case ct_ => k_is)
    (case pg_Ratio => k_is)
    (case hd_Ratio => k_is)
    (case po_Ratio => k_is)
    (case sa_Ratio => k_is)
    (case mk_Ratio => k_is)
    (case kc_Ratio => k_is)
    (case sf_Ratio => k_is)
    (case ni_Ratio => k_is)
    (case in_Ratio => k_is)
    (case ne_Ratio => k_is)
    (case cc_Ratio => k_is)
    (case cm_Ratio => k_is)
    (case n_Ratio_over => k_is)
    (case n_Ratio_under => k_is)
    (case ki_Ratio_Ratio => kit_is)
    (case ki_int_Ratio => kit_is)
    (case ki_tuple_Ratio => kit_is)
    (case sb_BadNumber_BadNumber => k_is)
    (case ex_tuNo_Ratio => k_is)
    (case gi_gcd => k_is)
    (case mb_abs => k_is)
    (case mb_bool => k_is)
    (case mb_int => k_is)
    (case mb_isinstance => k_is)
    (case mb_len => k_is)
    (case mb_range => k_is)
    (case mb_str => k_is)

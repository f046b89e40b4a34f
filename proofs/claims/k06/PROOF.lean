import PyProof.Rows.All
import Wide.All
import OpenK.AllK
import Wide.FinOn
import KE.RegKIsAll
import KE.KExcIs
import KE.KOpsOwn
import KE.KCallOwn
import HandS.ForSpec
import HandS.ExcInit
import HandS.ExcField
import HandS.IsInst
import HandS.Style
import HandS.Evl
import HandS.OwnEq
import HandS.Wide
import HandS.Gcd
import HandS.Defaults
import HandS.Comp
import HandS.FStr
import HandS.Text
import HandS.StrMore
import HandS.Walk
import HandS.NoneIn
import HandS.ClsMeth
import PySem.Challenge.RW_copyvotes_k06_reading_ratios
set_option Elab.async false
set_option linter.all false
set_option maxRecDepth 100000
set_option maxHeartbeats 4000000

namespace Cv
open PySem PySem.Spec PyProof.Rows L2
def topS (i : Nat) : Stmt := PySem.Challenge.pw_copyvotes_k06_reading_ratios.main.body.getD i (.Pass ⟨0, 0, 0, 0⟩)
abbrev s_BadNumber_init : Stmt := inClass (topS 4) 0
theorem sc_BadNumber_init : FnScope ["self", "what", "value"] ["self", "what", "value"] (defScope s_BadNumber_init) := ⟨rfl, rfl, rfl, by decide +kernel, rfl, by decide +kernel, by decide +kernel⟩
abbrev s_is_integer : Stmt := topS 7
theorem sc_is_integer : FnScope ["value"] ["value"] (defScope s_is_integer) := ⟨rfl, rfl, rfl, by decide +kernel, rfl, by decide +kernel, by decide +kernel⟩
abbrev s_check_number : Stmt := topS 8
theorem sc_check_number : FnScope ["what", "value", "low", "high"] ["what", "value", "low", "high"] (defScope s_check_number) := ⟨rfl, rfl, rfl, by decide +kernel, rfl, by decide +kernel, by decide +kernel⟩
abbrev s_is_number : Stmt := topS 9
theorem sc_is_number : FnScope ["text"] ["text"] (defScope s_is_number) := ⟨rfl, rfl, rfl, by decide +kernel, rfl, by decide +kernel, by decide +kernel⟩
abbrev s_Ratio_init : Stmt := inClass (topS 11) 0
theorem sc_Ratio_init : FnScope ["self", "over", "under", "divisor"] ["self", "over", "under"] (defScope s_Ratio_init) := ⟨rfl, rfl, rfl, by decide +kernel, rfl, by decide +kernel, by decide +kernel⟩
abbrev s_ratio_of : Stmt := topS 12
theorem sc_ratio_of : FnScope ["value"] ["value"] (defScope s_ratio_of) := ⟨rfl, rfl, rfl, by decide +kernel, rfl, by decide +kernel, by decide +kernel⟩
abbrev s_read_ratio : Stmt := topS 13
theorem sc_read_ratio : FnScope ["text", "over", "slash", "under"] ["text"] (defScope s_read_ratio) := ⟨rfl, rfl, rfl, by decide +kernel, rfl, by decide +kernel, by decide +kernel⟩
abbrev s_Ratio_eq : Stmt := inClass (topS 11) 1
theorem sc_Ratio_eq : FnScope ["self", "other"] ["self", "other"] (defScope s_Ratio_eq) := ⟨rfl, rfl, rfl, by decide +kernel, rfl, by decide +kernel, by decide +kernel⟩
abbrev s_Ratio_str : Stmt := inClass (topS 11) 12
theorem sc_Ratio_str : FnScope ["self"] ["self"] (defScope s_Ratio_str) := ⟨rfl, rfl, rfl, by decide +kernel, rfl, by decide +kernel, by decide +kernel⟩
abbrev s_l_start : Stmt := topS 15
theorem sc_l_start : FnScope ["_law_script", "_law_first"] ["_law_script"] (defScope s_l_start) := ⟨rfl, rfl, rfl, by decide +kernel, rfl, by decide +kernel, by decide +kernel⟩
abbrev s_l_draw : Stmt := topS 16
theorem sc_l_draw : FnScope ["_law_script", "_law_state", "_law_limit", "_law_number_here", "_law_cell", "_law_mixed"] ["_law_script", "_law_state", "_law_limit"] (defScope s_l_draw) := ⟨rfl, rfl, rfl, by decide +kernel, rfl, by decide +kernel, by decide +kernel⟩
abbrev s_l_told : Stmt := topS 17
theorem sc_l_told : FnScope ["_law_text", "e"] ["_law_text"] (defScope s_l_told) := ⟨rfl, rfl, rfl, by decide +kernel, rfl, by decide +kernel, by decide +kernel⟩
abbrev s_l_number : Stmt := topS 18
theorem sc_l_number : FnScope ["_law_text", "_law_number_here", "_law_sign", "_law_at"] ["_law_text"] (defScope s_l_number) := ⟨rfl, rfl, rfl, by decide +kernel, rfl, by decide +kernel, by decide +kernel⟩
abbrev s_l_due : Stmt := topS 19
theorem sc_l_due : FnScope ["_law_text", "_law_parts", "_law_part"] ["_law_text"] (defScope s_l_due) := ⟨rfl, rfl, rfl, by decide +kernel, rfl, by decide +kernel, by decide +kernel⟩
abbrev s_law : Stmt := topS 20
theorem sc_law : FnScope ["_law_script", "_law_state", "_law_k", "_law_text", "_law_at", "_law_signs", "_law_made"] ["_law_script"] (defScope s_law) := ⟨rfl, rfl, rfl, by decide +kernel, rfl, by decide +kernel, by decide +kernel⟩
/-! ## What every law's text wants: heaps, exceptions, the draws -/
theorem same_upd {H : Hp} {p : Addr} {o : HO} (h : H p = none) : Same H (upd H p o) := fun b x e => by
  rw [upd_ne (ne_of_none e h)]
  exact e
theorem same_upd2 {H H' : Hp} {p : Addr} {o : HO} (e : Same H H') (h : H p = none) : Same H (upd H' p o) := fun b x k => by
  rw [upd_ne (ne_of_none k h)]
  exact e b x k
/-- an except clause that names an own class -/
theorem exm_own {K : PySem.W.Frag} {cls : Value} {S : Addr} {b : Bool} (h1 : PySem.W.subIn K (.ref S) (.type "BaseException") = some true) (h2 : PySem.W.isClsIn K S = true) (h3 : PySem.W.typeIn K (.ref S) = some (.type "type")) (h4 : PySem.W.subIn K cls (.ref S) = some b) :
    PySem.W.exmOne K cls (.ref S) = some b := by
  have e1 : (PySem.W.subIn K (.ref S) (.type "BaseException") == some true) = true := by rw [h1] <;> rfl
  have e2 : ((PySem.W.clsIn K S).isSome && PySem.W.typeIn K (.ref S) == some (.type "type")) = true := by
    have h2' : (PySem.W.clsIn K S).isSome = true := h2
    rw [h2', h3] <;> rfl
  show (if (PySem.W.subIn K (.ref S) (.type "BaseException") == some true) = true then (if ((PySem.W.clsIn K S).isSome && PySem.W.typeIn K (.ref S) == some (.type "type")) = true then PySem.W.subIn K cls (.ref S) else none) else none) = some b
  rw [if_pos e1, if_pos e2]
  exact h4
/-- what isinstance asks of an own exception class -/
structure XiC (K : PySem.W.Frag) (C : Addr) : Prop where
  cl : PySem.W.isClsIn K C = true
  ga : PySem.W.findIn K (.ref C) "__getattribute__" = some (some (.builtin "BaseException.__getattribute__"))
  gg : PySem.W.findIn K (.ref C) "__getattr__" = some none
  sb : PySem.W.subIn K (.ref C) (.type "BaseException") = some true
  ha : PySem.W.findIn K (.ref C) "__class__" = some (some (.builtin "object.__class__"))
  hn : PySem.W.specialIn K (.builtin "object.__class__") "__get__" = some (some (.builtin "getset_descriptor.__get__"))
  ht : PySem.W.takesIn K (.builtin "object.__class__") = some true
  hm : PySem.W.mroIn K C (.type "object") = some true
/-- isinstance(e, c) within the suite that holds e, an error with its own dict -/
def rIsX (K : PySem.W.Frag) (a C : Addr) (cls : Value) (d : Option Addr) : List V → Hp → VK → Prop := fun xs H Q => ∃ (c : V) (cv : Value) (b : Bool) (dd : Addr) (fs : List (Str × V)), xs = [.ref a, c] ∧ cls = .ref C ∧ d = some dd ∧ H dd = some (.xd fs) ∧ ClsV c cv ∧ PySem.W.kitOne K (.ref C) cv = some b ∧ Q (.bl b) H
theorem call_isX {X : Cx} {a C : Addr} {oe : Obj} {cls : Value} {d : Option Addr} {pn : List (Addr × Obj)} (T : XiC X.K C) (hz : Zc cls d oe) (hf : ∃ vs, oe.data = .fields vs) : CallR (X.suite a ((a, oe) :: pn)) (.builtin "isinstance") (rIsX X.K a C cls d) := by
  intro pins s σ H xs us Q I r h
  obtain ⟨c, cv, b, dd, fs, rfl, rfl, rfl, ea, hcv, e, q⟩ := h
  obtain ⟨u1, u2, rfl, r1, r2⟩ := vals2 r
  cases (show u1 = Value.ref a from r1)
  have ec := hcv.eq r2
  subst ec
  obtain ⟨ha, _⟩ := I.pin (a, oe) (List.mem_append_left _ List.mem_cons_self)
  obtain ⟨vs, hd⟩ := hf
  have hx : ObjOk X.prog X.w H s.heap dd (.xd fs) := I.hok dd _ ea
  obtain ⟨mA, hns, hr⟩ := hx
  obtain ⟨od, ho, hl⟩ := lookIn_ns hns
  have J : PySem.W.InstAt s.heap a oe C (some od) := ⟨ha, hz.1, by unfold PySem.W.notCls; rw [hd] <;> rfl, by rw [hz.2]; exact ho⟩
  exact PySem.W.kia_one (PySem.W.kitx_exc T.cl T.ga T.gg T.sb T.ha T.hn T.ht T.hm) I.kIn J e (fun z => nomatch z) fun tk => ⟨.bl b, H, I.kept (t' := tk) fun _ _ z => z, rfl, q⟩
/-! ### the state of the draws -/
def St4 (H : Hp) (t : Addr) : Prop := ∃ a b c d : Int, H t = some (.lst [.int a, .int b, .int c, .int d])
/-- H0: the heap of old, t: the state's list, l: the script -/
structure Drw (K : PySem.W.Frag) (H0 : Hp) (l t : Addr) (H : Hp) : Prop where
  scr : ∃ ns : List Int, SqL K H0 l (ns.map V.int)
  new : H0 t = none
  same : Same H0 H
  st : St4 H t
theorem Drw.sc {K : PySem.W.Frag} {H0 H : Hp} {l t : Addr} (D : Drw K H0 l t H) : ∃ ns : List Int, SqL K H l (ns.map V.int) := by
  obtain ⟨ns, h⟩ := D.scr
  exact ⟨ns, D.same.seq h⟩
theorem Drw.upd {K : PySem.W.Frag} {H0 H : Hp} {l t : Addr} {a b c d : Int} (D : Drw K H0 l t H) : Drw K H0 l t (upd H t (.lst [.int a, .int b, .int c, .int d])) :=
  ⟨D.scr, D.new, same_upd2 D.same D.new, ⟨a, b, c, d, upd_same⟩⟩
theorem Drw.mono {K : PySem.W.Frag} {H0 H H' : Hp} {l t : Addr} (D : Drw K H0 l t H) (e : Same H H') : Drw K H0 l t H' := by
  obtain ⟨a, b, c, d, h⟩ := D.st
  exact ⟨D.scr, D.new, D.same.trans e, ⟨a, b, c, d, e _ _ h⟩⟩
/-- all but what stands at t -/
def But (t : Addr) (H H' : Hp) : Prop := ∀ b, b ≠ t → H' b = H b
theorem But.refl {t : Addr} {H : Hp} : But t H H := fun _ _ => rfl
theorem But.trans {t : Addr} {H H1 H2 : Hp} (a : But t H H1) (b : But t H1 H2) : But t H H2 := fun c h => (b c h).trans (a c h)
theorem But.upd {t : Addr} {H H1 : Hp} {o : HO} (a : But t H H1) : But t H (upd H1 t o) := fun c h => (upd_ne h).trans (a c h)
def spStart (K : PySem.W.Frag) : Sp := fun vs H Q _ => ∃ (l : Addr) (ns : List Int), vs = [.ref l] ∧ SqL K H l (ns.map V.int) ∧ ∀ t H', H t = none → Drw K H l t H' → But t H H' → Q (.ref t) H'
def spDraw (K : PySem.W.Frag) : Sp := fun vs H Q _ => ∃ (l t : Addr) (m : Int) (H0 : Hp), vs = [.ref l, .ref t, .int m] ∧ Drw K H0 l t H ∧ 0 < m ∧ m < 1073741824 ∧ ∀ (v : Int) H', 0 ≤ v → v < m → But t H H' → Drw K H0 l t H' → Q (.int v) H'
theorem at0 {a b c d : V} : atI [a, b, c, d] 0 = some a := rfl
theorem at1 {a b c d : V} : atI [a, b, c, d] 1 = some b := rfl
theorem at2 {a b c d : V} : atI [a, b, c, d] 2 = some c := rfl
theorem at3 {a b c d : V} : atI [a, b, c, d] 3 = some d := rfl
/-- the plain steps of a reading -/
local macro_rules | `(tactic| walk_at "rd") => `(tactic| repeat (first | refine ⟨_, rfl, ?_⟩ | refine ⟨_, _, rfl, rfl, ?_⟩ | refine ⟨⟨by decide, by decide⟩, ?_⟩ | refine ⟨⟨by decide, by decide, by decide⟩, ?_⟩ | refine ⟨show (0 : Int) < _ by decide, ?_⟩))
/-! ### data, errors, numbers -/
theorem Same.seqT {K : PySem.W.Frag} {H H' : Hp} {a : Addr} {xs : List V} (e : Same H H') (h : SqT K H a xs) : SqT K H' a xs := by
  rcases h with (h | ⟨o, h⟩) | h
  · exact .inl (.inl (e _ _ h))
  · exact .inl (.inr ⟨o, e _ _ h⟩)
  · exact .inr h
mutual
theorem dp_same {K : PySem.W.Frag} {H H' : Hp} (e : Same H H') : ∀ {v : V} {d : PyData}, Dp K H v d → Dp K H' v d
  | _, _, .non => .non
  | _, _, .bl b => .bl b
  | _, _, .int i => .int i
  | _, _, .str x => .str x
  | _, _, .lst h a => .lst (e.seq h) (dps_same e a)
  | _, _, .tup h a => .tup (Same.seqT e h) (dps_same e a)
theorem dps_same {K : PySem.W.Frag} {H H' : Hp} (e : Same H H') : ∀ {vs : List V} {ds : List PyData}, DpAll K H vs ds → DpAll K H' vs ds
  | _, _, .nil => .nil
  | _, _, .cons h a => .cons (dp_same e h) (dps_same e a)
end
theorem ne_self {d : PyData} (h : SeqAt.shaped d = true) : (!PyData.eqv d d) = false := by
  rw [SeqAt.eqv_refl d (SeqAt.canLay_of_shaped h)] <;> rfl
theorem eq_self {d : PyData} (h : SeqAt.shaped d = true) : PyData.eqv d d = true := SeqAt.eqv_refl d (SeqAt.canLay_of_shaped h)
/-- an error of two fields, being made -/
def spX2 (C : Addr) (f1 f2 : Str) : Sp := fun vs H Q _ => ∃ (a : Addr) (x y : V), vs = [.ref a, x, y] ∧ H a = some (exo a C none) ∧
  ∀ d, H d = none → d ≠ a → Q .non (upd (upd (upd H d (exd d [(f1, x)])) a (exo a C (some d))) d (exd d [(f2, y), (f1, x)]))
theorem mk2 {C : Addr} {f1 f2 : Str} {H1 : Hp} {x y : V} {Q : XK} (h : ∀ d H', H1 d = none → Same H1 H' → H' d = some (.xd [(f2, y), (f1, x)]) → Q (.ref C) (some d) H') :
    ([x, y] : List V).length ≤ 1000 ∧ ∀ a, H1 a = none → spX2 C f1 f2 (.ref a :: ([x, y] ++ [])) (upd H1 a (exo a C none)) (fun v H2 => v = .non ∧ ∃ (d : Addr) (fs : List (Str × V)), H2 a = some (exo a C (some d)) ∧ H2 d = some (exd d fs) ∧ H1 d = none ∧ Q (.ref C) (some d) (upd (del H2 a) d (.xd fs))) (fun _ _ _ => False) := by
  refine ⟨by show 2 ≤ 1000; decide, fun a ha => ⟨a, x, y, rfl, upd_same, fun d hd hda => ⟨rfl, d, _, ?_, upd_same, ?_, ?_⟩⟩⟩
  · rw [upd_ne (Ne.symm hda), upd_same]
  · rw [upd_ne hda] at hd
    exact hd
  · have hd1 : H1 d = none := by
      rw [upd_ne hda] at hd
      exact hd
    refine h d _ hd1 (fun b o e => ?_) upd_same
    have hba : b ≠ a := ne_of_none e ha
    have hbd : b ≠ d := ne_of_none e hd1
    rw [upd_ne hbd, del_ne hba, upd_ne hbd, upd_ne hba, upd_ne hbd, upd_ne hba]
    exact e
/-- what is an integer -/
def isInt : V → Bool
  | .int _ => true
  | _ => false
/-- a value that isinstance can ask -/
def Kn (K : PySem.W.Frag) (H : Hp) (x : V) : Prop := ∃ t b1 b2, TyX K H x t ∧ PySem.W.kitOne K t (.type "int") = some b1 ∧ (b1 = true → PySem.W.kitOne K t (.type "bool") = some b2) ∧ (b1 && !b2) = isInt x
theorem kn_int {K : PySem.W.Frag} {H : Hp} (i : Int) : Kn K H (.int i) := ⟨_, true, false, .base (.int i), kit_ty (by decide +kernel), fun _ => kit_ty (by decide +kernel), rfl⟩
theorem kn_bl {K : PySem.W.Frag} {H : Hp} (b : Bool) : Kn K H (.bl b) := ⟨_, true, true, .base (.bl b), kit_ty (by decide +kernel), fun _ => kit_ty (by decide +kernel), rfl⟩
theorem kn_non {K : PySem.W.Frag} {H : Hp} : Kn K H .non := ⟨_, false, false, .base .non, kit_ty (by decide +kernel), fun z => (nomatch z), rfl⟩
theorem kn_str {K : PySem.W.Frag} {H : Hp} (x : Str) : Kn K H (.str x) := ⟨_, false, false, .base (.str x), kit_ty (by decide +kernel), fun z => (nomatch z), rfl⟩
theorem kn_tup {K : PySem.W.Frag} {H : Hp} {a : Addr} {xs : List V} (e : H a = some (.tup xs)) : Kn K H (.ref a) := ⟨_, false, false, .base (.tup e), kit_ty (by decide +kernel), fun z => (nomatch z), rfl⟩
def spIsInt (K : PySem.W.Frag) : Sp := fun vs H Q _ => ∃ x, vs = [x] ∧ Kn K H x ∧ Q (.bl (isInt x)) H
def oV : Option Int → V
  | none => .non
  | some i => .int i
/-- within the bounds -/
def good (x : V) (lo hi : Option Int) : Bool := match x with
  | .int i => lo.all (fun l => decide (l ≤ i)) && hi.all (fun h => decide (i ≤ h))
  | _ => false
def spCheck (K : PySem.W.Frag) (C : Addr) : Sp := fun vs H Q E => ∃ (w : Str) (x : V) (lo hi : Option Int), vs = [.str w, x, oV lo, oV hi] ∧ Kn K H x ∧ (good x lo hi = true → Q x H) ∧
  (good x lo hi = false → ∀ d H', H d = none → Same H H' → H' d = some (.xd [("value", x), ("what", .str w)]) → E (.ref C) (some d) H')
/-- subscripts whose written part is named (within a comprehension) -/
theorem ixK_list {X : Cx} {K : PySem.W.Frag} (h : X.K = K) : IxR X (rIxL K) := h ▸ ix_list
theorem ixK_tup {X : Cx} {K : PySem.W.Frag} (h : X.K = K) : IxR X (rIxT K) := h ▸ ix_tup
/-- a field, the written part named (within a try) -/
theorem pe_fldK {X : Cx} {K : PySem.W.Frag} {e : Expr} {f : Str} {pos : Pos} {ta : TE} (h : X.K = K) (he : PE X e ta) (hb : attributeBase e f X.env (eval e X.env) = eval e X.env) : PE X (.Attribute e f pos) (tFld K ta f) := h ▸ pe_fld he hb
/-! ### operators of an own class: x op y, x op int, int op x, !=, str -/
section
variable {prog : Program} {w : World} {A : Around} {E : Value → Shared → Prop} {s : Shared} {K : PySem.W.Frag} {x C f : Addr} {ox : Obj} {od : Option Obj}
theorem bin_declines {nm : String} {g : Int → Int → Sem Fin} {n : Int} {t : Tok} {Q : Fin → Shared → Prop} {R : Value → Shared → Prop} (hs : slotArgs nm 1 ⟨[.int n t, .ref x], []⟩ = pure (.int n t, [.ref x]))
    (hx : s.heap.get? x = some ox) (hp : ∀ v, ox.data ≠ .prim v) (h : Q (.done (.ret .notImplemented)) s) :
    wpAny (model prog w) A (Builtin.Int.intBinary nm g false ⟨[.int n t, .ref x], []⟩) Q R s := by
  unfold Builtin.Int.intBinary
  refine wpAny_bind (wpAny_of_eq (a := ((Value.int n t, [Value.ref x]) : Value × List Value)) hs ?_)
  dsimp only
  unfold Builtin.Int.intOfSelf asInt?
  refine wpAny_bind (wpAny_bind (wpAny_pure ?_))
  dsimp only
  refine wpAny_pure (wpAny_bind ?_)
  show wpAny _ _ (load x >>= _) _ _ _
  refine wpAny_bind (wpAny_load hx ?_)
  have fin : wpAny (model prog w) A (do rule "int.binary.not-an-int"; ret Value.notImplemented) Q R s := wpAny_bind (wpAny_rule (wpAny_pure h))
  cases e : ox.data with
  | prim v => exact absurd e (hp v)
  | _ => exact wpAny_pure fin
/-- int's slot with an instance on the right declines -/
theorem int_try {name : Str} {id nm : String} {g : Int → Int → Sem Fin} {n : Int} {t : Tok} {Q : Value → Shared → Prop} (slot : Slot "int" name id) (entry : entryFor table id = some (Builtin.Int.intBinary nm g false)) (args : argsOk id ⟨[.int n t, .ref x], []⟩)
    (hs : slotArgs nm 1 ⟨[.int n t, .ref x], []⟩ = pure (.int n t, [.ref x])) (hx : s.heap.get? x = some ox) (hp : ∀ v, ox.data ≠ .prim v) (h : Q .notImplemented s) : wpAny (model prog w) A (call (.builtin id) [.int n t, .ref x]) Q E s :=
  GQ.call_here slot (typeIs_int s n t) entry args (bin_declines hs hx hp h)
theorem refl_bin {op : Operator} {id nm : String} {g : Int → Int → Sem Fin} {n : Int} {t : Tok} {fr : Addr} {cd : ClassData} {rest : List Value} {Q : Value → Shared → Prop} (X : K.In s.heap) (I : PySem.W.InstAt s.heap x ox C od)
    (slot : Slot "int" (PySem.dunder op.info.2) id) (entry : entryFor table id = some (Builtin.Int.intBinary nm g false)) (args : argsOk id ⟨[.int n t, .ref x], []⟩) (hs : slotArgs nm 1 ⟨[.int n t, .ref x], []⟩ = pure (.int n t, [.ref x])) (hp : ∀ v, ox.data ≠ .prim v)
    (hfI : fillsNumberSlot (.type "int") op.info.2 = pure true) (hcd : PySem.W.clsIn K C = some cd) (hm : cd.mro = .ref C :: rest) (hf : PySem.W.findIn K (.ref C) (PySem.dunder op.info.2) = some (some (.ref f))) (hsub : PySem.W.subIn K (.ref C) (.type "int") = some false)
    (hr : PySem.W.findIn K (.ref C) (dunderR op.info.2) = some (some (.ref fr))) (hfn : PySem.W.isFn K (.ref fr) = true) (h : wpAny (model prog w) A (call (.ref fr) [.ref x, .int n t]) (PySem.W.CmpBack Q) E s) :
    wpAny (model prog w) A (binaryOp op (.int n t) (.ref x)) Q E s := by
  rcases hi : op.info with ⟨sym, nm'⟩
  rw [hi] at slot hfI hf hr
  dsimp only at slot hfI hf hr
  simp only [binaryOp, hi]
  refine wpAny_holding (wpAny_bind ?_)
  unfold binaryOp1
  have hne : (Value.type "int" == Value.ref C) = false := Bool.eq_false_iff.mpr fun q => by cases beq_iff_eq.mp q
  refine wpAny_bind (wpAny_typeOf (typeIs_int s n t) (wpAny_bind (I.type.here (wpAny_bind (wpAny_of_eq hfI ?_)))))
  simp only [hne, Bool.false_eq_true, if_false]
  refine wpAny_bind ((PySem.W.fills_K X hcd hm hf).here ?_)
  simp only [Bool.and_self, if_true]
  refine wpAny_bind ((PySem.W.looks_subIn X hsub).here ?_)
  have hpy : numberSlotInPython (.type "int") nm' = pure false := rfl
  simp only [Bool.false_eq_true, if_false, pure_bind, Bool.not_false, Bool.and_self, if_true, hpy]
  refine wpAny_bind (wpAny_tryMethod_declines (typeIs_int s n t) slot (int_try slot entry args hs I.1 hp ⟨rfl, ?_⟩))
  refine wpAny_bind (wpAny_mono (PySem.W.ksp_try X I hr hfn h) (fun r s' z => ?_) fun _ _ e => e)
  obtain ⟨v, rfl, hq⟩ := z
  exact wpAny_bind (wpAny_rule (wpAny_pure (wpAny_pure hq)))
theorem cmp_try {name : Str} {b : Value} {Q : Value → Shared → Prop} (X : K.In s.heap) (I : PySem.W.InstAt s.heap x ox C od) (hs : PySem.W.findIn K (.ref C) name = some (some (.ref f))) (hf : PySem.W.isFn K (.ref f) = true)
    (h : wpAny (model prog w) A (call (.ref f) [.ref x, b]) (PySem.W.CmpBack Q) E s) : wpAny (model prog w) A (tryCompare (.ref x) name b) (fun r s' => ∃ v, r = some v ∧ Q v s') E s := by
  unfold tryCompare
  refine wpAny_bind (PySem.W.ifBound_K X I hs hf (wpAny_mono h (fun v s' hv => ?_) fun _ _ e => e))
  cases v <;> first | exact hv.elim | exact wpAny_pure ⟨_, rfl, hv⟩
theorem refl_cmp {op : CmpOp} {id nm : String} {g : Int → Int → Sem Fin} {n : Int} {t : Tok} {fr : Addr} {Q : Value → Shared → Prop} (hu : A.units < cLine) (X : K.In s.heap) (I : PySem.W.InstAt s.heap x ox C od)
    (slot : Slot "int" (cmpInfo op).2.1 id) (entry : entryFor table id = some (Builtin.Int.intBinary nm g false)) (args : argsOk id ⟨[.int n t, .ref x], []⟩) (hs : slotArgs nm 1 ⟨[.int n t, .ref x], []⟩ = pure (.int n t, [.ref x])) (hp : ∀ v, ox.data ≠ .prim v)
    (hot : oneThing? op (.int n t) (.ref x) = none) (hsub : PySem.W.subIn K (.ref C) (.type "int") = some false)
    (hr : PySem.W.findIn K (.ref C) (cmpInfo op).2.2 = some (some (.ref fr))) (hfn : PySem.W.isFn K (.ref fr) = true) (h : wpAny (model prog w) A (call (.ref fr) [.ref x, .int n t]) (PySem.W.CmpBack Q) E s) :
    wpAny (model prog w) A (richCompare op (.int n t) (.ref x)) Q E s := by
  unfold richCompare
  rw [hot]
  have hne : (Value.type "int" != Value.ref C) = true := by
    have q : (Value.type "int" == Value.ref C) = false := Bool.eq_false_iff.mpr fun q => by cases beq_iff_eq.mp q
    rw [bne, q] <;> rfl
  refine wpAny_holding (wpAny_bind (wpAny_cRoomFor hu ?_))
  dsimp only
  refine wpAny_bind (wpAny_typeOf (typeIs_int s n t) (wpAny_bind (I.type.here ?_)))
  rw [hne]
  simp only [if_true]
  refine wpAny_bind ((PySem.W.looks_subIn X hsub).here ?_)
  simp only [Bool.false_eq_true, if_false, Bool.not_false, if_true]
  have one : ∀ {Q' : Option Value → Shared → Prop}, Q' none s → wpAny (model prog w) A (tryCompare (.int n t) (cmpInfo op).2.1 (.ref x)) Q' E s := fun {Q'} q => by
    unfold tryCompare
    exact wpAny_bind (wpAny_callSpecialIfBound?_slot (typeIs_int s n t) slot (int_try slot entry args hs I.1 hp (wpAny_pure q)))
  refine wpAny_bind (one ?_)
  dsimp only
  refine wpAny_bind (wpAny_mono (cmp_try X I hr hfn h) (fun r s' z => ?_) fun _ _ e => e)
  obtain ⟨v, rfl, hq⟩ := z
  exact wpAny_pure hq
end
section
variable {prog : Program} {w : World} {A : Around} {E : Value → Shared → Prop} {s : Shared} {K : PySem.W.Frag} {x C f : Addr} {ox : Obj} {od : Option Obj}
/-- a special method that the class has from object -/
theorem ifBound_slot {M : Model} {name : Str} {id : String} {args : List Value} {Q : Option Value → Shared → Prop} (X : K.In s.heap) (I : PySem.W.InstAt s.heap x ox C od) (S : Slot "object" name id) (hs : PySem.W.findIn K (.ref C) name = some (some (.builtin id)))
    (h : wpAny M A (call (.builtin id) (.ref x :: args)) (fun v => Q (some v)) E s) : wpAny M A (callSpecialIfBound? (.ref x) name args) Q E s := by
  simp only [callSpecialIfBound?, bindSpecialIfBound?]
  refine wpAny_holding (wpAny_bind (wpAny_bind (wpAny_bind (I.type.here ((PySem.W.looks_findIn X hs).here ?_)))))
  simp only [S.bind]
  refine wpAny_bind (wpAny_askSetting (wpAny_ite ?_))
  have fin : wpAny M A (call (.builtin id) ([.ref x] ++ args) >>= fun v => pure (some v)) Q E s := wpAny_bind (wpAny_mono h (fun v s' z => wpAny_pure z) fun _ _ z => z)
  split
  · exact wpAny_bind (wpAny_pure (wpAny_pure fin))
  · exact wpAny_tryCatch (wpAny_bind (wpAny_pure (wpAny_pure fin)))
/-- x != b by the own == -/
theorem own_ne {b tb : Value} {Q : Value → Shared → Prop} (hu : A.units + 1 < cLine) (X : K.In s.heap) (I : PySem.W.InstAt s.heap x ox C od) (hb : PySem.W.Looks (model prog w) s.heap (typeOf b) tb) (hn : PySem.W.notFirst K C tb = true)
    (hne : PySem.W.findIn K (.ref C) "__ne__" = some (some (.builtin "object.__ne__"))) (hm : PySem.W.mroIn K C (.type "object") = some true) (heq : PySem.W.findIn K (.ref C) "__eq__" = some (some (.ref f))) (hf : PySem.W.isFn K (.ref f) = true)
    (h : wpAny (model prog w) A.in1 (call (.ref f) [.ref x, b]) (fun v s' => ∃ r, v = .bool r ∧ Q (.bool (!r)) s') E s) : wpAny (model prog w) A (richCompare .NotEq (.ref x) b) Q E s := by
  have S := PySem.F.cmp_object.ne
  have sub : PySem.W.Looks (model prog w) s.heap (isInstance (.ref x) (.type "object")) true := I.type.andThen (PySem.W.looks_mroIn X hm)
  have inner : wpAny (model prog w) A.in1 (Builtin.«object.__ne__» ⟨[.ref x, b], []⟩) (GQ.FinOf prog w A (wants (fun v s' => ∃ r, v = .bool r ∧ Q (.bool r) s') E)) (fun e s' => wants (fun v s' => ∃ r, v = .bool r ∧ Q (.bool r) s') E (.error e) s') s := by
    unfold Builtin.«object.__ne__»
    refine wpAny_bind (wpAny_of_eq (a := ((Value.ref x, [b]) : Value × List Value)) (by first | rfl | (simp only [slotArgs]; rfl)) ?_)
    dsimp only
    refine wpAny_bind (wpAny_cRoomFor (by show A.units + 1 < cLine; exact hu) ?_)
    refine wpAny_bind (PySem.W.ifBound_K X I heq hf (wpAny_mono h (fun v s' z => ?_) fun _ _ e => e))
    obtain ⟨r, rfl, q⟩ := z
    refine wpAny_bind (wpAny_truthy_bool ?_)
    exact wpAny_pure ⟨!r, rfl, q⟩
  have one : wpAny (model prog w) A (tryCompare (.ref x) "__ne__" b) (fun r s' => ∃ v, r = some (.bool v) ∧ Q (.bool v) s') E s := by
    unfold tryCompare
    have callne : wpAny (model prog w) A (call (.builtin "object.__ne__") [.ref x, b]) (fun v s' => ∃ r, v = .bool r ∧ Q (.bool r) s') E s :=
      wpAny_call (codeAny_call_builtin S.plain PySem.F.cmpEntry_ne (@PySem.W.check_slot (model prog w) _ _ s "object.__ne__" "object" "__ne__" (.ref x) [b] [] _ PySem.F.cmpKind_ne PySem.F.cmpSplit_ne sub (PySem.F.cmpArgs_ne _ _) inner))
    refine wpAny_bind (ifBound_slot X I S hne (wpAny_mono callne (fun v s' z => ?_) fun _ _ e => e))
    obtain ⟨r, rfl, q⟩ := z
    exact wpAny_pure ⟨r, rfl, q⟩
  unfold richCompare
  simp only [oneThing_ref]
  refine wpAny_holding (wpAny_bind (wpAny_cRoomFor (Nat.lt_of_succ_lt hu) ?_))
  refine wpAny_bind (I.type.here (wpAny_bind (hb.here ?_)))
  split
  · rename_i q
    have e : PySem.W.subIn K tb (.ref C) = some false := by
      rcases Bool.or_eq_true_iff.mp hn with e | e
      · rw [beq_iff_eq.mp e] at q; simp at q
      · exact beq_iff_eq.mp e
    refine wpAny_bind ((PySem.W.looks_subIn X e).here ?_)
    simp only [Bool.false_eq_true, if_false]
    refine wpAny_bind (wpAny_mono one (fun r s' z => ?_) fun _ _ e => e)
    obtain ⟨v, rfl, hq⟩ := z
    exact wpAny_pure hq
  · refine wpAny_bind (wpAny_pure ?_)
    simp only [Bool.false_eq_true, if_false]
    refine wpAny_bind (wpAny_mono one (fun r s' z => ?_) fun _ _ e => e)
    obtain ⟨v, rfl, hq⟩ := z
    exact wpAny_pure hq
end
/-! ### the same over the layer -/
section
variable {X : Cx} {CX : CXT} {k : Nat} {f C : Addr} {fd : FuncData} {ps : List Str} {sp : Sp} {E : XK} {pins : List (Addr × Obj)} {σ : L2.St} {H : Hp} {s : Shared}
/-- a def runs, at whatever depth -/
theorem run_deep {A : Around} {Q : VK} {us : List Value} {vs : List V} (F : FnOk X.prog X.w X.K X.mg X.base CX k f fd ps sp) (hr : Room k A) (e0 : Env0 X.prog X.w X.K X.mg X.base A X.stack s H) (hb : Binds X.K fd ps []) (hx : Passes CX X E)
    (I : Inv X pins σ H s) (r : Vals vs us) (h : sp vs H Q E) : wpAny (model X.prog X.w) A (call (.ref f) us) (EP X pins σ Q) X.xe s := by
  have hl : (us ++ []).length = ps.length := by rw [List.append_nil, ← r.length]; exact F.len _ _ _ _ h
  have hbind := hb s us I.kIn hl
  rw [List.append_nil] at hbind
  refine wpAny_call (codeAny_mono (F.run A X.stack s H ⟨us, []⟩ us vs Q E hr e0 hbind r h) fun r s' hq => ?_)
  cases r with
  | error e => exact hx pins σ H s e s' I hq
  | ok fl =>
    cases fl with
    | ret u => exact I.after hq
    | next => exact False.elim hq
    | brk => exact False.elim hq
    | cont => exact False.elim hq
theorem back_of {P : Value → Shared → Prop} {z : V} {v : Value} {s' : Shared} (r : RelV z v) (h : P v s') : PySem.W.CmpBack P v s' := by
  cases z with
  | non => cases (show v = Value.none from r); exact h
  | bl b => cases (show v = Value.bool b from r); exact h
  | ref a => cases (show v = Value.ref a from r); exact h
  | ty n => cases (show v = Value.type n from r); exact h
  | int i => obtain ⟨t, e⟩ := (show ∃ t, v = Value.int i t from r); cases e; exact h
  | str x => obtain ⟨t, e⟩ := (show ∃ t, v = Value.str x t from r); cases e; exact h
  | byt b => obtain ⟨t, e⟩ := (show ∃ t, v = Value.bytes b t from r); cases e; exact h
  | flt b => obtain ⟨t, e⟩ := (show ∃ t, v = Value.float b t from r); cases e; exact h
theorem inst_of (I : Inv X pins σ H s) {a dx : Addr} {fs : List (Str × V)} (h : H a = some (.ins C dx fs)) : ∃ od, PySem.W.InstAt s.heap a (PySem.W.instObj C dx) C (some od) := by
  obtain ⟨mA, J, _⟩ := ins_get I.hok h
  obtain ⟨od, J, _⟩ := J.look
  exact ⟨od, J⟩
/-- an instance of the class at C -/
def IsC (C : Addr) (H : Hp) (y : V) : Prop := ∃ a dx fs, y = .ref a ∧ H a = some (.ins C dx fs)
/-- what the operators ask of the class -/
structure OpC (K : PySem.W.Frag) (C : Addr) : Prop where
  first : PySem.W.selfFirst K C = true
  cls : ∃ cd rest, PySem.W.clsIn K C = some cd ∧ cd.mro = .ref C :: rest
  noInt : PySem.W.subIn K (.ref C) (.type "int") = some false
  intNo : PySem.W.subIn K (.type "int") (.ref C) = some false
  ne : PySem.W.findIn K (.ref C) "__ne__" = some (some (.builtin "object.__ne__"))
  ob : PySem.W.mroIn K C (.type "object") = some true
/-- x op y, both of C -/
def rOwnB (C : Addr) (sp : Sp) (E : XK) : R2 := fun x y H Q => IsC C H x ∧ IsC C H y ∧ sp [x, y] H Q E
theorem op_ownB {op : Operator} (T : OpC X.K C) (hs : PySem.W.findIn X.K (.ref C) (PySem.dunder op.info.2) = some (some (.ref f))) (hf : PySem.W.isFn X.K (.ref f) = true) (F : FnOk X.prog X.w X.K X.mg X.base CX k f fd ps sp) (hr : Room k X.A) (hb : Binds X.K fd ps []) (hx : Passes CX X E) :
    OpR X (binaryOp op) (rOwnB C sp E) := by
  intro pins s σ H x y v u Q I rx ry h
  obtain ⟨⟨a, dx, fs, rfl, ha⟩, ⟨b, dy, gs, rfl, hb'⟩, q⟩ := h
  cases (show v = Value.ref a from rx)
  cases (show u = Value.ref b from ry)
  obtain ⟨oa, J⟩ := inst_of I ha
  obtain ⟨ob, J'⟩ := inst_of I hb'
  obtain ⟨m, hF⟩ := I.fr
  refine PySem.W.binop_K hF I.ok.mod.kin J J'.type T.first hs hf (wpAny_mono (run_deep (vs := [.ref a, .ref b]) F hr I.env0 hb hx I (.cons rfl (.cons rfl .nil)) q) (fun w s' z => ?_) fun _ _ x => x)
  obtain ⟨z', H', I', rz, qz⟩ := z
  exact back_of rz ⟨z', H', I', rz, qz⟩
/-- x op n, n an int -/
def rOwnI (C : Addr) (sp : Sp) (E : XK) : R2 := fun x y H Q => IsC C H x ∧ (∃ n, y = .int n) ∧ sp [x, y] H Q E
theorem op_ownI {op : Operator} {fo ro rc : Option Value} (T : OpC X.K C) (hs : PySem.W.findIn X.K (.ref C) (PySem.dunder op.info.2) = some (some (.ref f))) (hf : PySem.W.isFn X.K (.ref f) = true) (hr' : PySem.W.findIn X.K (.ref C) (dunderR op.info.2) = some rc) (hp : rc = none ∨ ∃ g : Addr, rc = some (.ref g))
    (h1 : PySem.W.findIn X.K (.type "int") (PySem.dunder op.info.2) = some fo) (h2 : PySem.W.findIn X.K (.type "int") (dunderR op.info.2) = some ro)
    (F : FnOk X.prog X.w X.K X.mg X.base CX k f fd ps sp) (hr : Room k X.A) (hb : Binds X.K fd ps []) (hx : Passes CX X E) : OpR X (binaryOp op) (rOwnI C sp E) := by
  intro pins s σ H x y v u Q I rx ry h
  obtain ⟨⟨a, dx, fs, rfl, ha⟩, ⟨n, rfl⟩, q⟩ := h
  cases (show v = Value.ref a from rx)
  obtain ⟨t, rfl⟩ := (show ∃ t, u = Value.int n t from ry)
  obtain ⟨oa, J⟩ := inst_of I ha
  obtain ⟨m, hF⟩ := I.fr
  refine PySem.W.ksp_binT (T := "int") hF I.ok.mod.kin J rfl T.first hs hf hr' hp h1 h2 T.intNo (wpAny_mono (run_deep (vs := [.ref a, .int n]) F hr I.env0 hb hx I (.cons rfl (.cons ⟨t, rfl⟩ .nil)) q) (fun w s' z => ?_) fun _ _ x => x)
  obtain ⟨z', H', I', rz, qz⟩ := z
  exact back_of rz ⟨z', H', I', rz, qz⟩
/-- n op x, n an int: the reflected method -/
def rOwnR (C : Addr) (sp : Sp) (E : XK) : R2 := fun x y H Q => (∃ n, x = .int n) ∧ IsC C H y ∧ sp [y, x] H Q E
theorem op_ownR {op : Operator} {id nm : String} {g : Int → Int → Sem Fin} {fl : Addr} (T : OpC X.K C) (slot : Slot "int" (PySem.dunder op.info.2) id) (entry : entryFor table id = some (Builtin.Int.intBinary nm g false)) (args : ∀ a b : Value, argsOk id ⟨[a, b], []⟩)
    (hsl : ∀ (n : Int) (t : Tok) (x : Addr), slotArgs nm 1 ⟨[.int n t, .ref x], []⟩ = pure (.int n t, [.ref x])) (hfI : fillsNumberSlot (.type "int") op.info.2 = pure true) (hl : PySem.W.findIn X.K (.ref C) (PySem.dunder op.info.2) = some (some (.ref fl)))
    (hs : PySem.W.findIn X.K (.ref C) (dunderR op.info.2) = some (some (.ref f))) (hf : PySem.W.isFn X.K (.ref f) = true)
    (F : FnOk X.prog X.w X.K X.mg X.base CX k f fd ps sp) (hr : Room k X.A) (hb : Binds X.K fd ps []) (hx : Passes CX X E) : OpR X (binaryOp op) (rOwnR C sp E) := by
  intro pins s σ H x y v u Q I rx ry h
  obtain ⟨⟨n, rfl⟩, ⟨a, dx, fs, rfl, ha⟩, q⟩ := h
  cases (show u = Value.ref a from ry)
  obtain ⟨t, rfl⟩ := (show ∃ t, v = Value.int n t from rx)
  obtain ⟨oa, J⟩ := inst_of I ha
  obtain ⟨cd, rest, hcd, hm⟩ := T.cls
  refine refl_bin I.kIn J slot entry (args _ _) (hsl n t a) (fun v z => nomatch z) hfI hcd hm hl T.noInt hs hf (wpAny_mono (run_deep (vs := [.ref a, .int n]) F hr I.env0 hb hx I (.cons rfl (.cons ⟨t, rfl⟩ .nil)) q) (fun w s' z => ?_) fun _ _ x => x)
  obtain ⟨z', H', I', rz, qz⟩ := z
  exact back_of rz ⟨z', H', I', rz, qz⟩
/-- x op y by the own comparison, y of a known type -/
def rOwnC (K : PySem.W.Frag) (C : Addr) (sp : Sp) (E : XK) : R2 := fun x y H Q => IsC C H x ∧ (∃ t, TyX K H y t ∧ PySem.W.notFirst K C t = true) ∧ sp [x, y] H Q E
theorem op_ownC {op : CmpOp} (hop : ∀ a b, compareOp op a b = richCompare op a b) (hs : PySem.W.findIn X.K (.ref C) (cmpInfo op).2.1 = some (some (.ref f))) (hf : PySem.W.isFn X.K (.ref f) = true)
    (F : FnOk X.prog X.w X.K X.mg X.base CX k f fd ps sp) (hr : Room k X.A) (hb : Binds X.K fd ps []) (hx : Passes CX X E) : OpR X (compareOp op) (rOwnC X.K C sp E) := by
  intro pins s σ H x y v u Q I rx ry h
  obtain ⟨⟨a, dx, fs, rfl, ha⟩, ⟨ty, hty, hn⟩, q⟩ := h
  cases (show v = Value.ref a from rx)
  obtain ⟨oa, J⟩ := inst_of I ha
  obtain ⟨m, hF⟩ := I.fr
  obtain ⟨Pk, Z, p, _⟩ := kit_of I ry hty
  rw [hop]
  refine PySem.W.cmp_K (op := op) hr.units0 hF I.ok.mod.kin J (Z.ty _ _ I.kIn p) hn hs hf (wpAny_mono (run_deep (vs := [.ref a, y]) F hr I.env0 hb hx I (.cons rfl (.cons ry .nil)) q) (fun w s' z => ?_) fun _ _ x => x)
  obtain ⟨z', H', I', rz, qz⟩ := z
  exact back_of rz ⟨z', H', I', rz, qz⟩
/-- n op x, n an int: the mirrored comparison -/
theorem op_ownM {op : CmpOp} {id nm : String} {g : Int → Int → Sem Fin} (hop : ∀ a b, compareOp op a b = richCompare op a b) (T : OpC X.K C) (slot : Slot "int" (cmpInfo op).2.1 id) (entry : entryFor table id = some (Builtin.Int.intBinary nm g false)) (args : ∀ a b : Value, argsOk id ⟨[a, b], []⟩)
    (hsl : ∀ (n : Int) (t : Tok) (x : Addr), slotArgs nm 1 ⟨[.int n t, .ref x], []⟩ = pure (.int n t, [.ref x])) (hot : ∀ (n : Int) (t : Tok) (x : Addr), oneThing? op (.int n t) (.ref x) = none)
    (hs : PySem.W.findIn X.K (.ref C) (cmpInfo op).2.2 = some (some (.ref f))) (hf : PySem.W.isFn X.K (.ref f) = true)
    (F : FnOk X.prog X.w X.K X.mg X.base CX k f fd ps sp) (hr : Room k X.A) (hb : Binds X.K fd ps []) (hx : Passes CX X E) : OpR X (compareOp op) (rOwnR C sp E) := by
  intro pins s σ H x y v u Q I rx ry h
  obtain ⟨⟨n, rfl⟩, ⟨a, dx, fs, rfl, ha⟩, q⟩ := h
  cases (show u = Value.ref a from ry)
  obtain ⟨t, rfl⟩ := (show ∃ t, v = Value.int n t from rx)
  obtain ⟨oa, J⟩ := inst_of I ha
  rw [hop]
  refine refl_cmp hr.units0 I.kIn J slot entry (args _ _) (hsl n t a) (fun v z => nomatch z) (hot n t a) T.noInt hs hf (wpAny_mono (run_deep (vs := [.ref a, .int n]) F hr I.env0 hb hx I (.cons rfl (.cons ⟨t, rfl⟩ .nil)) q) (fun w s' z => ?_) fun _ _ x => x)
  obtain ⟨z', H', I', rz, qz⟩ := z
  exact back_of rz ⟨z', H', I', rz, qz⟩
/-- x != y by the own == -/
def rOwnNe (K : PySem.W.Frag) (C : Addr) (sp : Sp) (E : XK) : R2 := fun x y H Q => IsC C H x ∧ (∃ t, TyX K H y t ∧ PySem.W.notFirst K C t = true) ∧ sp [x, y] H (fun z H' => ∃ r, z = .bl r ∧ Q (.bl (!r)) H') E
theorem op_ownNe (T : OpC X.K C) (hs : PySem.W.findIn X.K (.ref C) "__eq__" = some (some (.ref f))) (hf : PySem.W.isFn X.K (.ref f) = true)
    (F : FnOk X.prog X.w X.K X.mg X.base CX k f fd ps sp) (hr : Room (k + 1) X.A) (hb : Binds X.K fd ps []) (hx : Passes CX X E) : OpR X (compareOp .NotEq) (rOwnNe X.K C sp E) := by
  intro pins s σ H x y v u Q I rx ry h
  obtain ⟨⟨a, dx, fs, rfl, ha⟩, ⟨ty, hty, hn⟩, q⟩ := h
  cases (show v = Value.ref a from rx)
  obtain ⟨oa, J⟩ := inst_of I ha
  obtain ⟨Pk, Z, p, _⟩ := kit_of I ry hty
  show wpAny _ _ (richCompare .NotEq (.ref a) u) _ _ _
  refine own_ne (by have := hr.units; omega) I.kIn J (Z.ty _ _ I.kIn p) hn T.ne T.ob hs hf (wpAny_mono (run_deep (vs := [.ref a, y]) F (Room.in1 hr) I.env0.in1 hb hx I (.cons rfl (.cons ry .nil)) q) (fun w s' z => ?_) fun _ _ x => x)
  obtain ⟨z', H', I', rz, r, rfl, qz⟩ := z
  cases (show w = Value.bool r from rz)
  exact ⟨r, rfl, .bl (!r), H', I', rfl, qz⟩
end
theorem notFirst_of {K : PySem.W.Frag} {C : Addr} {t : Value} (h : PySem.W.subIn K t (.ref C) = some false) : PySem.W.notFirst K C t = true := by simp [PySem.W.notFirst, h]
/-! ### instances of an own class; exceptions that pass -/
structure InsC (K : PySem.W.Frag) (C : Addr) : Prop where
  cl : Cls K C
  ha : PySem.W.findIn K (.ref C) "__class__" = some (some (.builtin "object.__class__"))
  hn : PySem.W.specialIn K (.builtin "object.__class__") "__get__" = some (some (.builtin "getset_descriptor.__get__"))
  ht : PySem.W.takesIn K (.builtin "object.__class__") = some true
  hm : PySem.W.mroIn K C (.type "object") = some true
theorem InsC.ty {K : PySem.W.Frag} {C : Addr} (T : InsC K C) {H : Hp} {a dx : Addr} {fs : List (Str × V)} (e : H a = some (.ins C dx fs)) : TyX K H (.ref a) (.ref C) := .base (.ins e T.cl T.ha T.hn T.ht T.hm)
theorem passLen {X : Cx} {W : WX} (tk : Takes X W) : Passes (L2.CX X.prog X.w) X (fun cls d H => ∀ σ : L2.St, σ.length = X.N.length → W cls d σ H) := fun _ σ _ _ e s' I c => tk e s' (XE.of_call I (fun _ _ _ h => h σ I.len) c)
theorem passLenN {X : Cx} {W : WX} {n : Nat} (tk : Takes X W) (hn : X.N.length = n) : Passes (L2.CX X.prog X.w) X (fun cls d H => ∀ σ : L2.St, σ.length = n → W cls d σ H) := fun _ σ _ _ e s' I c => tk e s' (XE.of_call I (fun _ _ _ h => h σ (I.len.trans hn)) c)
/-! ### ratios: the mathematics -/
/-- p / q is O / U in lowest terms -/
structure Nf (O U p q : Int) : Prop where
  pos : 0 < q
  cop : Nat.gcd p.natAbs q.natAbs = 1
  eq : p * U = O * q
  le1 : p.natAbs ≤ O.natAbs
  le2 : q.natAbs ≤ U.natAbs
theorem nf_make {O U : Int} (hU : U ≠ 0) {d : Int} (hd : d = if U < 0 then -((Nat.gcd O.natAbs U.natAbs : Nat) : Int) else ((Nat.gcd O.natAbs U.natAbs : Nat) : Int)) : d ≠ 0 ∧ d.natAbs ≤ U.natAbs ∧ Nf O U (O.fdiv d) (U.fdiv d) := by
  have hg : 0 < Nat.gcd O.natAbs U.natAbs := Nat.gcd_pos_of_pos_right _ (Int.natAbs_pos.mpr hU)
  have hgle : Nat.gcd O.natAbs U.natAbs ≤ U.natAbs := Nat.gcd_le_right _ (Int.natAbs_pos.mpr hU)
  generalize hgg : Nat.gcd O.natAbs U.natAbs = g at hd hg hgle
  have hd0 : d ≠ 0 := by
    rw [hd]
    split <;> omega
  have hda : d.natAbs = g := by
    rw [hd]
    split <;> omega
  have dO : d ∣ O := by
    rw [← Int.natAbs_dvd_natAbs, hda, ← hgg]
    exact Nat.gcd_dvd_left _ _
  have dU : d ∣ U := by
    rw [← Int.natAbs_dvd_natAbs, hda, ← hgg]
    exact Nat.gcd_dvd_right _ _
  obtain ⟨o, rfl⟩ := dO
  obtain ⟨u, rfl⟩ := dU
  rw [Int.mul_fdiv_cancel_left _ hd0, Int.mul_fdiv_cancel_left _ hd0]
  have ho : (d * o).natAbs = g * o.natAbs := by rw [Int.natAbs_mul, hda]
  have hu : (d * u).natAbs = g * u.natAbs := by rw [Int.natAbs_mul, hda]
  refine ⟨hd0, by omega, ?_, ?_, ?_, ?_, ?_⟩
  · have hu0 : u ≠ 0 := fun z => hU (by rw [z, Int.mul_zero])
    by_cases hn : d * u < 0
    · rw [if_pos hn] at hd
      have hdn : d < 0 := by omega
      by_cases h : 0 < u
      · exact h
      · have : 0 ≤ d * u := Int.mul_nonneg_of_nonpos_of_nonpos (by omega) (by omega)
        omega
    · rw [if_neg hn] at hd
      have hdp : 0 < d := by omega
      by_cases h : 0 < u
      · exact h
      · have : d * u ≤ 0 := Int.mul_nonpos_of_nonneg_of_nonpos (by omega) (by omega)
        have : d * u ≠ 0 := hU
        omega
  · rw [ho, hu, Nat.gcd_mul_left] at hgg
    exact Nat.eq_of_mul_eq_mul_left hg (by omega)
  · grind
  · rw [ho]
    exact Nat.le_mul_of_pos_left _ hg
  · rw [hu]
    exact Nat.le_mul_of_pos_left _ hg
theorem cross_unique {p q p' q' : Int} (h : 0 < q) (h' : 0 < q') (c : Nat.gcd p.natAbs q.natAbs = 1) (c' : Nat.gcd p'.natAbs q'.natAbs = 1) (e : p * q' = p' * q) : p = p' ∧ q = q' := by
  have e2 : p.natAbs * q'.natAbs = p'.natAbs * q.natAbs := by rw [← Int.natAbs_mul, ← Int.natAbs_mul, e]
  have d1 : q.natAbs ∣ q'.natAbs := Nat.Coprime.dvd_of_dvd_mul_left (k := q.natAbs) (m := p.natAbs) (n := q'.natAbs) (by rw [Nat.Coprime, Nat.gcd_comm]; exact c) ⟨p'.natAbs, by rw [e2, Nat.mul_comm]⟩
  have d2 : q'.natAbs ∣ q.natAbs := Nat.Coprime.dvd_of_dvd_mul_left (k := q'.natAbs) (m := p'.natAbs) (n := q.natAbs) (by rw [Nat.Coprime, Nat.gcd_comm]; exact c') ⟨p.natAbs, by rw [← e2, Nat.mul_comm]⟩
  have eq : q.natAbs = q'.natAbs := Nat.dvd_antisymm d1 d2
  have eq2 : q = q' := by omega
  subst eq2
  exact ⟨Int.eq_of_mul_eq_mul_right (by omega) e, rfl⟩
theorem Nf.unique {O U p q p' q' : Int} (hU : U ≠ 0) (h : Nf O U p q) (h' : Nf O U p' q') : p = p' ∧ q = q' := by
  refine cross_unique h.pos h'.pos h.cop h'.cop (Int.eq_of_mul_eq_mul_right hU ?_)
  have e1 := h.eq
  have e2 := h'.eq
  grind
/-- the same fraction by other terms -/
theorem Nf.unique2 {O U O' U' p q p' q' : Int} (hU : U ≠ 0) (hU' : U' ≠ 0) (e : O * U' = O' * U) (h : Nf O U p q) (h' : Nf O' U' p' q') : p = p' ∧ q = q' := by
  refine cross_unique h.pos h'.pos h.cop h'.cop (Int.eq_of_mul_eq_mul_right (Int.mul_ne_zero hU hU') ?_)
  have e1 := h.eq
  have e2 := h'.eq
  grind
theorem nf_self {p q : Int} (h : 0 < q) (c : Nat.gcd p.natAbs q.natAbs = 1) : Nf p q p q := ⟨h, c, rfl, Nat.le_refl _, Nat.le_refl _⟩
theorem gcd_one (n : Int) : Nat.gcd n.natAbs (1 : Int).natAbs = 1 := Nat.gcd_one_right _
/-! ### ratios: the objects -/
theorem op_fdivZ {X : Cx} : OpR X (binaryOp .FloorDiv) (rI (fun _ j => j ≠ 0 ∧ j.natAbs.log2 < 9000) fun i j => .int (i.fdiv j)) := opI fun _ _ _ _ _ _ _ hc q => floordiv_int hc.1 q (.inl (PyProof.noPylong_of_log2 hc.2))
theorem ou : ¬ (("over" : Str) = "under") := by decide +kernel
def rfR (p q : Int) : List (Str × V) := putF "under" (.int q) (putF "over" (.int p) [])
theorem rfR_eq (p q : Int) : rfR p q = ([("over", V.int p), ("under", V.int q)] : List (Str × V)) := by
  show (if ("over" : Str) = "under" then [(("over" : Str), V.int q)] else (("over" : Str), V.int p) :: putF "under" (V.int q) []) = ([("over", V.int p), ("under", V.int q)] : List (Str × V))
  rw [if_neg ou]
  all_goals rfl
theorem rfR_over (p q : Int) : (rfR p q).lookup ("over" : Str) = some (.int p) := by
  unfold rfR
  rw [lookup_putF, if_neg ou, lookup_putF, if_pos rfl]
theorem rfR_under (p q : Int) : (rfR p q).lookup ("under" : Str) = some (.int q) := by
  unfold rfR
  rw [lookup_putF, if_pos rfl]
theorem rfR_no (p q : Int) {m : Str} (h1 : ¬ m = "under") (h2 : ¬ m = "over") : (rfR p q).lookup m = none := by
  unfold rfR
  rw [lookup_putF, if_neg h1, lookup_putF, if_neg h2]
  all_goals rfl
/-- v is a ratio, p / q in lowest terms -/
structure Rat (C : Addr) (H : Hp) (v : V) (p q : Int) : Prop where
  at_ : ∃ a dx, v = .ref a ∧ H a = some (.ins C dx (rfR p q))
  pos : 0 < q
  cop : Nat.gcd p.natAbs q.natAbs = 1
theorem Rat.same {C : Addr} {H H' : Hp} {v : V} {p q : Int} (R : Rat C H v p q) (e : Same H H') : Rat C H' v p q := by
  obtain ⟨⟨a, dx, rfl, h⟩, h1, h2⟩ := R
  exact ⟨⟨a, dx, rfl, e _ _ h⟩, h1, h2⟩
theorem Rat.isC {C : Addr} {H : Hp} {v : V} {p q : Int} (R : Rat C H v p q) : IsC C H v := by
  obtain ⟨⟨a, dx, rfl, h⟩, _⟩ := R
  exact ⟨a, dx, _, rfl, h⟩
theorem Rat.ty {K : PySem.W.Frag} {C : Addr} {H : Hp} {v : V} {p q : Int} (R : Rat C H v p q) (T : InsC K C) : TyX K H v (.ref C) := by
  obtain ⟨⟨a, dx, rfl, h⟩, _⟩ := R
  exact T.ty h
theorem Rat.inj {C : Addr} {H : Hp} {v : V} {p q p' q' : Int} (R : Rat C H v p q) (R' : Rat C H v p' q') : p = p' ∧ q = q' := by
  obtain ⟨⟨a, dx, rfl, h⟩, _⟩ := R
  obtain ⟨⟨b, dy, e, h'⟩, _⟩ := R'
  cases e
  rw [h] at h'
  have e : rfR p q = rfR p' q' := by
    injection h' with h'
    injection h'
  rw [rfR_eq, rfR_eq] at e
  simp at e
  exact e
/-- a ratio, or an int that counts as one -/
inductive Num (C : Addr) (H : Hp) : V → Int → Int → Prop where
  | rat {v : V} {p q : Int} (R : Rat C H v p q) : Num C H v p q
  | int (n : Int) : Num C H (.int n) n 1
theorem Num.same {C : Addr} {H H' : Hp} {v : V} {p q : Int} (N : Num C H v p q) (e : Same H H') : Num C H' v p q := by
  cases N with
  | rat R => exact .rat (R.same e)
  | int => exact .int _
theorem Num.pos {C : Addr} {H : Hp} {v : V} {p q : Int} (N : Num C H v p q) : 0 < q := by
  cases N with
  | rat R => exact R.pos
  | int => decide
theorem log2_le {a b : Int} {n : Nat} (h : a.natAbs ≤ b.natAbs) (ha : a ≠ 0) (hb : b.natAbs.log2 < n) : a.natAbs.log2 < n := by
  have ha' : a.natAbs ≠ 0 := fun z => ha (Int.natAbs_eq_zero.mp z)
  have hb' : b.natAbs ≠ 0 := fun z => ha' (by omega)
  exact (Nat.log2_lt ha').mpr (Nat.lt_of_le_of_lt h ((Nat.log2_lt hb').mp hb))
/-- sizes: terms of at most n bits -/
def Sz (n : Nat) (p q : Int) : Prop := p.natAbs < 2 ^ n ∧ q.natAbs < 2 ^ n
theorem Sz.mono {n m : Nat} {p q : Int} (h : Sz n p q) (l : n ≤ m) : Sz m p q := ⟨Nat.lt_of_lt_of_le h.1 (Nat.pow_le_pow_right (by decide) l), Nat.lt_of_lt_of_le h.2 (Nat.pow_le_pow_right (by decide) l)⟩
theorem pow_two_succ (n : Nat) : 2 ^ n + 2 ^ n = 2 ^ (n + 1) := by rw [Nat.pow_succ]; omega
theorem sz_add {a b c d : Int} {n : Nat} (ha : a.natAbs < 2 ^ n) (hb : b.natAbs < 2 ^ n) (hc : c.natAbs < 2 ^ n) (hd : d.natAbs < 2 ^ n) : (a * b + c * d).natAbs < 2 ^ (n + n + 1) := by
  have h1 := wide_lt ha hb
  have h2 := wide_lt hc hd
  have := pow_two_succ (n + n)
  omega
theorem sz_sub {a b c d : Int} {n : Nat} (ha : a.natAbs < 2 ^ n) (hb : b.natAbs < 2 ^ n) (hc : c.natAbs < 2 ^ n) (hd : d.natAbs < 2 ^ n) : (a * b - c * d).natAbs < 2 ^ (n + n + 1) := by
  have h1 := wide_lt ha hb
  have h2 := wide_lt hc hd
  have := pow_two_succ (n + n)
  omega
theorem sz_log {a : Int} {n : Nat} (h : a.natAbs < 2 ^ n) (h0 : 0 < n) (h1 : n ≤ 9000) : a.natAbs.log2 < 9000 := Nat.lt_of_lt_of_le (PySem.Flt.log2_lt_of h0 h) h1
theorem sz_mul {a b : Int} {n : Nat} (ha : a.natAbs < 2 ^ n) (hb : b.natAbs < 2 ^ n) (h0 : 0 < n) (h1 : n ≤ 4000) : CMulW a b := wide_mul ha hb h0 h0 (by omega)
/-- what is wrong with the terms of a ratio, and how it is told -/
def BadR (x y : V) (w : Str) (z : V) : Prop := (isInt x = false ∧ w = "over" ∧ z = x) ∨ (isInt x = true ∧ isInt y = false ∧ w = "under" ∧ z = y) ∨ (isInt x = true ∧ y = .int 0 ∧ w = "under" ∧ z = .int 0)
def spInit (K : PySem.W.Frag) (C CB : Addr) : Sp := fun vs H Q E => ∃ (a dx : Addr) (x y : V), vs = [.ref a, x, y] ∧ H a = some (.ins C dx []) ∧ Kn K H x ∧ Kn K H y ∧
  (∀ O U, x = .int O → y = .int U → U ≠ 0 → U.natAbs.log2 < 9000 ∧ ∀ p q H', Nf O U p q → H' a = some (.ins C dx (rfR p q)) → (∀ b o, H b = some o → b ≠ a → H' b = some o) → Q .non H') ∧
  (∀ w z, BadR x y w z → ∀ d H', H d = none → Same H H' → H' d = some (.xd [("value", z), ("what", .str w)]) → E (.ref CB) (some d) H')
/-- a made ratio, from the terms' own use -/
theorem mk_ratio {K : PySem.W.Frag} {C CB : Addr} {H : Hp} {O U : Int} {Q : Addr → Hp → Prop} {E : XK} (hU : U ≠ 0) (hz : U.natAbs.log2 < 9000) (h : ∀ a p q H', Same H H' → Rat C H' (.ref a) p q → Nf O U p q → Q a H') :
    ∀ x dx, H x = none → H dx = none → dx ≠ x → spInit K C CB (.ref x :: ([.int O, .int U] ++ [])) (upd (upd H dx (.own x)) x (.ins C dx [])) (fun v H2 => v = .non ∧ Q x H2) E := by
  intro x dx nx nd ne
  refine ⟨x, dx, .int O, .int U, rfl, upd_same, kn_int O, kn_int U, fun O' U' e1 e2 _ => ?_, fun w z hb => ?_⟩
  · cases e1
    cases e2
    exact ⟨hz, fun p q H' nf ha k => ⟨rfl, h x p q H' (Same.made nx nd k) ⟨⟨x, dx, rfl, ha⟩, nf.pos, nf.cop⟩ nf⟩⟩
  · rcases hb with ⟨e, _⟩ | ⟨_, e, _⟩ | ⟨_, e, _⟩
    · cases e
    · cases e
    · cases e
      exact absurd rfl hU
/-- C(n): with the default under -/
theorem mk_ratio1 {K : PySem.W.Frag} {C CB : Addr} {H : Hp} {O : Int} {Q : Addr → Hp → Prop} {E : XK} (h : ∀ a H', Same H H' → Rat C H' (.ref a) O 1 → Q a H') :
    ∀ x dx, H x = none → H dx = none → dx ≠ x → spInit K C CB (.ref x :: ([.int O] ++ [.int 1])) (upd (upd H dx (.own x)) x (.ins C dx [])) (fun v H2 => v = .non ∧ Q x H2) E :=
  mk_ratio (U := 1) (by decide) (by decide) fun a p q H' sm R nf => by
    obtain ⟨rfl, rfl⟩ := nf.unique (by decide) (nf_self (by decide) (gcd_one O))
    exact h a H' sm R
def spRatioOf (C : Addr) : Sp := fun vs H Q _ => ∃ (x : V) (p q : Int), vs = [x] ∧ Num C H x p q ∧ ∀ r H', Same H H' → Rat C H' r p q → Q r H'
/-- a method with a ratio and a number: the ratio fO / fU -/
def spArith (C : Addr) (fO fU : Int → Int → Int → Int → Int) : Sp := fun vs H Q _ => ∃ (x y : V) (p1 q1 p2 q2 : Int) (n : Nat), vs = [x, y] ∧ Rat C H x p1 q1 ∧ Num C H y p2 q2 ∧ Sz n p1 q1 ∧ Sz n p2 q2 ∧ 0 < n ∧ n ≤ 4000 ∧
  ∀ r p q H', Same H H' → Rat C H' r p q → Nf (fO p1 q1 p2 q2) (fU p1 q1 p2 q2) p q → Q r H'
/-- a comparison -/
def spOrd (C : Addr) (f : Int → Int → Bool) : Sp := fun vs H Q _ => ∃ (x y : V) (p1 q1 p2 q2 : Int) (n : Nat), vs = [x, y] ∧ Rat C H x p1 q1 ∧ Num C H y p2 q2 ∧ Sz n p1 q1 ∧ Sz n p2 q2 ∧ 0 < n ∧ n ≤ 4000 ∧
  ∀ H', Same H H' → Q (.bl (f (p1 * q2) (p2 * q1))) H'
/-- == -/
def spEqR (K : PySem.W.Frag) (C : Addr) : Sp := fun vs H Q _ => ∃ (x y : V) (p q : Int), vs = [x, y] ∧ Rat C H x p q ∧
  ((∃ p' q', Rat C H y p' q' ∧ Q (.bl (decide (p = p') && decide (q = q'))) H) ∨ (∃ t, TyX K H y t ∧ PySem.W.kitOne K t (.ref C) = some false ∧ Q (.bl false) H))
theorem slotargs_lt (n : Int) (t : Tok) (x : Addr) : slotArgs "__lt__" 1 ⟨[.int n t, .ref x], []⟩ = pure (.int n t, [.ref x]) := by first | rfl | (simp only [slotArgs]; rfl)
theorem slotargs_le (n : Int) (t : Tok) (x : Addr) : slotArgs "__le__" 1 ⟨[.int n t, .ref x], []⟩ = pure (.int n t, [.ref x]) := by first | rfl | (simp only [slotArgs]; rfl)
theorem slotargs_gt (n : Int) (t : Tok) (x : Addr) : slotArgs "__gt__" 1 ⟨[.int n t, .ref x], []⟩ = pure (.int n t, [.ref x]) := by first | rfl | (simp only [slotArgs]; rfl)
theorem slotargs_ge (n : Int) (t : Tok) (x : Addr) : slotArgs "__ge__" 1 ⟨[.int n t, .ref x], []⟩ = pure (.int n t, [.ref x]) := by first | rfl | (simp only [slotArgs]; rfl)
theorem slotargs_add (n : Int) (t : Tok) (x : Addr) : slotArgs "__add__" 1 ⟨[.int n t, .ref x], []⟩ = pure (.int n t, [.ref x]) := by first | rfl | (simp only [slotArgs]; rfl)
theorem slotargs_sub (n : Int) (t : Tok) (x : Addr) : slotArgs "__sub__" 1 ⟨[.int n t, .ref x], []⟩ = pure (.int n t, [.ref x]) := by first | rfl | (simp only [slotArgs]; rfl)
theorem slotargs_mul (n : Int) (t : Tok) (x : Addr) : slotArgs "__mul__" 1 ⟨[.int n t, .ref x], []⟩ = pure (.int n t, [.ref x]) := by first | rfl | (simp only [slotArgs]; rfl)
/-- the same with an int on the right -/
def spArithI (C : Addr) (fO fU : Int → Int → Int → Int → Int) : Sp := fun vs H Q E => ∃ n : Int, vs[1]? = some (.int n) ∧ spArith C fO fU vs H Q E
def spDiv (C CB : Addr) : Sp := fun vs H Q E => ∃ (x y : V) (p1 q1 p2 q2 : Int) (n : Nat), vs = [x, y] ∧ Rat C H x p1 q1 ∧ Num C H y p2 q2 ∧ Sz n p1 q1 ∧ Sz n p2 q2 ∧ 0 < n ∧ n ≤ 4000 ∧
  (p2 ≠ 0 → ∀ r p q H', Same H H' → Rat C H' r p q → Nf (p1 * q2) (q1 * p2) p q → Q r H') ∧
  (p2 = 0 → ∀ d H', H d = none → Same H H' → H' d = some (.xd [("value", .int 0), ("what", .str "under")]) → E (.ref CB) (some d) H')
/-- a made ratio that may be refused for its under -/
theorem mk_ratioE {K : PySem.W.Frag} {C CB : Addr} {H : Hp} {O U : Int} {Q : Addr → Hp → Prop} {E : XK} (hz : U.natAbs.log2 < 9000) (h : U ≠ 0 → ∀ a p q H', Same H H' → Rat C H' (.ref a) p q → Nf O U p q → Q a H')
    (he : U = 0 → ∀ d H', H d = none → Same H H' → H' d = some (.xd [("value", .int 0), ("what", .str "under")]) → E (.ref CB) (some d) H') :
    ∀ x dx, H x = none → H dx = none → dx ≠ x → spInit K C CB (.ref x :: ([.int O, .int U] ++ [])) (upd (upd H dx (.own x)) x (.ins C dx [])) (fun v H2 => v = .non ∧ Q x H2) E := by
  intro x dx nx nd ne
  refine ⟨x, dx, .int O, .int U, rfl, upd_same, kn_int O, kn_int U, fun O' U' e1 e2 hU => ?_, fun w z hb d H' hd sm hx => ?_⟩
  · cases e1
    cases e2
    exact ⟨hz, fun p q H' nf ha k => ⟨rfl, h hU x p q H' (Same.made nx nd k) ⟨⟨x, dx, rfl, ha⟩, nf.pos, nf.cop⟩ nf⟩⟩
  · rcases hb with ⟨e, _⟩ | ⟨_, e, _⟩ | ⟨_, e, rfl, rfl⟩
    · cases e
    · cases e
    · cases e
      have s0 : Same H (upd (upd H dx (.own x)) x (.ins C dx [])) := fun b o e => by
        rw [upd_ne (ne_of_none e nx), upd_ne (ne_of_none e nd)]
        exact e
      exact he rfl d H' (s0.free hd) (s0.trans sm) hx
/-! ### rational numbers: v is the fraction O / U, its terms below 2 ^ n -/
def Rp (C : Addr) (H : Hp) (v : V) (O U : Int) (n : Nat) : Prop := ∃ p q, Rat C H v p q ∧ p * U = O * q ∧ U ≠ 0 ∧ Sz n p q ∧ 0 < n
theorem Rp.same {C : Addr} {H H' : Hp} {v : V} {O U : Int} {n : Nat} (R : Rp C H v O U n) (e : Same H H') : Rp C H' v O U n := by
  obtain ⟨p, q, R, h⟩ := R
  exact ⟨p, q, R.same e, h⟩
theorem Rp.mono {C : Addr} {H : Hp} {v : V} {O U : Int} {n m : Nat} (R : Rp C H v O U n) (l : n ≤ m) : Rp C H v O U m := by
  obtain ⟨p, q, R, h1, h2, h3, h4⟩ := R
  exact ⟨p, q, R, h1, h2, h3.mono l, by omega⟩
theorem Rp.isC {C : Addr} {H : Hp} {v : V} {O U : Int} {n : Nat} (R : Rp C H v O U n) : IsC C H v := by
  obtain ⟨p, q, R, _⟩ := R
  exact R.isC
theorem Rp.nz {C : Addr} {H : Hp} {v : V} {O U : Int} {n : Nat} (R : Rp C H v O U n) : U ≠ 0 := by
  obtain ⟨p, q, _, _, h, _⟩ := R
  exact h
theorem Rp.obj {C : Addr} {H : Hp} {v : V} {O U : Int} {n : Nat} (R : Rp C H v O U n) : ∃ a dx p q, v = .ref a ∧ H a = some (.ins C dx (rfR p q)) := by
  obtain ⟨p, q, ⟨⟨a, dx, e, h⟩, _⟩, _⟩ := R
  exact ⟨a, dx, p, q, e, h⟩
/-- the same number by other terms -/
theorem Rp.as {C : Addr} {H : Hp} {v : V} {O U O' U' : Int} {n : Nat} (R : Rp C H v O U n) (hU : U' ≠ 0) (e : O * U' = O' * U) : Rp C H v O' U' n := by
  obtain ⟨p, q, R, h1, h2, h3⟩ := R
  refine ⟨p, q, R, Int.eq_of_mul_eq_mul_right h2 ?_, hU, h3⟩
  grind
theorem rp_make {C : Addr} {H : Hp} {v : V} {O U p q : Int} {n : Nat} (R : Rat C H v p q) (nf : Nf O U p q) (hU : U ≠ 0) (hO : O.natAbs < 2 ^ n) (hU2 : U.natAbs < 2 ^ n) (n0 : 0 < n) : Rp C H v O U n :=
  ⟨p, q, R, nf.eq, hU, ⟨Nat.lt_of_le_of_lt nf.le1 hO, Nat.lt_of_le_of_lt nf.le2 hU2⟩, n0⟩
theorem rp_int {C : Addr} {H : Hp} {v : V} {m : Int} {n : Nat} (R : Rat C H v m 1) (h : m.natAbs < 2 ^ n) (h0 : 0 < n) : Rp C H v m 1 n := ⟨m, 1, R, rfl, by decide, ⟨h, Nat.one_lt_two_pow (by omega)⟩, h0⟩
theorem mul_ne3 {a b : Int} (ha : a ≠ 0) (hb : b ≠ 0) : a * b ≠ 0 := Int.mul_ne_zero ha hb
section
variable {K : PySem.W.Frag} {C CB : Addr} {H : Hp} {x y : V} {O1 U1 O2 U2 : Int} {n m : Nat} {Q : VK}
theorem st_eq (T : InsC K C) (R1 : Rp C H x O1 U1 n) (R2 : Rp C H y O2 U2 m) (k : Q (.bl (decide (O1 * U2 = O2 * U1))) H) : rOwnC K C (spEqR K C) E0 x y H Q := by
  have c1 := R1.isC
  obtain ⟨p1, q1, R1, e1, u1, _⟩ := R1
  obtain ⟨p2, q2, R2, e2, u2, _⟩ := R2
  refine ⟨c1, ⟨_, R2.ty T, by simp [PySem.W.notFirst]⟩, x, y, p1, q1, rfl, R1, .inl ⟨p2, q2, R2, ?_⟩⟩
  have : (decide (p1 = p2) && decide (q1 = q2)) = decide (O1 * U2 = O2 * U1) := by
    by_cases e : O1 * U2 = O2 * U1
    · have h : p1 * q2 = p2 * q1 := Int.eq_of_mul_eq_mul_right (Int.mul_ne_zero u1 u2) (by grind)
      obtain ⟨rfl, rfl⟩ := cross_unique R1.pos R2.pos R1.cop R2.cop h
      simp [e]
    · rw [decide_eq_false e]
      by_cases hp : p1 = p2
      · by_cases hq : q1 = q2
        · subst hp
          subst hq
          exact absurd (Int.eq_of_mul_eq_mul_right (show q1 ≠ 0 from by have := R1.pos; omega) (by grind)) e
        · simp [hq]
      · simp [hp]
  rw [this]
  exact k
theorem st_eqT (T : InsC K C) (R1 : Rp C H x O1 U1 n) (R2 : Rp C H y O2 U2 m) (e : O1 * U2 = O2 * U1) (k : Q (.bl true) H) : rOwnC K C (spEqR K C) E0 x y H Q := st_eq T R1 R2 (by rw [decide_eq_true e]; exact k)
theorem st_ne (T : InsC K C) (R1 : Rp C H x O1 U1 n) (R2 : Rp C H y O2 U2 m) (k : Q (.bl (!decide (O1 * U2 = O2 * U1))) H) : rOwnNe K C (spEqR K C) E0 x y H Q := by
  obtain ⟨h1, h2, h3⟩ := st_eq (Q := fun z H' => ∃ r, z = .bl r ∧ Q (.bl (!r)) H') T R1 R2 ⟨_, rfl, k⟩
  exact ⟨h1, h2, h3⟩
theorem st_neF (T : InsC K C) (R1 : Rp C H x O1 U1 n) (R2 : Rp C H y O2 U2 m) (e : O1 * U2 = O2 * U1) (k : Q (.bl false) H) : rOwnNe K C (spEqR K C) E0 x y H Q := st_ne T R1 R2 (by rw [decide_eq_true e]; exact k)
theorem st_div (R1 : Rp C H x O1 U1 n) (R2 : Rp C H y O2 U2 n) (h2 : O2 ≠ 0) (hn : n ≤ 2000) (k : ∀ r H', Same H H' → Rp C H' r (O1 * U2) (U1 * O2) (n + n) → Q r H') {E : XK} : spDiv C CB [x, y] H Q E := by
  obtain ⟨p1, q1, R1, e1, u1, z1, n0⟩ := R1
  obtain ⟨p2, q2, R2, e2, u2, z2, _⟩ := R2
  have hp2 : p2 ≠ 0 := fun z => by
    have : O2 * q2 = 0 := by rw [← e2, z, Int.zero_mul]
    rcases Int.mul_eq_zero.mp this with z | z
    · exact h2 z
    · have := R2.pos
      omega
  have hq1 : q1 ≠ 0 := by have := R1.pos; omega
  have hq2 : q2 ≠ 0 := by have := R2.pos; omega
  refine ⟨x, y, p1, q1, p2, q2, n, rfl, R1, .rat R2, z1, z2, n0, by omega, fun _ r p q H' sm R nf => k r H' sm ⟨p, q, R, ?_, Int.mul_ne_zero u1 h2, ⟨Nat.lt_of_le_of_lt nf.le1 (wide_lt z1.1 z2.2), Nat.lt_of_le_of_lt nf.le2 (wide_lt z1.2 z2.1)⟩, by omega⟩, fun z => absurd z hp2⟩
  have e3 := nf.eq
  exact Int.eq_of_mul_eq_mul_right (Int.mul_ne_zero hq1 hp2) (by grind)
theorem st_divI {k0 : Int} (R1 : Rp C H x O1 U1 n) (hk : k0.natAbs < 2 ^ n) (h2 : k0 ≠ 0) (hn : n ≤ 2000) (k : ∀ r H', Same H H' → Rp C H' r O1 (U1 * k0) (n + n) → Q r H') {E : XK} : spDiv C CB [x, .int k0] H Q E := by
  obtain ⟨p1, q1, R1, e1, u1, z1, n0⟩ := R1
  have hq1 : q1 ≠ 0 := by have := R1.pos; omega
  have h1n : (1 : Int).natAbs < 2 ^ n := Nat.one_lt_two_pow (by omega)
  refine ⟨x, _, p1, q1, k0, 1, n, rfl, R1, .int k0, z1, ⟨hk, h1n⟩, n0, by omega, fun _ r p q H' sm R nf => k r H' sm ⟨p, q, R, ?_, Int.mul_ne_zero u1 h2, ⟨Nat.lt_of_le_of_lt nf.le1 (wide_lt z1.1 h1n), Nat.lt_of_le_of_lt nf.le2 (wide_lt z1.2 hk)⟩, by omega⟩, fun z => absurd z h2⟩
  have e3 := nf.eq
  exact Int.eq_of_mul_eq_mul_right (Int.mul_ne_zero hq1 h2) (by grind)
theorem st_add (R1 : Rp C H x O1 U1 n) (R2 : Rp C H y O2 U2 n) (hn : n ≤ 2000) (k : ∀ r H', Same H H' → Rp C H' r (O1 * U2 + O2 * U1) (U1 * U2) (n + n + 1) → Q r H') : rOwnB C (spArith C (fun p1 q1 p2 q2 => p1 * q2 + p2 * q1) (fun p1 q1 p2 q2 => q1 * q2)) E0 x y H Q := by
  have c1 := R1.isC
  have c2 := R2.isC
  obtain ⟨p1, q1, R1, e1, u1, z1, n0⟩ := R1
  obtain ⟨p2, q2, R2, e2, u2, z2, _⟩ := R2
  have hq1 : q1 ≠ 0 := by have := R1.pos; omega
  have hq2 : q2 ≠ 0 := by have := R2.pos; omega
  refine ⟨c1, c2, x, y, p1, q1, p2, q2, n, rfl, R1, .rat R2, z1, z2, n0, by omega, fun r p q H' sm R nf => k r H' sm ⟨p, q, R, ?_, Int.mul_ne_zero u1 u2, ⟨Nat.lt_of_le_of_lt nf.le1 (sz_add z1.1 z2.2 z2.1 z1.2), Nat.lt_of_le_of_lt nf.le2 (Nat.lt_of_lt_of_le (wide_lt z1.2 z2.2) (Nat.pow_le_pow_right (by decide) (by omega)))⟩, by omega⟩⟩
  have e3 := nf.eq
  exact Int.eq_of_mul_eq_mul_right (Int.mul_ne_zero hq1 hq2) (by grind)
theorem st_addI {k0 : Int} (R1 : Rp C H x O1 U1 n) (hk : k0.natAbs < 2 ^ n) (hn : n ≤ 2000) (k : ∀ r H', Same H H' → Rp C H' r (O1 + k0 * U1) U1 (n + n + 1) → Q r H') : rOwnI C (spArith C (fun p1 q1 p2 q2 => p1 * q2 + p2 * q1) (fun p1 q1 p2 q2 => q1 * q2)) E0 x (.int k0) H Q := by
  have c1 := R1.isC
  obtain ⟨p1, q1, R1, e1, u1, z1, n0⟩ := R1
  have hq1 : q1 ≠ 0 := by have := R1.pos; omega
  have h1n : (1 : Int).natAbs < 2 ^ n := Nat.one_lt_two_pow (by omega)
  have z2 : Sz n k0 1 := ⟨hk, h1n⟩
  refine ⟨c1, ⟨_, rfl⟩, x, _, p1, q1, k0, 1, n, rfl, R1, .int k0, z1, z2, n0, by omega, fun r p q H' sm R nf => k r H' sm ⟨p, q, R, ?_, u1, ⟨Nat.lt_of_le_of_lt nf.le1 (sz_add z1.1 z2.2 z2.1 z1.2), Nat.lt_of_le_of_lt nf.le2 (Nat.lt_of_lt_of_le (wide_lt z1.2 z2.2) (Nat.pow_le_pow_right (by decide) (by omega)))⟩, by omega⟩⟩
  have e3 := nf.eq
  exact Int.eq_of_mul_eq_mul_right hq1 (by grind)
theorem st_sub (R1 : Rp C H x O1 U1 n) (R2 : Rp C H y O2 U2 n) (hn : n ≤ 2000) (k : ∀ r H', Same H H' → Rp C H' r (O1 * U2 - O2 * U1) (U1 * U2) (n + n + 1) → Q r H') : rOwnB C (spArith C (fun p1 q1 p2 q2 => p1 * q2 - p2 * q1) (fun p1 q1 p2 q2 => q1 * q2)) E0 x y H Q := by
  have c1 := R1.isC
  have c2 := R2.isC
  obtain ⟨p1, q1, R1, e1, u1, z1, n0⟩ := R1
  obtain ⟨p2, q2, R2, e2, u2, z2, _⟩ := R2
  have hq1 : q1 ≠ 0 := by have := R1.pos; omega
  have hq2 : q2 ≠ 0 := by have := R2.pos; omega
  refine ⟨c1, c2, x, y, p1, q1, p2, q2, n, rfl, R1, .rat R2, z1, z2, n0, by omega, fun r p q H' sm R nf => k r H' sm ⟨p, q, R, ?_, Int.mul_ne_zero u1 u2, ⟨Nat.lt_of_le_of_lt nf.le1 (sz_sub z1.1 z2.2 z2.1 z1.2), Nat.lt_of_le_of_lt nf.le2 (Nat.lt_of_lt_of_le (wide_lt z1.2 z2.2) (Nat.pow_le_pow_right (by decide) (by omega)))⟩, by omega⟩⟩
  have e3 := nf.eq
  exact Int.eq_of_mul_eq_mul_right (Int.mul_ne_zero hq1 hq2) (by grind)
theorem st_subI {k0 : Int} (R1 : Rp C H x O1 U1 n) (hk : k0.natAbs < 2 ^ n) (hn : n ≤ 2000) (k : ∀ r H', Same H H' → Rp C H' r (O1 - k0 * U1) U1 (n + n + 1) → Q r H') : rOwnI C (spArith C (fun p1 q1 p2 q2 => p1 * q2 - p2 * q1) (fun p1 q1 p2 q2 => q1 * q2)) E0 x (.int k0) H Q := by
  have c1 := R1.isC
  obtain ⟨p1, q1, R1, e1, u1, z1, n0⟩ := R1
  have hq1 : q1 ≠ 0 := by have := R1.pos; omega
  have h1n : (1 : Int).natAbs < 2 ^ n := Nat.one_lt_two_pow (by omega)
  have z2 : Sz n k0 1 := ⟨hk, h1n⟩
  refine ⟨c1, ⟨_, rfl⟩, x, _, p1, q1, k0, 1, n, rfl, R1, .int k0, z1, z2, n0, by omega, fun r p q H' sm R nf => k r H' sm ⟨p, q, R, ?_, u1, ⟨Nat.lt_of_le_of_lt nf.le1 (sz_sub z1.1 z2.2 z2.1 z1.2), Nat.lt_of_le_of_lt nf.le2 (Nat.lt_of_lt_of_le (wide_lt z1.2 z2.2) (Nat.pow_le_pow_right (by decide) (by omega)))⟩, by omega⟩⟩
  have e3 := nf.eq
  exact Int.eq_of_mul_eq_mul_right hq1 (by grind)
theorem st_mul (R1 : Rp C H x O1 U1 n) (R2 : Rp C H y O2 U2 n) (hn : n ≤ 2000) (k : ∀ r H', Same H H' → Rp C H' r (O1 * O2) (U1 * U2) (n + n + 1) → Q r H') : rOwnB C (spArith C (fun p1 q1 p2 q2 => p1 * p2) (fun p1 q1 p2 q2 => q1 * q2)) E0 x y H Q := by
  have c1 := R1.isC
  have c2 := R2.isC
  obtain ⟨p1, q1, R1, e1, u1, z1, n0⟩ := R1
  obtain ⟨p2, q2, R2, e2, u2, z2, _⟩ := R2
  have hq1 : q1 ≠ 0 := by have := R1.pos; omega
  have hq2 : q2 ≠ 0 := by have := R2.pos; omega
  refine ⟨c1, c2, x, y, p1, q1, p2, q2, n, rfl, R1, .rat R2, z1, z2, n0, by omega, fun r p q H' sm R nf => k r H' sm ⟨p, q, R, ?_, Int.mul_ne_zero u1 u2, ⟨Nat.lt_of_le_of_lt nf.le1 (Nat.lt_of_lt_of_le (wide_lt z1.1 z2.1) (Nat.pow_le_pow_right (by decide) (by omega))), Nat.lt_of_le_of_lt nf.le2 (Nat.lt_of_lt_of_le (wide_lt z1.2 z2.2) (Nat.pow_le_pow_right (by decide) (by omega)))⟩, by omega⟩⟩
  have e3 := nf.eq
  exact Int.eq_of_mul_eq_mul_right (Int.mul_ne_zero hq1 hq2) (by grind)
theorem st_mulI {k0 : Int} (R1 : Rp C H x O1 U1 n) (hk : k0.natAbs < 2 ^ n) (hn : n ≤ 2000) (k : ∀ r H', Same H H' → Rp C H' r (O1 * k0) U1 (n + n + 1) → Q r H') : rOwnI C (spArith C (fun p1 q1 p2 q2 => p1 * p2) (fun p1 q1 p2 q2 => q1 * q2)) E0 x (.int k0) H Q := by
  have c1 := R1.isC
  obtain ⟨p1, q1, R1, e1, u1, z1, n0⟩ := R1
  have hq1 : q1 ≠ 0 := by have := R1.pos; omega
  have h1n : (1 : Int).natAbs < 2 ^ n := Nat.one_lt_two_pow (by omega)
  have z2 : Sz n k0 1 := ⟨hk, h1n⟩
  refine ⟨c1, ⟨_, rfl⟩, x, _, p1, q1, k0, 1, n, rfl, R1, .int k0, z1, z2, n0, by omega, fun r p q H' sm R nf => k r H' sm ⟨p, q, R, ?_, u1, ⟨Nat.lt_of_le_of_lt nf.le1 (Nat.lt_of_lt_of_le (wide_lt z1.1 z2.1) (Nat.pow_le_pow_right (by decide) (by omega))), Nat.lt_of_le_of_lt nf.le2 (Nat.lt_of_lt_of_le (wide_lt z1.2 z2.2) (Nat.pow_le_pow_right (by decide) (by omega)))⟩, by omega⟩⟩
  have e3 := nf.eq
  exact Int.eq_of_mul_eq_mul_right hq1 (by grind)
theorem st_addR {k0 : Int} (R1 : Rp C H x O1 U1 n) (hk : k0.natAbs < 2 ^ n) (hn : n ≤ 2000) (k : ∀ r H', Same H H' → Rp C H' r (O1 + k0 * U1) U1 (n + n + 1) → Q r H') : rOwnR C (spArithI C (fun p1 q1 p2 q2 => p1 * q2 + p2 * q1) (fun p1 q1 p2 q2 => q1 * q2)) E0 (.int k0) x H Q := by
  have c1 := R1.isC
  obtain ⟨p1, q1, R1, e1, u1, z1, n0⟩ := R1
  have hq1 : q1 ≠ 0 := by have := R1.pos; omega
  have h1n : (1 : Int).natAbs < 2 ^ n := Nat.one_lt_two_pow (by omega)
  have z2 : Sz n k0 1 := ⟨hk, h1n⟩
  refine ⟨⟨_, rfl⟩, c1, k0, rfl, x, _, p1, q1, k0, 1, n, rfl, R1, .int k0, z1, z2, n0, by omega, fun r p q H' sm R nf => k r H' sm ⟨p, q, R, ?_, u1, ⟨Nat.lt_of_le_of_lt nf.le1 (sz_add z1.1 z2.2 z2.1 z1.2), Nat.lt_of_le_of_lt nf.le2 (Nat.lt_of_lt_of_le (wide_lt z1.2 z2.2) (Nat.pow_le_pow_right (by decide) (by omega)))⟩, by omega⟩⟩
  have e3 := nf.eq
  exact Int.eq_of_mul_eq_mul_right hq1 (by grind)
theorem st_subR {k0 : Int} (R1 : Rp C H x O1 U1 n) (hk : k0.natAbs < 2 ^ n) (hn : n ≤ 2000) (k : ∀ r H', Same H H' → Rp C H' r (k0 * U1 - O1) U1 (n + n + 1) → Q r H') : rOwnR C (spArithI C (fun p1 q1 p2 q2 => p2 * q1 - p1 * q2) (fun p1 q1 p2 q2 => q2 * q1)) E0 (.int k0) x H Q := by
  have c1 := R1.isC
  obtain ⟨p1, q1, R1, e1, u1, z1, n0⟩ := R1
  have hq1 : q1 ≠ 0 := by have := R1.pos; omega
  have h1n : (1 : Int).natAbs < 2 ^ n := Nat.one_lt_two_pow (by omega)
  have z2 : Sz n k0 1 := ⟨hk, h1n⟩
  refine ⟨⟨_, rfl⟩, c1, k0, rfl, x, _, p1, q1, k0, 1, n, rfl, R1, .int k0, z1, z2, n0, by omega, fun r p q H' sm R nf => k r H' sm ⟨p, q, R, ?_, u1, ⟨Nat.lt_of_le_of_lt nf.le1 (sz_sub z2.1 z1.2 z1.1 z2.2), Nat.lt_of_le_of_lt nf.le2 (Nat.lt_of_lt_of_le (wide_lt z2.2 z1.2) (Nat.pow_le_pow_right (by decide) (by omega)))⟩, by omega⟩⟩
  have e3 := nf.eq
  exact Int.eq_of_mul_eq_mul_right hq1 (by grind)
theorem st_mulR {k0 : Int} (R1 : Rp C H x O1 U1 n) (hk : k0.natAbs < 2 ^ n) (hn : n ≤ 2000) (k : ∀ r H', Same H H' → Rp C H' r (O1 * k0) U1 (n + n + 1) → Q r H') : rOwnR C (spArithI C (fun p1 q1 p2 q2 => p1 * p2) (fun p1 q1 p2 q2 => q1 * q2)) E0 (.int k0) x H Q := by
  have c1 := R1.isC
  obtain ⟨p1, q1, R1, e1, u1, z1, n0⟩ := R1
  have hq1 : q1 ≠ 0 := by have := R1.pos; omega
  have h1n : (1 : Int).natAbs < 2 ^ n := Nat.one_lt_two_pow (by omega)
  have z2 : Sz n k0 1 := ⟨hk, h1n⟩
  refine ⟨⟨_, rfl⟩, c1, k0, rfl, x, _, p1, q1, k0, 1, n, rfl, R1, .int k0, z1, z2, n0, by omega, fun r p q H' sm R nf => k r H' sm ⟨p, q, R, ?_, u1, ⟨Nat.lt_of_le_of_lt nf.le1 (Nat.lt_of_lt_of_le (wide_lt z1.1 z2.1) (Nat.pow_le_pow_right (by decide) (by omega))), Nat.lt_of_le_of_lt nf.le2 (Nat.lt_of_lt_of_le (wide_lt z1.2 z2.2) (Nat.pow_le_pow_right (by decide) (by omega)))⟩, by omega⟩⟩
  have e3 := nf.eq
  exact Int.eq_of_mul_eq_mul_right hq1 (by grind)
end
/-! ### str(x) by an own __str__; a static method read off its class -/
section
variable {X : Cx} {CX : CXT} {k : Nat} {f C : Addr} {fd : FuncData} {ps : List Str} {sp : Sp} {E : XK}
def rStrO (C : Addr) (sp : Sp) (E : XK) : List V → Hp → VK → Prop := fun xs H Q => ∃ x, xs = [x] ∧ IsC C H x ∧ sp [x] H (fun v H' => ∃ y : Str, v = .str y ∧ Q v H') E
theorem call_strO (hs : PySem.W.findIn X.K (.ref C) "__str__" = some (some (.ref f))) (hf : PySem.W.isFn X.K (.ref f) = true) (F : FnOk X.prog X.w X.K X.mg X.base CX k f fd ps sp) (hr : Room (k + 1 + 1) X.A) (hb : Binds X.K fd ps []) (hx : Passes CX X E) :
    CallR X (.type "str") (rStrO C sp E) := by
  intro pins s σ H xs us Q I r h
  obtain ⟨x, rfl, ⟨a, dx, fs, rfl, ha⟩, q⟩ := h
  obtain ⟨u, rfl, ru⟩ := vals1 r
  cases (show u = Value.ref a from ru)
  obtain ⟨oa, J⟩ := inst_of I ha
  refine PySem.W.kso_call (A := X.A) (Room.in1 (Room.in1 hr)).units0 I.kIn J hs hf (wpAny_mono (run_deep (vs := [.ref a]) F (Room.in1 (Room.in1 hr)) I.env0.in1.in1 hb hx I (.cons rfl .nil) q) (fun w s' z => ?_) fun _ _ x => x)
  obtain ⟨z', H', I', rz, y, rfl, qz⟩ := z
  obtain ⟨t, rfl⟩ := (show ∃ t, w = Value.str y t from rz)
  exact ⟨.str y, H', I', ⟨t, rfl⟩, qz⟩
/-- the static method m of C: the def at f -/
structure SMet (K : PySem.W.Frag) (C : Addr) (m : Str) (f : Addr) : Prop where
  rd : PySem.W.readsIn K C (.type "type") = true
  ga : PySem.W.specialIn K (.ref C) "__getattribute__" = some (some (.builtin "type.__getattribute__"))
  at_ : ∃ p rest, PySem.W.findCls K (.ref C) (.type "type") m = some (.get (.builtin "staticmethod.__get__") (.ref p) .none (.ref C)) ∧ PySem.W.recIn K p "staticmethod" = some (.ref f :: rest)
/-- C.m() -/
def tSM0 (C : Addr) (sp : Sp) (E : XK) (ta : TE) : TE := fun σ H Q => ta σ H fun x H1 => x = .ref C ∧ sp [] H1 Q E
theorem pe_smeth0 {o : Expr} {m : Str} {pos apos : Pos} {ta : TE} {pl : Sem Bool} (he : PE X o ta) (M : SMet X.K C m f) (F : FnOk X.prog X.w X.K X.mg X.base CX k f fd ps sp) (kp : PySem.W.keepIn X.K (.ref f) = true) (hr : Room k X.A) (hb : Binds X.K fd ps []) (hx : Passes CX X E)
    (ht : eval (.Call (.Attribute o m apos) [] [] pos) X.env = (do
      let ov ← eval o X.env
      standAt apos.atName
      let (f, first) ← holding [ov] (getMethod ov m pl)
      callWith pos f first (backTo pos (starEach [] X.env)) (backToKw pos (keywordEach [] X.env))) := by rfl) :
    PE X (.Call (.Attribute o m apos) [] [] pos) (tSM0 C sp E ta) := by
  refine ⟨fun pins s σ H Q I h => ?_⟩
  refine PySem.W.methodCall_KW (pl := pl) (thn (he.run pins s σ H _ I h) fun u s1 ⟨x, H1, I1, rx, ex, q⟩ => ?_) ht
  subst ex
  obtain rfl : u = Value.ref C := rx
  obtain ⟨p, rest, e, hp⟩ := M.at_
  refine PySem.W.method_cls I1.kIn M.ga ?_
  refine PySem.W.cls_bind I1.kIn M.rd e (wpAny_call (PySem.W.sm_get (s := { s1 with toks := s1.toks + 1 }) I1.kIn hp (PySem.W.handed_on rfl ?_)))
  have I2 : Inv X pins σ H1 { s1 with toks := s1.toks + 1 } := I1.tok _
  exact PySem.W.callWith_K0 (first := []) I2.kIn kp (run_fn (us := []) (vs := []) F hr hb .nil hx I2 .nil (by simpa using q))
end
/-! ### the text of a number -/
open TL (tl)
def dig (c : Nat) : Bool := decide (48 ≤ c) && decide (c ≤ 57)
def Asc (x : Str) : Prop := ∀ c ∈ tl x, c < 128
def okN (l : List Nat) : Bool := !l.isEmpty && l.all dig && decide (l.length ≤ 4) && (l == [48] || l.head? != some 48)
def val (l : List Nat) : Nat := NumText.digitsVal l
theorem isDigit_asc {c : Nat} (h : c < 128) : Unicode.isDigit c = dig c := by
  have k : ∀ n : _root_.Fin 128, Unicode.isDigit n.val = dig n.val := by decide +kernel
  exact k ⟨c, h⟩
theorem find_dig {c : Nat} (h : c < 128) : Txt.find ("0123456789" : Str) ⟨#[c]⟩ = if dig c = true then (c : Int) - 48 else -1 := by
  have k : ∀ n : _root_.Fin 128, Txt.find ("0123456789" : Str) ⟨#[n.val]⟩ = if dig n.val = true then (n.val : Int) - 48 else -1 := by decide +kernel
  exact k ⟨c, h⟩
theorem asc_isascii {x : Str} (h : Asc x) : Txt.isascii x = true := by
  unfold Txt.isascii
  rw [Array.all_eq_true']
  intro c hc
  exact decide_eq_true (h c (Array.mem_toList_iff.mpr hc))
theorem asc_strOk {x : Str} (h : Asc x) : PyData.strOk x = true := by
  unfold PyData.strOk
  rw [Array.all_eq_true']
  intro c hc
  have := h c (Array.mem_toList_iff.mpr hc)
  exact decide_eq_true (by omega)
theorem asc_isdigit {x : Str} (h : Asc x) : Txt.isdigit x = (!(tl x).isEmpty && (tl x).all dig) := by
  have e1 : decide (x.length > 0) = !(tl x).isEmpty := by
    rw [TL.len_tl]
    cases tl x with
    | nil => rfl
    | cons a l => exact decide_eq_true (by simp)
  have e2 : x.cps.all Unicode.isDigit = (tl x).all dig := by
    rw [← Array.all_toList]
    have key : ∀ l : List Nat, (∀ c ∈ l, c < 128) → l.all Unicode.isDigit = l.all dig := fun l => by
      induction l with
      | nil => exact fun _ => rfl
      | cons a l ih =>
        intro h
        rw [List.all_cons, List.all_cons, isDigit_asc (h a List.mem_cons_self), ih fun c hc => h c (List.mem_cons_of_mem _ hc)]
    exact key _ h
  unfold Txt.isdigit
  rw [e1, e2]
theorem starts0 (x : Str) : Txt.startswith x ("0" : Str) = ((tl x).head? == some 48) := by
  have e1 : ("0" : Str).length = 1 := rfl
  have e2 : tl ("0" : Str) = [48] := rfl
  by_cases hx : tl x = []
  · have : x.length = 0 := by rw [TL.len_tl, hx] <;> rfl
    unfold Txt.startswith
    rw [e1, this, hx]
    rfl
  · have hlen : 0 < x.length := by rw [TL.len_tl]; exact List.length_pos_iff.mpr hx
    have ha := TL.at_iff (x := x) (y := ("0" : Str)) (by rw [e2]; simp) 0
    rw [List.drop_zero, e2] at ha
    unfold Txt.startswith
    have e3 : decide (0 + ("0" : Str).length ≤ x.length) = true := decide_eq_true (by rw [e1]; omega)
    rw [e3, Bool.true_and]
    rw [Bool.eq_iff_iff]
    have h4 : Builtin.Str.subAt x ("0" : Str) 0 = true ↔ PySem.StrLaws.At x ("0" : Str) x.length 0 := ⟨fun h => ⟨by rw [e1]; omega, h⟩, fun h => h.2⟩
    rw [h4, ha]
    cases hl : tl x with
    | nil => exact absurd hl hx
    | cons a l =>
      unfold TL.pre
      simp
/-- what the top has left -/
structure Ctx (K : PySem.W.Frag) (mg : Str → Option Value) where
  c_VoteError : Addr
  gc_VoteError : mg "VoteError" = some (.ref c_VoteError)
  c_BadNumber : Addr
  gc_BadNumber : mg "BadNumber" = some (.ref c_BadNumber)
  c_Ratio : Addr
  gc_Ratio : mg "Ratio" = some (.ref c_Ratio)
  f_BadNumber_init : Addr
  fd_BadNumber_init : FuncData
  F_BadNumber_init : Fun K "__init__" "BadNumber.__init__" s_BadNumber_init f_BadNumber_init fd_BadNumber_init
  b_BadNumber_init : Binds K fd_BadNumber_init ["self", "what", "value"] []
  f_is_integer : Addr
  fd_is_integer : FuncData
  F_is_integer : Fun K "is_integer" "is_integer" s_is_integer f_is_integer fd_is_integer
  b_is_integer : Binds K fd_is_integer ["value"] []
  g_is_integer : mg "is_integer" = some (.ref f_is_integer)
  f_check_number : Addr
  fd_check_number : FuncData
  F_check_number : Fun K "check_number" "check_number" s_check_number f_check_number fd_check_number
  b_check_number : Binds K fd_check_number ["what", "value", "low", "high"] []
  g_check_number : mg "check_number" = some (.ref f_check_number)
  f_is_number : Addr
  fd_is_number : FuncData
  F_is_number : Fun K "is_number" "is_number" s_is_number f_is_number fd_is_number
  b_is_number : Binds K fd_is_number ["text"] []
  g_is_number : mg "is_number" = some (.ref f_is_number)
  f_Ratio_init : Addr
  fd_Ratio_init : FuncData
  F_Ratio_init : FunD K "__init__" "Ratio.__init__" (defArgs s_Ratio_init) (defBody s_Ratio_init) (defScope s_Ratio_init) [.int 1] [] f_Ratio_init fd_Ratio_init
  d_Ratio_init1 : List Value
  v_Ratio_init1 : Vals (List.drop 0 [.int 1]) d_Ratio_init1
  b_Ratio_init1 : Binds K fd_Ratio_init ["self", "over", "under"] d_Ratio_init1
  d_Ratio_init2 : List Value
  v_Ratio_init2 : Vals (List.drop 1 [.int 1]) d_Ratio_init2
  b_Ratio_init2 : Binds K fd_Ratio_init ["self", "over", "under"] d_Ratio_init2
  f_ratio_of : Addr
  fd_ratio_of : FuncData
  F_ratio_of : Fun K "ratio_of" "ratio_of" s_ratio_of f_ratio_of fd_ratio_of
  b_ratio_of : Binds K fd_ratio_of ["value"] []
  g_ratio_of : mg "ratio_of" = some (.ref f_ratio_of)
  f_read_ratio : Addr
  fd_read_ratio : FuncData
  F_read_ratio : Fun K "read_ratio" "read_ratio" s_read_ratio f_read_ratio fd_read_ratio
  b_read_ratio : Binds K fd_read_ratio ["text"] []
  g_read_ratio : mg "read_ratio" = some (.ref f_read_ratio)
  f_Ratio_eq : Addr
  fd_Ratio_eq : FuncData
  F_Ratio_eq : Fun K "__eq__" "Ratio.__eq__" s_Ratio_eq f_Ratio_eq fd_Ratio_eq
  b_Ratio_eq : Binds K fd_Ratio_eq ["self", "other"] []
  me_Ratio_eq : Meth K c_Ratio "__eq__" f_Ratio_eq
  f_Ratio_str : Addr
  fd_Ratio_str : FuncData
  F_Ratio_str : Fun K "__str__" "Ratio.__str__" s_Ratio_str f_Ratio_str fd_Ratio_str
  b_Ratio_str : Binds K fd_Ratio_str ["self"] []
  me_Ratio_str : Meth K c_Ratio "__str__" f_Ratio_str
  f_l_start : Addr
  fd_l_start : FuncData
  F_l_start : Fun K "_law_start" "_law_start" s_l_start f_l_start fd_l_start
  b_l_start : Binds K fd_l_start ["_law_script"] []
  g_l_start : mg "_law_start" = some (.ref f_l_start)
  f_l_draw : Addr
  fd_l_draw : FuncData
  F_l_draw : Fun K "_law_draw" "_law_draw" s_l_draw f_l_draw fd_l_draw
  b_l_draw : Binds K fd_l_draw ["_law_script", "_law_state", "_law_limit"] []
  g_l_draw : mg "_law_draw" = some (.ref f_l_draw)
  f_l_told : Addr
  fd_l_told : FuncData
  F_l_told : Fun K "_law_told" "_law_told" s_l_told f_l_told fd_l_told
  b_l_told : Binds K fd_l_told ["_law_text"] []
  g_l_told : mg "_law_told" = some (.ref f_l_told)
  f_l_number : Addr
  fd_l_number : FuncData
  F_l_number : Fun K "_law_number" "_law_number" s_l_number f_l_number fd_l_number
  b_l_number : Binds K fd_l_number ["_law_text"] []
  g_l_number : mg "_law_number" = some (.ref f_l_number)
  f_l_due : Addr
  fd_l_due : FuncData
  F_l_due : Fun K "_law_due" "_law_due" s_l_due f_l_due fd_l_due
  b_l_due : Binds K fd_l_due ["_law_text"] []
  g_l_due : mg "_law_due" = some (.ref f_l_due)
  f_law : Addr
  fd_law : FuncData
  F_law : Fun K "law" "law" s_law f_law fd_law
  b_law : Binds K fd_law ["_law_script"] []
  g_law : mg "law" = some (.ref f_law)
  ox_BadNumber : OexC K c_BadNumber
  xn_BadNumber : PySem.W.findIn K (.ref c_BadNumber) "__init__" = some (some (.ref f_BadNumber_init))
  xt_BadNumber : PySem.W.typeIn K (.ref f_BadNumber_init) = some (.type "function")
  xf_BadNumber : XfC K c_BadNumber
  xi_BadNumber : XiC K c_BadNumber
  n_BadNumber_what : PySem.W.findIn K (.ref c_BadNumber) "what" = some none
  n_BadNumber_value : PySem.W.findIn K (.ref c_BadNumber) "value" = some none
  cl_Ratio : Cls K c_Ratio
  M_Ratio : Mk K c_Ratio f_Ratio_init
  oc_Ratio : OpC K c_Ratio
  ic_Ratio : InsC K c_Ratio
  n_Ratio_over : NoAttr K c_Ratio "over"
  n_Ratio_under : NoAttr K c_Ratio "under"
  ki_Ratio_Ratio : PySem.W.kitOne K (.ref c_Ratio) (.ref c_Ratio) = some true
  ki_int_Ratio : PySem.W.kitOne K (.type "int") (.ref c_Ratio) = some false
  ex_BadNumber_BadNumber : PySem.W.exmOne K (.ref c_BadNumber) (.ref c_BadNumber) = some true
  gi_gcd : mg "gcd" = some (.builtin "math.gcd")
  gt_MOST_DIGITS : Tok
  gk_MOST_DIGITS : mg "MOST_DIGITS" = some (.int 4 gt_MOST_DIGITS)
  m_abs : mg "abs" = none
  m_bool : mg "bool" = none
  m_int : mg "int" = none
  m_isinstance : mg "isinstance" = none
  m_len : mg "len" = none
  m_range : mg "range" = none
  m_str : mg "str" = none

section
variable {P : Program} {w : World} {K : PySem.W.Frag} {mg : Str → Option Value} {base : Heap}
theorem ok_l_start (T : Ctx K mg) : FnOk P w K mg base CX0 1 T.f_l_start T.fd_l_start ["_law_script"] (spStart K) := by
  refine T.F_l_start.ok sc_l_start (fun vs H Q E h => ?_) (fun cdv A outer s H vs Q E hr h => ?_)
  · obtain ⟨l, ns, rfl, _⟩ := h
    rfl
  · obtain ⟨l, ns, rfl, hS, q⟩ := h
    refine ⟨_, (pss_cons (ps_set (i := 1) sc_l_start.nd rfl (Or.inl rfl) pe_int)
      (Evl.pss_cut (ps_if (pt_cmpR op_gt (pe_callB call_len_seq (by rfl) T.m_len (by decide +kernel) (pa_cons (pv 0) pa_nil)) pe_int (nomark _))
        (pss_one (ps_set (i := 1) sc_l_start.nd rfl (Or.inl rfl) (pe_ix ix_list (pv 0) pe_int (fun _ _ => rfl))))
        pss_nil)
      (pss_one (ps_ret (pe_lst (pa_cons (pe_callB call_abs (by rfl) T.m_abs (by decide +kernel) (pa_cons (pe_callTy call_int1 (by rfl) T.m_int (by decide +kernel) (pa_cons (pv 1) pa_nil)) pa_nil)) (pa_cons (pe_callTy call_int1 (by rfl) T.m_int (by decide +kernel) (pa_cons (pe_cmpR op_ge (pe_callB call_abs (by rfl) T.m_abs (by decide +kernel) (pa_cons (pe_callTy call_int1 (by rfl) T.m_int (by decide +kernel) (pa_cons (pv 1) pa_nil)) pa_nil)) (pe_op op_pow pe_int pe_int) (nomark _)) pa_nil)) (pa_cons pe_int (pa_cons pe_int pa_nil))))))))), ?_⟩
    refine ⟨fun σ' H' => H' = H ∧ ∃ z : Int, σ' = [some (.ref l), some (.int z)], ?_, ?_⟩
    · refine ⟨_, rfl, l, _, rfl, .inl hS, _, _, rfl, rfl, _, rfl, ?_⟩
      refine ite2 (fun hc => ?_) fun hc => ⟨rfl, 0, rfl⟩
      have hn : 0 < ns.length := by
        have := of_decide_eq_true hc
        rw [List.length_map] at this
        omega
      refine ⟨_, rfl, l, _, _, .int ns[0], rfl, rfl, hS, at_of (j := 0) rfl (by rw [List.getElem?_map, List.getElem?_eq_getElem hn]; rfl), ?_⟩
      exact ⟨rfl, _, rfl⟩
    · rintro σ' H' ⟨rfl, z, rfl⟩
      refine ⟨_, rfl, .inl ⟨_, rfl, _, rfl, ?_⟩⟩
      refine ⟨_, rfl, .inl ⟨_, rfl, _, rfl, _, _, rfl, rfl, ⟨by decide, by decide, by decide⟩, _, _, rfl, rfl, .inr ⟨_, rfl, ?_⟩⟩⟩
      refine ⟨by show 4 ≤ sizeLine; decide, fun t ht => ?_⟩
      exact q t _ ht ⟨⟨ns, hS⟩, ht, same_upd ht, ⟨_, _, _, _, upd_same⟩⟩ (But.refl.upd)
theorem ok_l_draw (T : Ctx K mg) : FnOk P w K mg base CX0 1 T.f_l_draw T.fd_l_draw ["_law_script", "_law_state", "_law_limit"] (spDraw K) := by
  refine T.F_l_draw.ok sc_l_draw (fun vs H Q E h => ?_) (fun cdv A outer s H vs Q E hr h => ?_)
  · obtain ⟨l, t, m, H0, rfl, _⟩ := h
    rfl
  · obtain ⟨l, t, m, H0, rfl, D, hm, hm2, q⟩ := h
    obtain ⟨a, b, c, d, ht⟩ := D.st
    have fin : ∀ (z : Int) H', But t H H' → Drw K H0 l t H' → Q (.int (z.fmod m)) H' := fun z H' e1 D' =>
      q _ _ (Int.fmod_nonneg_of_pos _ hm) (Int.fmod_lt_of_pos _ hm) e1 D'
    refine ⟨_, (pss_cons (ps_asg (pe_op op_add (pe_ix ix_list (pv 1) pe_int (fun _ _ => rfl)) pe_int) (pg_sub (pv 1) pe_int set_list))
      (Evl.pss_cut (ps_if (PW.pt (pw_and (pt_cmpR op_eq (pe_ix ix_list (pv 1) pe_int (fun _ _ => rfl)) pe_int (nomark _)) (pw_and1 (pt_cmpR op_gt (pe_ix ix_list (pv 1) pe_int (fun _ _ => rfl)) pe_int (nomark _)))))
        (pss_cons (ps_set (i := 3) sc_l_draw.nd rfl (Or.inl rfl) (pe_op op_modN (pe_callTy call_int1 (by rfl) T.m_int (by decide +kernel) (pa_cons (pe_ix ix_list (pv 1) pe_int (fun _ _ => rfl)) pa_nil)) (pv 2)))
        (pss_cons (ps_asg (pe_op op_fdivN (pe_ix ix_list (pv 1) pe_int (fun _ _ => rfl)) (pv 2)) (pg_sub (pv 1) pe_int set_list))
        (pss_one (ps_ret (pv 3)))))
        pss_nil)
      (pss_cons (ps_asg pe_int (pg_sub (pv 1) pe_int set_list))
      (pss_cons (ps_set (i := 4) sc_l_draw.nd rfl (Or.inl rfl) pe_int)
      (Evl.pss_cut (ps_if (pt_cmpR op_gt (pe_callB call_len_seq (by rfl) T.m_len (by decide +kernel) (pa_cons (pv 0) pa_nil)) pe_int (nomark _))
        (pss_one (ps_set (i := 4) sc_l_draw.nd rfl (Or.inl rfl) (pe_ix ix_list (pv 0) (pe_op op_modN (pe_callTy call_int1 (by rfl) T.m_int (by decide +kernel) (pa_cons (pe_ix ix_list (pv 1) pe_int (fun _ _ => rfl)) pa_nil)) (pe_callB call_len_seq (by rfl) T.m_len (by decide +kernel) (pa_cons (pv 0) pa_nil))) (fun _ _ => rfl))))
        pss_nil)
      (pss_cons (ps_asg (pe_op op_add (pe_ix ix_list (pv 1) pe_int (fun _ _ => rfl)) pe_int) (pg_sub (pv 1) pe_int set_list))
      (pss_cons (ps_set (i := 5) sc_l_draw.nd rfl (Or.inl rfl) (pe_op op_mul (pe_op op_mod (pe_callTy call_int1 (by rfl) T.m_int (by decide +kernel) (pa_cons (pe_ix ix_list (pv 1) pe_int (fun _ _ => rfl)) pa_nil)) pe_int) pe_int))
      (pss_cons (ps_set (i := 5) sc_l_draw.nd rfl (Or.inl rfl) (pe_op op_add (pe_op op_add (pe_op op_add (pv 5) (pe_op op_mod (pe_callTy call_int1 (by rfl) T.m_int (by decide +kernel) (pa_cons (pv 4) pa_nil)) pe_int)) (pe_op op_mul pe_int (pe_ix ix_list (pv 1) pe_int (fun _ _ => rfl)))) pe_int))
      (pss_cons (ps_asg (pe_op op_mod (pe_callTy call_int1 (by rfl) T.m_int (by decide +kernel) (pa_cons (pv 5) pa_nil)) pe_int) (pg_sub (pv 1) pe_int set_list))
      (pss_cons (ps_set (i := 5) sc_l_draw.nd rfl (Or.inl rfl) (pe_op op_mod (pe_callTy call_int1 (by rfl) T.m_int (by decide +kernel) (pa_cons (pe_op op_add (pe_op op_mul (pe_ix ix_list (pv 1) pe_int (fun _ _ => rfl)) pe_int) (pe_ix ix_list (pv 1) pe_int (fun _ _ => rfl))) pa_nil)) pe_int))
      (pss_one (ps_ret (pe_op op_modN (pe_callTy call_int1 (by rfl) T.m_int (by decide +kernel) (pa_cons (pe_op op_fdiv (pv 5) pe_int) pa_nil)) (pv 2)))))))))))))), ?_⟩
    -- state[3] = state[3] + 1
    refine ⟨_, rfl, t, _, _, _, rfl, rfl, SqL.of ht, at3, _, _, rfl, rfl, _, rfl, t, _, _, 3, rfl, rfl, ht, rfl, ?_⟩
    -- the first way
    refine ⟨fun σ' H' => σ' = [some (.ref l), some (.ref t), some (.int m), none, none, none] ∧ H' = upd H t (.lst [.int a, .int b, .int c, .int (d + 1)]), ?_, ?_⟩
    · refine ⟨_, rfl, t, _, _, _, rfl, rfl, SqL.of upd_same, at1, rfl, _, rfl, ?_⟩
      refine ite2 (fun hc => ?_) fun hc => iteF ⟨rfl, rfl⟩
      refine ⟨_, rfl, t, _, _, _, rfl, rfl, SqL.of upd_same, at0, _, _, rfl, rfl, _, rfl, ?_⟩
      refine ite2 (fun hc => ?_) fun hc => ⟨rfl, rfl⟩
      refine ⟨_, rfl, t, _, _, _, rfl, rfl, SqL.of upd_same, at0, .inl ⟨_, rfl, _, rfl, _, _, rfl, rfl, by omega, ?_⟩⟩
      refine ⟨_, rfl, t, _, _, _, rfl, rfl, SqL.of upd_same, at0, _, rfl, _, _, rfl, rfl, ⟨by omega, by omega⟩, _, rfl, t, _, _, 0, rfl, rfl, upd_same, rfl, ?_⟩
      exact ⟨_, rfl, fin _ _ (But.refl.upd.upd) (D.upd.upd)⟩
    · rintro σ' H' ⟨rfl, rfl⟩
      -- state[1] = 0; cell = 0
      refine ⟨_, rfl, t, _, _, 1, rfl, rfl, upd_same, rfl, ?_⟩
      have e1 : upd (upd H t (.lst [.int a, .int b, .int c, .int (d + 1)])) t (.lst ([V.int a, .int b, .int c, .int (d + 1)].set 1 (.int 0))) = upd H t (.lst [.int a, .int 0, .int c, .int (d + 1)]) := upd_upd
      rw [e1]
      have D1 : Drw K H0 l t (upd H t (.lst [.int a, .int 0, .int c, .int (d + 1)])) := D.upd
      obtain ⟨ns, hS⟩ := D1.sc
      refine ⟨fun σ' H' => H' = upd H t (.lst [.int a, .int 0, .int c, .int (d + 1)]) ∧ ∃ z : Int, σ' = [some (.ref l), some (.ref t), some (.int m), none, some (.int z), none], ?_, ?_⟩
      · refine ⟨_, rfl, l, _, rfl, .inl hS, _, _, rfl, rfl, _, rfl, ?_⟩
        refine ite2 (fun hc => ?_) fun hc => ⟨rfl, 0, rfl⟩
        have hn : 0 < ns.length := by
          have := of_decide_eq_true hc
          rw [List.length_map] at this
          omega
        have hn' : (0 : Int) < (((ns.map V.int).length : Nat) : Int) := by
          rw [List.length_map]
          omega
        have h0 := Int.fmod_nonneg_of_pos c hn'
        have h1 := Int.fmod_lt_of_pos c hn'
        rw [List.length_map] at h1
        have hj : (c.fmod ((ns.map V.int).length : Nat)).toNat < ns.length := by
          rw [List.length_map] at h0 ⊢
          omega
        refine ⟨_, rfl, _, rfl, t, _, _, _, rfl, rfl, SqL.of upd_same, at2, .inl ⟨_, rfl, _, rfl, l, _, rfl, .inl hS, _, _, rfl, rfl, by omega, ?_⟩⟩
        refine ⟨l, _, _, .int ns[(c.fmod ((ns.map V.int).length : Nat)).toNat], rfl, rfl, hS, at_of (j := (c.fmod ((ns.map V.int).length : Nat)).toNat) (by omega) (by rw [List.getElem?_map, List.getElem?_eq_getElem hj]; rfl), ?_⟩
        exact ⟨rfl, _, rfl⟩
      · rintro σ' H' ⟨rfl, z, rfl⟩
        -- state[2] = state[2] + 1
        refine ⟨_, rfl, t, _, _, _, rfl, rfl, SqL.of upd_same, at2, _, _, rfl, rfl, _, rfl, t, _, _, 2, rfl, rfl, upd_same, rfl, ?_⟩
        have e2 : upd (upd H t (.lst [.int a, .int 0, .int c, .int (d + 1)])) t (.lst ([V.int a, .int 0, .int c, .int (d + 1)].set 2 (.int (c + 1)))) = upd H t (.lst [.int a, .int 0, .int (c + 1), .int (d + 1)]) := upd_upd
        rw [e2]
        have hb := Int.emod_nonneg a (b := 2147483647) (by decide)
        have hb2 := Int.emod_lt_of_pos a (b := 2147483647) (by decide)
        refine ⟨_, rfl, t, _, _, _, rfl, rfl, SqL.of upd_same, at0, .inl ⟨_, rfl, _, _, rfl, rfl, (show (0 : Int) < 2147483647 by decide), _, _, rfl, rfl, .inl ⟨by omega, by omega⟩, ?_⟩⟩
        refine ⟨_, rfl, _, rfl, .inl ⟨_, rfl, _, _, rfl, rfl, (show (0 : Int) < 2147483629 by decide), _, _, rfl, rfl, _, rfl, t, _, _, _, rfl, rfl, SqL.of upd_same, at3, _, _, rfl, rfl, .inl ⟨by decide, by decide⟩, _, _, rfl, rfl, _, _, rfl, rfl, ?_⟩⟩
        refine ⟨_, rfl, .inl ⟨_, rfl, _, _, rfl, rfl, (show (0 : Int) < 2147483647 by decide), _, rfl, t, _, _, 0, rfl, rfl, upd_same, rfl, ?_⟩⟩
        generalize hw : (a % 2147483647 * 48271 + z % 2147483629 + 7 * (d + 1) + 11) = w'
        have e3 : upd (upd H t (.lst [.int a, .int 0, .int (c + 1), .int (d + 1)])) t (.lst ([V.int a, .int 0, .int (c + 1), .int (d + 1)].set 0 (.int (w' % 2147483647)))) = upd H t (.lst [.int (w' % 2147483647), .int 0, .int (c + 1), .int (d + 1)]) := upd_upd
        rw [e3]
        have hc := Int.emod_nonneg w' (b := 2147483647) (by decide)
        have hc2 := Int.emod_lt_of_pos w' (b := 2147483647) (by decide)
        refine ⟨_, rfl, t, _, _, _, rfl, rfl, SqL.of upd_same, at0, _, _, rfl, rfl, .inl ⟨by omega, by omega⟩, _, rfl, t, _, _, _, rfl, rfl, SqL.of upd_same, at3, _, _, rfl, rfl, .inl ⟨_, rfl, _, _, rfl, rfl, (show (0 : Int) < 2147483629 by decide), ?_⟩⟩
        refine ⟨_, rfl, _, _, rfl, rfl, ⟨by decide, by decide⟩, .inl ⟨_, rfl, _, rfl, _, _, rfl, rfl, by omega, ?_⟩⟩
        exact fin _ _ But.refl.upd D.upd
end
section
variable {P : Program} {w : World} {K : PySem.W.Frag} {mg : Str → Option Value} {base : Heap}
theorem ok_BadNumber_init (T : Ctx K mg) : FnOk P w K mg base CX0 1 T.f_BadNumber_init T.fd_BadNumber_init ["self", "what", "value"] (spX2 T.c_BadNumber "what" "value") := by
  refine T.F_BadNumber_init.ok sc_BadNumber_init (fun vs H Q E h => ?_) (fun cdv A outer s H vs Q E hr h => ?_)
  · obtain ⟨a, x, y, rfl, _⟩ := h
    rfl
  · obtain ⟨a, x, y, rfl, ha, q⟩ := h
    refine ⟨_, (pss_cons (ps_ost (pv 0) (pv 1))
      (pss_one (ps_ost (pv 0) (pv 2)))), ?_⟩
    refine ⟨_, rfl, _, rfl, a, T.c_BadNumber, rfl, T.ox_BadNumber, T.n_BadNumber_what, .inl ⟨ha, fun d hd hda => ?_⟩⟩
    refine ⟨_, rfl, _, rfl, a, T.c_BadNumber, rfl, T.ox_BadNumber, T.n_BadNumber_value, .inr ⟨d, [("what", x)], upd_same, ?_, by show 1 ≤ 900; decide, ?_⟩⟩
    · rw [upd_ne hda, upd_same]
    · exact q d hd hda
theorem ok_is_integer (T : Ctx K mg) : FnOk P w K mg base CX0 1 T.f_is_integer T.fd_is_integer ["value"] (spIsInt K) := by
  refine T.F_is_integer.ok sc_is_integer (fun vs H Q E h => ?_) (fun cdv A outer s H vs Q E hr h => ?_)
  · obtain ⟨x, rfl, _⟩ := h
    rfl
  · obtain ⟨x, rfl, ⟨t, b1, b2, ty, k1, k2, e⟩, q⟩ := h
    refine ⟨_, (pss_one (ps_ret (pe_and (pe_callB call_isi (by rfl) T.m_isinstance (by decide +kernel) (pa_cons (pv 0) (pa_cons (pe_bltn (v := .ty "int") (by rfl) T.m_int (by decide +kernel) rfl) pa_nil))) (pe_one (pe_not (pe_callB call_isi (by rfl) T.m_isinstance (by decide +kernel) (pa_cons (pv 0) (pa_cons (pe_bltn (v := .ty "bool") (by rfl) T.m_bool (by decide +kernel) rfl) pa_nil)))))))), ?_⟩
    refine ⟨_, rfl, _, _, _, _, _, rfl, .ty _, ty, k1, b1, rfl, ?_⟩
    rw [← e] at q
    cases b1 with
    | false => exact iteF q
    | true => exact iteT ⟨_, rfl, _, _, _, _, _, rfl, .ty _, ty, k2 rfl, b2, rfl, q⟩
theorem ok_check_number (T : Ctx K mg) : FnOk P w K mg base (L2.CX P w) 3 T.f_check_number T.fd_check_number ["what", "value", "low", "high"] (spCheck K T.c_BadNumber) := by
  refine T.F_check_number.okX sc_check_number (fun vs H Q E h => ?_) (fun cdv A outer s H vs Q E hr h => ?_)
  · obtain ⟨w, x, lo, hi, rfl, _⟩ := h
    rfl
  · obtain ⟨w, x, lo, hi, rfl, kn, q1, q2⟩ := h
    refine ⟨_, (pss_cons (ps_if (pt_not (pt_val (pe_call (ok_is_integer T) (hr.mono (by decide)) (by rfl) T.g_is_integer T.F_is_integer.kp T.b_is_integer .nil pass0 (pa_cons (pv 1) pa_nil))))
        (pss_one (ps_raise rfl (takes_of rfl rfl rfl rfl) (pmk_oex T.ox_BadNumber T.xn_BadNumber T.xt_BadNumber (ok_BadNumber_init T) (hr.mono (by decide)) T.b_BadNumber_init .nil pass0 (by rfl) T.gc_BadNumber (pa_cons (pv 0) (pa_cons (pv 1) pa_nil)))))
        pss_nil)
      (Evl.pss_cut (ps_if (PW.pt (pw_and (pt_cmpR op_notN (pv 2) pe_non (nomark _)) (pw_and1 (pt_cmpR op_lt (pv 1) (pv 2) (nomark _)))))
        (pss_one (ps_raise rfl (takes_of rfl rfl rfl rfl) (pmk_oex T.ox_BadNumber T.xn_BadNumber T.xt_BadNumber (ok_BadNumber_init T) (hr.mono (by decide)) T.b_BadNumber_init .nil pass0 (by rfl) T.gc_BadNumber (pa_cons (pv 0) (pa_cons (pv 1) pa_nil)))))
        pss_nil)
      (Evl.pss_cut (ps_if (PW.pt (pw_and (pt_cmpR op_notN (pv 3) pe_non (nomark _)) (pw_and1 (pt_cmpR op_gt (pv 1) (pv 3) (nomark _)))))
        (pss_one (ps_raise rfl (takes_of rfl rfl rfl rfl) (pmk_oex T.ox_BadNumber T.xn_BadNumber T.xt_BadNumber (ok_BadNumber_init T) (hr.mono (by decide)) T.b_BadNumber_init .nil pass0 (by rfl) T.gc_BadNumber (pa_cons (pv 0) (pa_cons (pv 1) pa_nil)))))
        pss_nil)
      (pss_one (ps_ret (pv 1)))))), ?_⟩
    refine ⟨_, rfl, x, rfl, kn, _, rfl, ?_⟩
    cases x with
    | int i =>
      refine iteF ?_
      refine ⟨fun σ' H' => σ' = [some (.str w), some (.int i), some (oV lo), some (oV hi)] ∧ H' = H ∧ lo.all (fun l => decide (l ≤ i)) = true, ?_, ?_⟩
      · cases lo with
        | none => exact ⟨_, rfl, rfl, _, rfl, iteF ⟨rfl, rfl, rfl⟩⟩
        | some l =>
          refine ⟨_, rfl, rfl, _, rfl, iteT ⟨_, rfl, _, rfl, _, _, rfl, rfl, _, rfl, ?_⟩⟩
          refine ite2 (fun hc => ?_) fun hc => ⟨rfl, rfl, ?_⟩
          · have hlt := of_decide_eq_true hc
            refine ⟨_, rfl, _, rfl, mk2 (q2 ?_)⟩
            have z : decide (l ≤ i) = false := decide_eq_false (by omega)
            simp [good, z]
          · have hlt := of_decide_eq_false (Bool.eq_false_iff.mpr hc)
            exact decide_eq_true (show l ≤ i by omega)
      · rintro σ' H' ⟨rfl, rfl, hlo⟩
        refine ⟨fun σ' H'' => σ' = [some (.str w), some (.int i), some (oV lo), some (oV hi)] ∧ H'' = H' ∧ hi.all (fun h => decide (i ≤ h)) = true, ?_, ?_⟩
        · cases hi with
          | none => exact ⟨_, rfl, rfl, _, rfl, iteF ⟨rfl, rfl, rfl⟩⟩
          | some l =>
            refine ⟨_, rfl, rfl, _, rfl, iteT ⟨_, rfl, _, rfl, _, _, rfl, rfl, _, rfl, ?_⟩⟩
            refine ite2 (fun hc => ?_) fun hc => ⟨rfl, rfl, ?_⟩
            · have hlt := of_decide_eq_true hc
              refine ⟨_, rfl, _, rfl, mk2 (q2 ?_)⟩
              have z : decide (i ≤ l) = false := decide_eq_false (by omega)
              simp [good, z]
            · have hlt := of_decide_eq_false (Bool.eq_false_iff.mpr hc)
              exact decide_eq_true (show i ≤ l by omega)
        · rintro σ' H'' ⟨rfl, rfl, hhi⟩
          refine ⟨_, rfl, q1 ?_⟩
          show (lo.all (fun l => decide (l ≤ i)) && hi.all (fun h => decide (i ≤ h))) = true
          rw [hlo, hhi] <;> rfl
    | _ => exact iteT ⟨_, rfl, _, rfl, mk2 (q2 rfl)⟩
end
section
variable {P : Program} {w : World} {K : PySem.W.Frag} {mg : Str → Option Value} {base : Heap}
theorem ok_Ratio_init (T : Ctx K mg) : FnOk P w K mg base (L2.CX P w) 4 T.f_Ratio_init T.fd_Ratio_init ["self", "over", "under"] (spInit K T.c_Ratio T.c_BadNumber) := by
  refine T.F_Ratio_init.ok (CX := L2.CX P w) sc_Ratio_init (fun vs H Q E h => ?_) (fun cdv A outer s H vs Q E hr h => ?_)
  · obtain ⟨a, dx, x, y, rfl, _⟩ := h
    rfl
  · obtain ⟨a, dx, x, y, rfl, ha, kx, ky, hok, hbad⟩ := h
    refine ⟨_, (pss_cons (ps_expr (pe_call (ok_check_number T) (hr.mono (by decide)) (by rfl) T.g_check_number T.F_check_number.kp T.b_check_number .nil (passes_call (takes_of rfl rfl rfl rfl) (fun _ _ _ _ h => h)) (pa_cons pe_str (pa_cons (pv 1) (pa_cons pe_non (pa_cons pe_non pa_nil))))))
      (pss_cons (ps_expr (pe_call (ok_check_number T) (hr.mono (by decide)) (by rfl) T.g_check_number T.F_check_number.kp T.b_check_number .nil (passes_call (takes_of rfl rfl rfl rfl) (fun _ _ _ _ h => h)) (pa_cons pe_str (pa_cons (pv 2) (pa_cons pe_non (pa_cons pe_non pa_nil))))))
      (pss_cons (ps_if (pt_cmpR op_eq (pv 2) pe_int (nomark _))
        (pss_one (ps_raise rfl (takes_of rfl rfl rfl rfl) (pmk_oex T.ox_BadNumber T.xn_BadNumber T.xt_BadNumber (ok_BadNumber_init T) (hr.mono (by decide)) T.b_BadNumber_init .nil pass0 (by rfl) T.gc_BadNumber (pa_cons pe_str (pa_cons (pv 2) pa_nil)))))
        pss_nil)
      (pss_cons (ps_set (i := 3) sc_Ratio_init.nd rfl (Or.inl rfl) (pe_callBfun cr_gcd (by rfl) T.gi_gcd (pa_cons (pv 1) (pa_cons (pv 2) pa_nil))))
      (Evl.pss_cut (ps_if (pt_cmpR op_lt (pv 2) pe_int (nomark _))
        (pss_one (ps_set (i := 3) sc_Ratio_init.nd rfl (Or.inl rfl) (pe_un un_neg (pv 3))))
        pss_nil)
      (pss_cons (ps_fld (pv 0) (pe_op op_fdivZ (pv 1) (pv 3)) rfl)
      (pss_one (ps_fld (pv 0) (pe_op op_fdivZ (pv 2) (pv 3)) rfl)))))))), ?_⟩
    -- check_number("over", over)
    refine ⟨_, rfl, "over", x, none, none, rfl, kx, fun hg => ?_, fun hg => ?_⟩
    · obtain ⟨O, rfl⟩ : ∃ O, x = .int O := by
        cases x with
        | int i => exact ⟨i, rfl⟩
        | _ => cases hg
      refine ⟨_, rfl, "under", y, none, none, rfl, ky, fun hg2 => ?_, fun hg2 => ?_⟩
      · obtain ⟨U, rfl⟩ : ∃ U, y = .int U := by
          cases y with
          | int i => exact ⟨i, rfl⟩
          | _ => cases hg2
        refine ⟨_, rfl, rfl, _, rfl, ite2 (fun hc => ?_) fun hc => ?_⟩
        · have e0 : V.int U = .int 0 := of_decide_eq_true hc
          cases e0
          exact ⟨_, rfl, mk2 (hbad "under" (.int 0) (.inr (.inr ⟨rfl, rfl, rfl, rfl⟩)))⟩
        · have hU : U ≠ 0 := fun z => hc (decide_eq_true (by rw [z]))
          obtain ⟨hz, k⟩ := hok O U rfl rfl hU
          obtain ⟨h1, h2, h3⟩ := nf_make (O := O) hU rfl
          refine ⟨_, rfl, _, rfl, O, U, rfl, ?_⟩
          refine ⟨fun σ' H' => H' = H ∧ σ' = [some (.ref a), some (.int O), some (.int U), some (.int (if U < 0 then -((Nat.gcd O.natAbs U.natAbs : Nat) : Int) else ((Nat.gcd O.natAbs U.natAbs : Nat) : Int)))], ?_, ?_⟩
          · refine ⟨_, rfl, _, _, rfl, rfl, _, rfl, ite2 (fun hn => ?_) fun hn => ?_⟩
            · have hn' := of_decide_eq_true hn
              rw [if_pos hn']
              exact ⟨_, rfl, _, rfl, rfl, rfl⟩
            · have hn' := of_decide_eq_false (Bool.eq_false_iff.mpr hn)
              rw [if_neg hn']
              exact ⟨rfl, rfl⟩
          · rintro σ' H' ⟨rfl, rfl⟩
            have hl : (if U < 0 then -((Nat.gcd O.natAbs U.natAbs : Nat) : Int) else ((Nat.gcd O.natAbs U.natAbs : Nat) : Int)).natAbs.log2 < 9000 := log2_le h2 h1 hz
            refine ⟨_, rfl, _, rfl, _, _, rfl, rfl, ⟨h1, hl⟩, _, rfl, a, T.c_Ratio, dx, [], rfl, ha, T.cl_Ratio, T.n_Ratio_over, (by show 0 < 1000; decide), ?_⟩
            refine ⟨_, rfl, _, rfl, _, _, rfl, rfl, ⟨h1, hl⟩, _, rfl, a, T.c_Ratio, dx, _, rfl, upd_same, T.cl_Ratio, T.n_Ratio_under, (by show 1 < 1000; decide), ?_⟩
            exact k _ _ _ h3 upd_same fun b o e hb => by rw [upd_ne hb, upd_ne hb]; exact e
      · exact hbad "under" y (.inr (.inl ⟨rfl, by
          cases y with
          | int i => cases hg2
          | _ => rfl, rfl, rfl⟩))
    · exact hbad "over" x (.inl ⟨by
        cases x with
        | int i => cases hg
        | _ => rfl, rfl, rfl⟩)
theorem ok_ratio_of (T : Ctx K mg) : FnOk P w K mg base CX0 6 T.f_ratio_of T.fd_ratio_of ["value"] (spRatioOf T.c_Ratio) := by
  refine T.F_ratio_of.ok sc_ratio_of (fun vs H Q E h => ?_) (fun cdv A outer s H vs Q E hr h => ?_)
  · obtain ⟨x, p, q, rfl, _⟩ := h
    rfl
  · obtain ⟨x, p, q, rfl, hx, k⟩ := h
    refine ⟨_, (pss_cons (ps_if (pt_val (pe_callB call_isi (by rfl) T.m_isinstance (by decide +kernel) (pa_cons (pv 0) (pa_cons (pe_glob (v := .ref T.c_Ratio) (by rfl) T.gc_Ratio rfl) pa_nil))))
        (pss_one (ps_ret (pv 0)))
        pss_nil)
      (pss_cons (ps_if (pt_val (pe_call (ok_is_integer T) (hr.mono (by decide)) (by rfl) T.g_is_integer T.F_is_integer.kp T.b_is_integer .nil pass0 (pa_cons (pv 0) pa_nil)))
        (pss_one (ps_ret (pe_make T.M_Ratio (ok_Ratio_init T) (hr.mono (by decide)) (by rfl) T.gc_Ratio T.b_Ratio_init1 T.v_Ratio_init1 passL (pa_cons (pv 0) pa_nil))))
        pss_nil)
      (pss_one (ps_ret pe_non)))), ?_⟩
    cases hx with
    | rat R => exact ⟨_, rfl, _, _, _, _, true, rfl, .own _, R.ty T.ic_Ratio, T.ki_Ratio_Ratio, true, rfl, iteT ⟨_, rfl, k _ _ (Same.refl _) R⟩⟩
    | int =>
      refine ⟨_, rfl, _, _, _, _, false, rfl, .own _, .base (.int _), T.ki_int_Ratio, false, rfl, iteF ?_⟩
      exact ⟨_, rfl, _, rfl, kn_int _, true, rfl, iteT ⟨_, rfl, mk_ratio1 fun r H' sm R => k _ H' sm R⟩⟩
theorem ok_Ratio_eq (T : Ctx K mg) : FnOk P w K mg base CX0 1 T.f_Ratio_eq T.fd_Ratio_eq ["self", "other"] (spEqR K T.c_Ratio) := by
  refine T.F_Ratio_eq.ok sc_Ratio_eq (fun vs H Q E h => ?_) (fun cdv A outer s H vs Q E hr h => ?_)
  · obtain ⟨x, y, p, q, rfl, _⟩ := h
    rfl
  · obtain ⟨x, y, p, q, rfl, R, h⟩ := h
    refine ⟨_, (pss_one (ps_ret (pe_and (pe_callB call_isi (by rfl) T.m_isinstance (by decide +kernel) (pa_cons (pv 1) (pa_cons (pe_glob (v := .ref T.c_Ratio) (by rfl) T.gc_Ratio rfl) pa_nil))) (pe_and (pe_cmpR op_eq (pe_fld (pv 0) rfl) (pe_fld (pv 1) rfl) (nomark _)) (pe_one (pe_cmpR op_eq (pe_fld (pv 0) rfl) (pe_fld (pv 1) rfl) (nomark _))))))), ?_⟩
    obtain ⟨⟨a, dx, rfl, ha⟩, _⟩ := id R
    rcases h with ⟨p', q', R', k⟩ | ⟨t, ty, hk, k⟩
    · obtain ⟨⟨b, dy, rfl, hb⟩, _⟩ := id R'
      refine ⟨_, rfl, _, _, _, _, true, rfl, .own _, R'.ty T.ic_Ratio, T.ki_Ratio_Ratio, true, rfl, iteT ?_⟩
      refine ⟨_, rfl, a, T.c_Ratio, dx, _, _, rfl, ha, T.cl_Ratio, T.n_Ratio_over, rfR_over _ _, _, rfl, b, T.c_Ratio, dy, _, _, rfl, hb, T.cl_Ratio, T.n_Ratio_over, rfR_over _ _, rfl, decide (p = p'), congrArg V.bl ?_, ?_⟩
      · by_cases e : p = p'
        · subst e
          simp
        · rw [decide_eq_false e]
          exact decide_eq_false fun z => e (by injection z)
      · by_cases e : p = p'
        · rw [decide_eq_true e]
          rw [decide_eq_true e] at k
          refine iteT ⟨_, rfl, a, T.c_Ratio, dx, _, _, rfl, ha, T.cl_Ratio, T.n_Ratio_under, rfR_under _ _, _, rfl, b, T.c_Ratio, dy, _, _, rfl, hb, T.cl_Ratio, T.n_Ratio_under, rfR_under _ _, rfl, ?_⟩
          have e2 : decide (V.int q = V.int q') = decide (q = q') := by
            by_cases e : q = q'
            · subst e
              simp
            · rw [decide_eq_false e]
              exact decide_eq_false fun z => e (by injection z)
          rw [e2]
          exact k
        · rw [decide_eq_false e]
          rw [decide_eq_false e] at k
          exact iteF k
    · exact ⟨_, rfl, _, _, _, _, false, rfl, .own _, ty, hk, false, rfl, iteF k⟩
end
/-! ### str of a ratio; the half -/
def rtext (p q : Int) : Str := if q = 1 then (toString p : String) else ((((toString p : String) : Str) ++ ("/" : Str)) ++ ((toString q : String) : Str))
def spStr (C : Addr) : Sp := fun vs H Q _ => ∃ (x : V) (p q : Int), vs = [x] ∧ Rat C H x p q ∧ p.natAbs.log2 < 1920 ∧ q.natAbs.log2 < 1920 ∧ Q (.str (rtext p q)) H
def spHalf (C : Addr) : Sp := fun vs H Q _ => vs = [] ∧ ∀ r H', Same H H' → Rat C H' r 1 2 → Q r H'
theorem empty_app (y : Str) : Str.empty ++ y = y := TL.ext_tl (by rw [TL.tl_append]; rfl)
theorem len_app (x y : Str) : (x ++ y).length = x.length + y.length := by rw [TL.len_tl, TL.len_tl, TL.len_tl, TL.tl_append, List.length_append]
section
variable {P : Program} {w : World} {K : PySem.W.Frag} {mg : Str → Option Value} {base : Heap}
theorem ok_Ratio_str (T : Ctx K mg) : FnOk P w K mg base CX0 1 T.f_Ratio_str T.fd_Ratio_str ["self"] (spStr T.c_Ratio) := by
  refine T.F_Ratio_str.ok sc_Ratio_str (fun vs H Q E h => ?_) (fun cdv A outer s H vs Q E hr h => ?_)
  · obtain ⟨x, p, q, rfl, _⟩ := h
    rfl
  · obtain ⟨x, p, q, rfl, R, h1, h2, k⟩ := h
    refine ⟨_, (pss_cons (ps_if (pt_cmpR op_eq (pe_fld (pv 0) rfl) pe_int (nomark _))
        (pss_one (ps_ret (pe_callTy call_str_int (by rfl) T.m_str (by decide +kernel) (pa_cons (pe_fld (pv 0) rfl) pa_nil))))
        pss_nil)
      (pss_one (ps_ret (pe_joined (PJ.cons (pe_fmt (pe_fld (pv 0) rfl)) (PJ.cons pe_str (PJ.cons (pe_fmt (pe_fld (pv 0) rfl)) PJ.nil))))))), ?_⟩
    obtain ⟨⟨a, dx, rfl, ha⟩, _⟩ := id R
    refine ⟨_, rfl, a, T.c_Ratio, dx, _, _, rfl, ha, T.cl_Ratio, T.n_Ratio_under, rfR_under _ _, rfl, _, rfl, ite2 (fun h => ?_) fun h => ?_⟩
    · have e : q = 1 := by
        have e : V.int q = .int 1 := of_decide_eq_true h
        injection e
      refine ⟨_, rfl, a, T.c_Ratio, dx, _, _, rfl, ha, T.cl_Ratio, T.n_Ratio_over, rfR_over _ _, _, rfl, h1, ?_⟩
      unfold rtext at k
      rw [if_pos e] at k
      exact k
    · have e : ¬ q = 1 := fun z => h (decide_eq_true (by rw [z]))
      unfold rtext at k
      rw [if_neg e] at k
      have l1 := PyProof.Rows.int_text_len_1921 h1
      have l2 := PyProof.Rows.int_text_len_1921 h2
      have e3 : ("/" : Str).length = 1 := rfl
      refine ⟨_, rfl, a, T.c_Ratio, dx, _, _, rfl, ha, T.cl_Ratio, T.n_Ratio_over, rfR_over _ _, .inr ⟨_, rfl, h1, _, rfl, ?_, _, rfl, ?_, _, rfl, a, T.c_Ratio, dx, _, _, rfl, ha, T.cl_Ratio, T.n_Ratio_under, rfR_under _ _, .inr ⟨_, rfl, h2, _, rfl, ?_, ?_⟩⟩⟩
      · rw [empty_app]
        exact Nat.le_trans l1 (by decide)
      · rw [empty_app, len_app, e3]
        exact Nat.le_trans (Nat.add_le_add_right l1 1) (by decide)
      · rw [empty_app, len_app, len_app, e3]
        exact Nat.le_trans (Nat.add_le_add (Nat.add_le_add_right l1 1) l2) (by decide)
      · rw [empty_app]
        exact k
end
/-! ### is this the text of a number? -/
def spIsNum : Sp := fun vs H Q _ => ∃ x : Str, vs = [.str x] ∧ Asc x ∧ x.length ≤ sizeLine ∧ Q (.bl (okN (tl x))) H
theorem str_is0 {x : Str} : decide (V.str x = V.str ("0" : Str)) = (tl x == [48]) := by
  rw [Bool.eq_iff_iff, decide_eq_true_iff, beq_iff_eq, V.str.injEq]
  constructor
  · intro h
    rw [h]
    rfl
  · intro h
    exact TL.ext_tl h
section
variable {P : Program} {w : World} {K : PySem.W.Frag} {mg : Str → Option Value} {base : Heap}
theorem ok_is_number (T : Ctx K mg) : FnOk P w K mg base CX0 1 T.f_is_number T.fd_is_number ["text"] spIsNum := by
  refine T.F_is_number.ok sc_is_number (fun vs H Q E h => ?_) (fun cdv A outer s H vs Q E hr h => ?_)
  · obtain ⟨x, rfl, _⟩ := h
    rfl
  · obtain ⟨x, rfl, ax, hl, k⟩ := h
    refine ⟨_, (Evl.pss_cut (ps_if (PW.pt (pw_or (pt_not (pt_val (pe_m0 PySem.F.slot_str_isascii PySem.F.type_str_isascii mt_isascii (pv 0)))) (pw_or (pt_not (pt_val (pe_m0 PySem.F.slot_str_isdigit PySem.F.type_str_isdigit mt_isdigit (pv 0)))) (pw_or1 (pt_cmpR op_gt (pe_callB call_len_str (by rfl) T.m_len (by decide +kernel) (pa_cons (pv 0) pa_nil)) (pe_glob (v := .int 4) (by rfl) T.gk_MOST_DIGITS ⟨_, rfl⟩) (nomark _))))))
        (pss_one (ps_ret pe_bl))
        pss_nil)
      (pss_one (ps_ret (pe_or (pe_cmpR op_eq (pv 0) pe_str (nomark _)) (pe_one (pe_not (pe_m1 PySem.F.slot_str_startswith PySem.F.type_str_startswith mt_startswith (pv 0) pe_str))))))), ?_⟩
    refine ⟨fun σ' H' => σ' = [some (.str x)] ∧ H' = H ∧ (!(tl x).isEmpty && (tl x).all dig) = true ∧ (tl x).length ≤ 4, ?_, ?_⟩
    · refine ⟨_, rfl, ⟨_, rfl⟩, _, rfl, rfl, trivial, _, rfl, ?_⟩
      rw [asc_isascii ax]
      refine iteF ⟨_, rfl, ⟨_, rfl⟩, _, rfl, rfl, trivial, _, rfl, ?_⟩
      rw [asc_isdigit ax]
      unfold okN at k
      revert k
      cases (!(tl x).isEmpty && (tl x).all dig) with
      | false => exact fun k => iteT (iteT k)
      | true =>
        intro k
        refine iteF ⟨_, rfl, _, rfl, hl, _, _, rfl, rfl, _, rfl, ite2 (fun h => ?_) fun h => ?_⟩
        · have h := of_decide_eq_true h
          rw [decide_eq_false (by rw [← TL.len_tl]; omega)] at k
          exact k
        · have h := of_decide_eq_false (Bool.eq_false_iff.mpr h)
          exact ⟨rfl, rfl, rfl, by rw [← TL.len_tl]; omega⟩
    · rintro σ' H' ⟨rfl, rfl, h1, h2⟩
      unfold okN at k
      rw [h1, decide_eq_true h2] at k
      refine ⟨_, rfl, rfl, _, rfl, ?_⟩
      rw [str_is0]
      revert k
      cases (tl x == [48]) with
      | true => exact fun k => iteT k
      | false =>
        intro k
        refine iteF ⟨_, rfl, ⟨_, rfl⟩, _, _, rfl, rfl, _, rfl, ?_⟩
        rw [starts0]
        exact k
end
/-! ### reading a number: the law's own reading -/
theorem okN_iff {l : List Nat} : okN l = true ↔ l ≠ [] ∧ NumText.AllDigits l ∧ l.length ≤ 4 ∧ (l = [48] ∨ l.head? ≠ some 48) := by
  unfold okN NumText.AllDigits
  simp [dig, Bool.and_eq_true, and_assoc]
theorem okN_one {l : List Nat} (h1 : 1 ≤ l.length) (h2 : l.length ≤ 4) (h3 : ¬ (1 < l.length ∧ l.head? = some 48)) (h4 : NumText.AllDigits l) : okN l = true := by
  refine okN_iff.mpr ⟨fun z => by rw [z] at h1; exact absurd h1 (by decide), h4, h2, ?_⟩
  by_cases h : l.head? = some 48
  · refine .inl ?_
    cases l with
    | nil => cases h
    | cons a r =>
      have e : a = 48 := by simpa using h
      cases r with
      | nil => rw [e]
      | cons b r => exact absurd ⟨by simp, h⟩ h3
  · exact .inr h
theorem okN_no {l : List Nat} (h : l.length < 1 ∨ 4 < l.length ∨ (1 < l.length ∧ l.head? = some 48) ∨ ∃ c ∈ l, dig c = false) : okN l = false := by
  rw [Bool.eq_false_iff]
  intro z
  obtain ⟨z1, z2, z3, z4⟩ := okN_iff.mp z
  rcases h with h | h | ⟨h, h'⟩ | ⟨c, hc, h⟩
  · exact z1 (List.length_eq_zero_iff.mp (by omega))
  · omega
  · rcases z4 with z4 | z4
    · rw [z4] at h
      exact absurd h (by decide)
    · exact z4 h'
  · have := z2 c hc
    unfold dig at h
    rw [decide_eq_true this.1, decide_eq_true this.2] at h
    cases h
theorem val_snoc (l : List Nat) (c : Nat) : val (l ++ [c]) = val l * 10 + (c - 48) := by
  unfold val NumText.digitsVal
  rw [List.foldl_append]
  rfl
theorem fold_bound : ∀ (l : List Nat) (a : Nat), NumText.AllDigits l → l.foldl (fun acc c => acc * 10 + (c - 48)) a < (a + 1) * 10 ^ l.length
  | [], a, _ => by simp
  | c :: r, a, h => by
    have hc := h.head
    have ih := fold_bound r (a * 10 + (c - 48)) h.tail
    rw [List.foldl_cons, List.length_cons]
    refine Nat.lt_of_lt_of_le ih ?_
    have e : (a + 1) * 10 ^ (r.length + 1) = ((a + 1) * 10) * 10 ^ r.length := by rw [Nat.pow_succ, Nat.mul_comm (10 ^ r.length) 10, Nat.mul_assoc]
    rw [e]
    exact Nat.mul_le_mul_right _ (by omega)
theorem val_lt {l : List Nat} (h : okN l = true) : val l < 10000 := by
  obtain ⟨_, h1, h2, _⟩ := okN_iff.mp h
  have e := fold_bound l 0 h1
  have e2 : 10 ^ l.length ≤ 10 ^ 4 := Nat.pow_le_pow_right (by decide) h2
  unfold val NumText.digitsVal
  omega
theorem okN_numL {n : Nat} (h : n < 10000) : okN (TL.numL n) = true := by
  have hl : (TL.numL n).length ≤ 4 := TL.numL_len (by decide) h
  have head : ∀ n : Nat, 0 < n → (TL.numL n).head? ≠ some 48 := fun n => by
    induction n using Nat.strongRecOn with
    | _ n ih =>
      intro h0
      by_cases hn : n < 10
      · rw [TL.numL_lt hn]
        simp
        omega
      · rw [TL.numL_step (by omega)]
        have := ih (n / 10) (by omega) (by omega)
        cases e : TL.numL (n / 10) with
        | nil => exact absurd e (TL.numL_ne _)
        | cons a r =>
          rw [e] at this
          exact this
  refine okN_iff.mpr ⟨TL.numL_ne n, TL.numL_digits n, hl, ?_⟩
  by_cases h0 : n = 0
  · subst h0
    exact .inl (TL.numL_lt (by decide))
  · exact .inr (head n (by omega))
theorem int_ok {x : Str} (h : okN (tl x) = true) : intText? x = some ((val (tl x) : Nat) : Int) := by
  obtain ⟨h1, h2, h3, _⟩ := okN_iff.mp h
  exact intText_digits h2 h1 (by rw [TL.len_tl]; exact Nat.le_trans h3 (by decide))
/-- the law's reading: None, or the number -/
def numV (l : List Nat) : V := if okN l = true then .int (val l : Nat) else .non
def spNum : Sp := fun vs H Q _ => ∃ x : Str, vs = [.str x] ∧ Asc x ∧ x.length ≤ 1000 ∧ Q (numV (tl x)) H
theorem sign_is0 {c : Nat} : decide (V.str ⟨#[c]⟩ = V.str ("0" : Str)) = decide (c = 48) := by
  rw [str_is0]
  show ([c] == [48]) = _
  rw [Bool.eq_iff_iff, beq_iff_eq, decide_eq_true_iff]
  simp
section
variable {P : Program} {w : World} {K : PySem.W.Frag} {mg : Str → Option Value} {base : Heap}
theorem ok_l_number (T : Ctx K mg) : FnOk P w K mg base CX0 1 T.f_l_number T.fd_l_number ["_law_text"] spNum := by
  refine T.F_l_number.ok sc_l_number (fun vs H Q E h => ?_) (fun cdv A outer s H vs Q E hr h => ?_)
  · obtain ⟨x, rfl, _⟩ := h
    rfl
  · obtain ⟨x, rfl, ax, hl, k⟩ := h
    refine ⟨_, (Evl.pss_cut (ps_if (PW.pt (pw_or (pt_cmpR op_lt (pe_callB call_len_str (by rfl) T.m_len (by decide +kernel) (pa_cons (pv 0) pa_nil)) pe_int (nomark _)) (pw_or (pt_cmpR op_gt (pe_callB call_len_str (by rfl) T.m_len (by decide +kernel) (pa_cons (pv 0) pa_nil)) pe_int (nomark _)) (pw_or1 (PW.pt (pw_and (pt_cmpR op_gt (pe_callB call_len_str (by rfl) T.m_len (by decide +kernel) (pa_cons (pv 0) pa_nil)) pe_int (nomark _)) (pw_and1 (pt_cmpR op_eq (pe_ix ix_str (pv 0) pe_int (fun _ _ => rfl)) pe_str (nomark _)))))))))
        (pss_one (ps_ret pe_non))
        pss_nil)
      (pss_cons (ps_set (i := 1) sc_l_number.nd rfl (Or.inl rfl) pe_int)
      (pss_cons (ps_for PassesOwn.never rfl (pi_str (pv 0)) (pg_name (i := 2) sc_l_number.nd rfl (Or.inl rfl))
        (pss_cons (ps_set (i := 3) sc_l_number.nd rfl (Or.inl rfl) (pe_m1 PySem.F.slot_str_find PySem.F.type_str_find mt_find pe_str (pv 2)))
        (pss_cons (ps_if (pt_cmpR op_lt (pv 3) pe_int (nomark _))
          (pss_one (ps_ret pe_non))
          pss_nil)
        (pss_one (ps_set (i := 1) sc_l_number.nd rfl (Or.inl rfl) (pe_op op_add (pe_op op_mul (pv 1) pe_int) (pv 3)))))))
      (pss_one (ps_ret (pv 1)))))), ?_⟩
    have hl' : x.length ≤ sizeLine := Nat.le_trans hl (by decide)
    have no : okN (tl x) = false → Q .non H := fun h => by
      unfold numV at k
      rw [h] at k
      exact k
    have lt := TL.len_tl x
    refine ⟨fun σ' H' => σ' = [some (.str x), none, none, none] ∧ H' = H ∧ 1 ≤ (tl x).length ∧ (tl x).length ≤ 4 ∧ ¬ (1 < (tl x).length ∧ (tl x).head? = some 48), ?_, ?_⟩
    · refine ⟨_, rfl, _, rfl, hl', _, _, rfl, rfl, _, rfl, ite2 (fun h => ?_) fun h => ?_⟩
      · have h := of_decide_eq_true h
        exact iteT (no (okN_no (.inl (by omega))))
      have h1 := of_decide_eq_false (Bool.eq_false_iff.mpr h)
      refine ⟨_, rfl, _, rfl, hl', _, _, rfl, rfl, _, rfl, ite2 (fun h => ?_) fun h => ?_⟩
      · have h := of_decide_eq_true h
        exact iteT (no (okN_no (.inr (.inl (by omega)))))
      have h2 := of_decide_eq_false (Bool.eq_false_iff.mpr h)
      refine ⟨_, rfl, _, rfl, hl', _, _, rfl, rfl, _, rfl, ite2 (fun h => ?_) fun h => ?_⟩
      · have h3 := of_decide_eq_true h
        obtain ⟨c, r, e⟩ : ∃ c r, tl x = c :: r := by
          cases e : tl x with
          | nil =>
            rw [e] at lt
            have : x.length = 0 := lt
            omega
          | cons c r => exact ⟨c, r, rfl⟩
        refine ⟨_, rfl, x, 0, c, rfl, rfl, hl', atI_nat (xs := tl x) (j := 0) (by rw [e] <;> rfl), rfl, _, rfl, ?_⟩
        rw [sign_is0]
        refine ite2 (fun h => ?_) fun h => ?_
        · have h := of_decide_eq_true h
          exact no (okN_no (.inr (.inr (.inl ⟨by omega, by rw [e, h] <;> rfl⟩))))
        · have h := of_decide_eq_false (Bool.eq_false_iff.mpr h)
          exact ⟨rfl, rfl, by omega, by omega, fun z => by rw [e] at z; exact h (by simpa using z.2)⟩
      · have h3 := of_decide_eq_false (Bool.eq_false_iff.mpr h)
        exact iteF ⟨rfl, rfl, by omega, by omega, fun z => by omega⟩
    · rintro σ' H' ⟨rfl, rfl, h1, h2, h3⟩
      have hsz : x.cps.size = (tl x).length := by simp [tl]
      refine ⟨_, rfl, x, rfl, for_it walk_str (fun i σ H1 => H1 = H' ∧ ∃ s a, σ = [some (.str x), some (.int (val ((tl x).take i) : Nat)), s, a] ∧ NumText.AllDigits ((tl x).take i))
        ⟨rfl, _, _, rfl, fun c hc => by simp at hc⟩ (fun _ _ _ _ _ => trivial) ?_ ?_⟩
      · rintro i v σ H1 H2 hi ⟨rfl, s, a, rfl, ad⟩ ⟨rfl, c, hc, rfl⟩
        have hc' : (tl x)[i]? = some c := by rw [← hc]; simp [tl]
        have cm : c ∈ tl x := List.mem_of_getElem? hc'
        have snoc : (tl x).take (i + 1) = (tl x).take i ++ [c] := by rw [List.take_add_one, hc'] <;> rfl
        refine ⟨⟨_, rfl⟩, _, rfl, _, _, rfl, rfl, ?_⟩
        rw [find_dig (ax c cm)]
        cases hd : dig c with
        | false => exact ⟨_, rfl, _, _, rfl, rfl, _, rfl, iteT (no (okN_no (.inr (.inr (.inr ⟨c, cm, hd⟩)))))⟩
        | true =>
          have hd' := hd
          unfold dig at hd'
          rw [Bool.and_eq_true, decide_eq_true_iff, decide_eq_true_iff] at hd'
          refine ⟨_, rfl, _, _, rfl, rfl, _, rfl, ite2 (fun h => ?_) fun h => ?_⟩
          · have h := of_decide_eq_true h
            rw [if_pos rfl] at h
            omega
          · refine ⟨_, rfl, _, _, rfl, rfl, .inr ⟨by decide, by decide⟩, _, rfl, _, _, rfl, rfl, rfl, some (.str ⟨#[c]⟩), some (.int (if true = true then (c : Int) - 48 else -1)), ?_, ?_⟩
            · rw [snoc, val_snoc]
              have : (((val ((tl x).take i) * 10 + (c - 48) : Nat)) : Int) = (val ((tl x).take i) : Nat) * 10 + ((c : Int) - 48) := by omega
              rw [this]
              rfl
            · rw [snoc]
              intro d hd2
              rcases List.mem_append.mp hd2 with h | h
              · exact ad d h
              · rw [List.mem_singleton.mp h]
                exact hd'
      · rintro σ H1 ⟨rfl, s, a, rfl, ad⟩
        rw [hsz, List.take_length] at ad ⊢
        unfold numV at k
        rw [okN_one h1 h2 h3 ad] at k
        exact ⟨_, rfl, k⟩
end

open TL (tl)
def spLaw (K : PySem.W.Frag) : Sp := fun vs H Q _ => ∃ (a : Addr) (ns : List Int), vs = [.ref a] ∧ SqL K H a (ns.map V.int) ∧ ns.length ≤ 63 ∧ ∀ H', Q (.bl true) H'
def ratioD (x : Str) : PyData := .tuple [.str "ratio", .str x]
def underD : PyData := .tuple [.str "under", .int 0]
theorem shaped_ratio {x : Str} (h : Asc x) : SeqAt.shaped (ratioD x) = true := by
  have h1 : PyData.strOk ("ratio" : Str) = true := by decide +kernel
  have h2 : PyData.strOk x = true := asc_strOk h
  unfold ratioD SeqAt.shaped
  simp [PyData.canLay0, PyData.canLayAll0, PyData.depth, PyData.depthAll, h1, h2]
theorem shaped_under : SeqAt.shaped underD = true := by decide +kernel
/-- what reading x tells -/
def out (x : Str) : PyData ⊕ (Int × Int) := match TL.par [47] [] (tl x) with
  | none => if okN (tl x) = true then .inr ((val (tl x) : Nat), 1) else .inl (ratioD x)
  | some (a, b) => if okN a = true ∧ okN b = true then (if val b = 0 then .inl underD else .inr ((val a : Nat), (val b : Nat))) else .inl (ratioD x)
def Out (K : PySem.W.Frag) (C : Addr) (H : Hp) (r : V) (x : Str) : Prop := match out x with
  | .inl d => Dp K H r d ∧ SeqAt.shaped d = true
  | .inr (O, U) => Rp C H r O U 20
theorem Out.same {K : PySem.W.Frag} {C : Addr} {H H' : Hp} {r : V} {x : Str} (h : Out K C H r x) (e : Same H H') : Out K C H' r x := by
  unfold Out at h ⊢
  revert h
  cases out x with
  | inl d => exact fun h => ⟨dp_same e h.1, h.2⟩
  | inr p => exact fun h => h.same e
/-- the two ways of a text -/
theorem ways (x : Str) : (47 ∉ tl x ∧ TL.par [47] [] (tl x) = none ∧ Txt.partition x ("/" : Str) = (x, Str.empty, Str.empty) ∧ (Txt.split x ("/" : Str)).map tl = [tl x]) ∨
    ∃ a b, tl x = a ++ 47 :: b ∧ TL.par [47] [] (tl x) = some (a, b) ∧ Txt.partition x ("/" : Str) = (⟨a.toArray⟩, ("/" : Str), ⟨b.toArray⟩) ∧ (Txt.split x ("/" : Str)).map tl = a :: TL.spl [47] 0 [] b := by
  have ey : tl ("/" : Str) = [47] := rfl
  have hsp := TL.split_spl x ("/" : Str) (by rw [ey]; simp) (TL.kind_ok (by decide +kernel))
  have hpp := TL.partition_par x ("/" : Str) (by rw [ey]; simp)
  rw [ey] at hsp hpp
  by_cases h : 47 ∈ tl x
  · obtain ⟨a, b, e, ha⟩ := List.eq_append_cons_of_mem h
    have p1 : TL.par [47] [] (tl x) = some (a, b) := by
      rw [e]
      exact TL.par_part1 (S := []) (acc := []) ha
    refine .inr ⟨a, b, e, p1, by rw [hpp, p1], ?_⟩
    rw [hsp, e]
    exact TL.spl_part1 (S := []) (acc := []) ha
  · have p1 : TL.par [47] [] (tl x) = none := TL.par_none1 (S := []) h
    refine .inl ⟨h, p1, by rw [hpp, p1], ?_⟩
    rw [hsp]
    exact TL.spl_last1 (S := []) (acc := []) h
theorem spl_sub : ∀ (l acc p : List Nat), p ∈ TL.spl [47] 0 acc l → (∀ c ∈ p, c ∈ acc ∨ c ∈ l) ∧ p.length ≤ acc.length + l.length
  | [], acc, p, h => by
    rw [TL.spl_nil, List.mem_singleton] at h
    subst h
    exact ⟨fun c hc => .inl hc, by simp⟩
  | c :: r, acc, p, h => by
    cases hp : TL.pre [47] (c :: r) with
    | true =>
      rw [TL.spl_hit hp] at h
      rcases List.mem_cons.mp h with rfl | h
      · exact ⟨fun c hc => .inl hc, by simp⟩
      · obtain ⟨h1, h2⟩ := spl_sub r [] p h
        refine ⟨fun d hd => ?_, by simp at h2 ⊢; omega⟩
        rcases h1 d hd with h | h
        · cases h
        · exact .inr (List.mem_cons_of_mem _ h)
    | false =>
      rw [TL.spl_miss hp] at h
      obtain ⟨h1, h2⟩ := spl_sub r (acc ++ [c]) p h
      refine ⟨fun d hd => ?_, by simp at h2 ⊢; omega⟩
      rcases h1 d hd with h | h
      · rcases List.mem_append.mp h with h | h
        · exact .inl h
        · rw [List.mem_singleton.mp h]
          exact .inr List.mem_cons_self
      · exact .inr (List.mem_cons_of_mem _ h)
theorem spl_ne : ∀ (l acc : List Nat), TL.spl [47] 0 acc l ≠ []
  | [], acc => by rw [TL.spl_nil]; simp
  | c :: r, acc => by
    cases hp : TL.pre [47] (c :: r) with
    | true => rw [TL.spl_hit hp]; simp
    | false => rw [TL.spl_miss hp]; exact spl_ne r _
theorem okN_no47 {l : List Nat} (h : 47 ∈ l) : okN l = false := okN_no (.inr (.inr (.inr ⟨47, h, rfl⟩)))
theorem spl_two {b : List Nat} (h : 47 ∈ b) : 2 ≤ (TL.spl [47] 0 [] b).length := by
  obtain ⟨c, d, e, hc⟩ := List.eq_append_cons_of_mem h
  have := TL.spl_part1 (S := []) (acc := []) (rest := d) hc
  have h2 := List.length_pos_iff.mpr (spl_ne d [])
  rw [e, show c ++ 47 :: d = c ++ ([47] ++ d) from rfl, this, List.length_cons]
  omega
theorem out_bad {x : Str} (h : 2 < ((Txt.split x ("/" : Str)).map tl).length ∨ ∃ l ∈ (Txt.split x ("/" : Str)).map tl, okN l = false) : out x = .inl (ratioD x) := by
  rcases ways x with ⟨_, hp, _, hs⟩ | ⟨a, b, e, hp, _, hs⟩
  · rw [hs] at h
    rcases h with h | ⟨l, hl, h⟩
    · simp at h
    · rw [List.mem_singleton.mp hl] at h
      unfold out
      rw [hp, h]
      rfl
  · by_cases hab : okN a = true ∧ okN b = true
    · exfalso
      have hb : 47 ∉ b := fun z => by
        rw [okN_no47 z] at hab
        exact absurd hab.2 (by simp)
      rw [hs, TL.spl_last1 (S := []) (acc := []) hb] at h
      rcases h with h | ⟨l, hl, h⟩
      · simp at h
      · simp at hl
        rcases hl with rfl | rfl
        · rw [hab.1] at h
          cases h
        · rw [hab.2] at h
          cases h
    · unfold out
      rw [hp]
      exact if_neg hab
theorem out_good {x : Str} (h1 : ((Txt.split x ("/" : Str)).map tl).length ≤ 2) (h2 : ∀ l ∈ (Txt.split x ("/" : Str)).map tl, okN l = true) :
    (∃ l, (Txt.split x ("/" : Str)).map tl = [l] ∧ okN l = true ∧ out x = .inr ((val l : Nat), 1)) ∨
    ∃ a b, (Txt.split x ("/" : Str)).map tl = [a, b] ∧ okN a = true ∧ okN b = true ∧ out x = if val b = 0 then .inl underD else .inr ((val a : Nat), (val b : Nat)) := by
  rcases ways x with ⟨_, hp, _, hs⟩ | ⟨a, b, e, hp, _, hs⟩
  · rw [hs] at h2
    have h := h2 _ (List.mem_singleton.mpr rfl)
    refine .inl ⟨tl x, hs, h, ?_⟩
    unfold out
    rw [hp, h]
    rfl
  · rw [hs] at h1 h2
    have hb : 47 ∉ b := fun z => by
      have := spl_two z
      rw [List.length_cons] at h1
      omega
    have hl := TL.spl_last1 (S := []) (acc := []) hb
    rw [hl] at h2
    have ha := h2 a (by simp)
    have hb' := h2 b (by simp)
    refine .inr ⟨a, b, by rw [hs, hl] <;> rfl, ha, hb', ?_⟩
    unfold out
    rw [hp]
    exact if_pos ⟨ha, hb'⟩
def spRead (K : PySem.W.Frag) (C CB : Addr) : Sp := fun vs H Q E => ∃ x : Str, vs = [.str x] ∧ Asc x ∧ x.length ≤ 600 ∧
  (∀ O U r H', out x = .inr (O, U) → Same H H' → Rp C H' r O U 20 → Q r H') ∧
  (∀ w z dz d H', out x = .inl (.tuple [.str w, dz]) → (∀ H, Dp K H z dz) → SeqAt.shaped (.tuple [.str w, dz]) = true → H d = none → Same H H' → H' d = some (.xd [("value", z), ("what", .str w)]) → E (.ref CB) (some d) H')
def spOut (K : PySem.W.Frag) (C : Addr) : Sp := fun vs H Q _ => ∃ x : Str, vs = [.str x] ∧ Asc x ∧ x.length ≤ 600 ∧ ∀ r H', Same H H' → Out K C H' r x → Q r H'
section
variable {P : Program} {w : World} {K : PySem.W.Frag} {mg : Str → Option Value} {base : Heap}
theorem ok_read_ratio (T : Ctx K mg) : FnOk P w K mg base (L2.CX P w) 6 T.f_read_ratio T.fd_read_ratio ["text"] (spRead K T.c_Ratio T.c_BadNumber) := by
  refine T.F_read_ratio.okX sc_read_ratio (fun vs H Q E h => ?_) (fun cdv A outer s H vs Q E hr h => ?_)
  · obtain ⟨x, rfl, _⟩ := h
    rfl
  · obtain ⟨x, rfl, ax, hl, k1, k2⟩ := h
    refine ⟨_, (pss_cons (ps_asg (pe_partition (pv 0) pe_str) (pg_tup rfl (pgs_cons (pg_name (i := 1) sc_read_ratio.nd rfl (Or.inl rfl)) (pgs_cons (pg_name (i := 2) sc_read_ratio.nd rfl (Or.inl rfl)) (pgs_cons (pg_name (i := 3) sc_read_ratio.nd rfl (Or.inl rfl)) pgs_nil)))))
      (pss_cons (ps_if (pt_not (pt_val (pe_call (ok_is_number T) (hr.mono (by decide)) (by rfl) T.g_is_number T.F_is_number.kp T.b_is_number .nil pass0 (pa_cons (pv 1) pa_nil))))
        (pss_one (ps_raise rfl (takes_of rfl rfl rfl rfl) (pmk_oex T.ox_BadNumber T.xn_BadNumber T.xt_BadNumber (ok_BadNumber_init T) (hr.mono (by decide)) T.b_BadNumber_init .nil pass0 (by rfl) T.gc_BadNumber (pa_cons pe_str (pa_cons (pv 0) pa_nil)))))
        pss_nil)
      (pss_cons (ps_if (pt_cmpR op_eq (pv 2) pe_str (nomark _))
        (pss_one (ps_ret (pe_make T.M_Ratio (ok_Ratio_init T) (hr.mono (by decide)) (by rfl) T.gc_Ratio T.b_Ratio_init1 T.v_Ratio_init1 (passes_call (takes_of rfl rfl rfl rfl) (fun _ _ _ _ h => h)) (pa_cons (pe_callTy call_int_str (by rfl) T.m_int (by decide +kernel) (pa_cons (pv 1) pa_nil)) pa_nil))))
        pss_nil)
      (pss_cons (ps_if (pt_not (pt_val (pe_call (ok_is_number T) (hr.mono (by decide)) (by rfl) T.g_is_number T.F_is_number.kp T.b_is_number .nil pass0 (pa_cons (pv 3) pa_nil))))
        (pss_one (ps_raise rfl (takes_of rfl rfl rfl rfl) (pmk_oex T.ox_BadNumber T.xn_BadNumber T.xt_BadNumber (ok_BadNumber_init T) (hr.mono (by decide)) T.b_BadNumber_init .nil pass0 (by rfl) T.gc_BadNumber (pa_cons pe_str (pa_cons (pv 0) pa_nil)))))
        pss_nil)
      (pss_one (ps_ret (pe_make T.M_Ratio (ok_Ratio_init T) (hr.mono (by decide)) (by rfl) T.gc_Ratio T.b_Ratio_init2 T.v_Ratio_init2 (passes_call (takes_of rfl rfl rfl rfl) (fun _ _ _ _ h => h)) (pa_cons (pe_callTy call_int_str (by rfl) T.m_int (by decide +kernel) (pa_cons (pv 1) pa_nil)) (pa_cons (pe_callTy call_int_str (by rfl) T.m_int (by decide +kernel) (pa_cons (pv 3) pa_nil)) pa_nil))))))))), ?_⟩
    have hl' : x.length ≤ sizeLine := Nat.le_trans hl (by decide)
    refine ⟨_, rfl, ⟨_, rfl⟩, x, ("/" : Str), rfl, rfl, rfl, hl', fun p np => ⟨p, _, rfl, .inl (.inl upd_same), rfl, _, _, rfl, _, _, rfl, _, _, rfl, rfl, ?_⟩⟩
    have sp := same_upd (o := .tup [.str (Txt.partition x ("/" : Str)).1, .str (Txt.partition x ("/" : Str)).2.1, .str (Txt.partition x ("/" : Str)).2.2]) np
    revert sp
    generalize upd H p _ = H1
    intro sp
    have bad : out x = .inl (ratioD x) → ∀ d H', H1 d = none → Same H1 H' → H' d = some (.xd [("value", .str x), ("what", .str "ratio")]) → E (.ref T.c_BadNumber) (some d) H' := fun e d H' nd sm hx =>
      k2 "ratio" (.str x) (.str x) d H' e (fun _ => .str _) (shaped_ratio ax) (sp.free nd) (sp.trans sm) hx
    have lgn : ∀ n : Nat, n < 10000 → (n : Int).natAbs < 2 ^ 20 := fun n h => by omega
    rcases ways x with ⟨h47, hpar, hpt, _⟩ | ⟨a, b, e, hpar, hpt, _⟩
    · have ho : out x = if okN (tl x) = true then .inr ((val (tl x) : Nat), 1) else .inl (ratioD x) := by unfold out; rw [hpar]
      rw [hpt]
      refine ⟨_, rfl, x, rfl, ax, hl', _, rfl, ?_⟩
      cases hok : okN (tl x) with
      | false =>
        rw [hok] at ho
        exact iteT ⟨_, rfl, mk2 (bad ho)⟩
      | true =>
        rw [hok] at ho
        refine iteF ⟨_, rfl, rfl, _, rfl, ?_⟩
        have e0 : decide (V.str Str.empty = V.str ("" : Str)) = true := by decide +kernel
        rw [e0]
        refine iteT ⟨_, rfl, x, _, rfl, int_ok hok, Nat.le_trans hl (by decide), ?_⟩
        exact mk_ratio1 fun r H' sm R => k1 _ _ _ _ ho (sp.trans sm) (rp_int R (lgn _ (val_lt hok)) (by decide))
    · have mem : ∀ c, c ∈ a ∨ c ∈ b → c ∈ tl x := fun c h => by
        rw [e]
        rcases h with h | h
        · exact List.mem_append_left _ h
        · exact List.mem_append_right _ (List.mem_cons_of_mem _ h)
      have lx := TL.len_tl x
      rw [e, List.length_append, List.length_cons] at lx
      have aa : Asc ⟨a.toArray⟩ := fun c hc => ax c (mem c (.inl hc))
      have ab : Asc ⟨b.toArray⟩ := fun c hc => ax c (mem c (.inr hc))
      have la : (⟨a.toArray⟩ : Str).length = a.length := rfl
      have lb : (⟨b.toArray⟩ : Str).length = b.length := rfl
      have ho : out x = if okN a = true ∧ okN b = true then (if val b = 0 then .inl underD else .inr ((val a : Nat), (val b : Nat))) else .inl (ratioD x) := by unfold out; rw [hpar]
      rw [hpt]
      refine ⟨_, rfl, ⟨a.toArray⟩, rfl, aa, by omega, _, rfl, ?_⟩
      show if (!okN a) = true then _ else _
      cases hok : okN a with
      | false =>
        rw [hok, if_neg (by simp)] at ho
        exact iteT ⟨_, rfl, mk2 (bad ho)⟩
      | true =>
        refine iteF ⟨_, rfl, rfl, _, rfl, ?_⟩
        have e0 : decide (V.str ("/" : Str) = V.str ("" : Str)) = false := by decide +kernel
        rw [e0]
        refine iteF ⟨_, rfl, ⟨b.toArray⟩, rfl, ab, by omega, _, rfl, ?_⟩
        show if (!okN b) = true then _ else _
        cases hob : okN b with
        | false =>
          rw [hob, if_neg (by simp)] at ho
          exact iteT ⟨_, rfl, mk2 (bad ho)⟩
        | true =>
          rw [hok, hob, if_pos ⟨rfl, rfl⟩] at ho
          refine iteF ⟨_, rfl, ⟨a.toArray⟩, _, rfl, int_ok (x := ⟨a.toArray⟩) hok, by omega, _, rfl, ⟨b.toArray⟩, _, rfl, int_ok (x := ⟨b.toArray⟩) hob, by omega, ?_⟩
          show ∀ x dx, _
          refine mk_ratioE (O := (val a : Nat)) (U := (val b : Nat)) (sz_log (lgn _ (val_lt hob)) (by decide) (by decide)) (fun hU r p q H' sm R nf => ?_) fun hU d H' nd sm hx => ?_
          · rw [if_neg (by omega)] at ho
            exact k1 _ _ _ _ ho (sp.trans sm) (rp_make R nf hU (lgn _ (val_lt hok)) (lgn _ (val_lt hob)) (by decide))
          · rw [if_pos (by omega)] at ho
            exact k2 "under" (.int 0) (.int 0) d H' ho (fun _ => .int _) shaped_under (sp.free nd) (sp.trans sm) hx
theorem ok_l_told (T : Ctx K mg) : FnOk P w K mg base CX0 7 T.f_l_told T.fd_l_told ["_law_text"] (spOut K T.c_Ratio) := by
  refine T.F_l_told.ok sc_l_told (fun vs H Q E h => ?_) (fun cdv A outer s H vs Q E hr h => ?_)
  · obtain ⟨x, rfl, _⟩ := h
    rfl
  · obtain ⟨x, rfl, ax, hl, k⟩ := h
    refine ⟨_, (pss_one (ps_try_as (i := 1) (Wout := fun _ _ _ _ => False) rfl rfl sc_l_told.nd rfl rfl ⟨rfl, by decide, Or.inl T.gc_BadNumber⟩ takes0
        (fun W pn xe tk po => (pss_one (ps_ret (pe_callS (ok_read_ratio T) (hr.mono (by decide)) rfl T.g_read_ratio T.F_read_ratio.kp T.b_read_ratio (fun σ => passAt tk σ) (pa_cons (pv 0) pa_nil)))))
        (fun a oe cls d pn hz hf => (pss_one (ps_ret (pe_tup (pa_cons (pe_xf T.xf_BadNumber T.n_BadNumber_what hz hf (pv 1)) (pa_cons (pe_xf T.xf_BadNumber T.n_BadNumber_value hz hf (pv 1)) pa_nil)))))))), ?_⟩
    refine ⟨_, rfl, x, rfl, ax, hl, fun O U r H' ho sm R => k r H' sm ?_, fun w z dz d H' ho hd sh nd sm hx => ?_⟩
    · unfold Out
      rw [ho]
      exact R
    · refine ⟨true, T.ex_BadNumber_BadNumber, fun _ a na => ?_, fun z => nomatch z⟩
      refine ⟨.ref a, rfl, rfl, rfl, d, _, _, rfl, hx, rfl, _, rfl, rfl, rfl, d, _, _, rfl, hx, rfl, (by show 2 ≤ sizeLine; decide), fun tt ht => ?_⟩
      refine k _ _ (same_upd2 sm (sm.free ht)) ?_
      unfold Out
      rw [ho]
      exact ⟨.tup (.inl (.inl upd_same)) (.cons (.str _) (.cons (hd _) .nil)), sh⟩
theorem ok_l_due (T : Ctx K mg) : FnOk P w K mg base CX0 6 T.f_l_due T.fd_l_due ["_law_text"] (spOut K T.c_Ratio) := by
  refine T.F_l_due.ok sc_l_due (fun vs H Q E h => ?_) (fun cdv A outer s H vs Q E hr h => ?_)
  · obtain ⟨x, rfl, _⟩ := h
    rfl
  · obtain ⟨x, rfl, ax, hl, k⟩ := h
    refine ⟨_, (pss_cons (ps_setLc (i := 1) (own := [("_law_part", 2)]) (g := gName 2) (tt := tYes) rfl sc_l_due.nd rfl rfl (sw_true rfl rfl rfl (by decide +kernel)) (pi_list (pe_split (pv 0) pe_str)) (blkOk_by (own := [("_law_part", 2)]) (N := ["_law_text", "_law_parts", "_law_part"]) (sc := defScope s_l_due) (by decide +kernel)) (fun _ _ _ _ _ => (pg_name (i := 2) sc_l_due.nd rfl (Or.inl rfl))) (fun _ _ _ _ _ => pts_nil) (fun _ _ _ _ _ => (pe_call (ok_l_number T) (hr.mono (by decide)) (by rfl) T.g_l_number T.F_l_number.kp T.b_l_number .nil pass0 (pa_cons (pv 2) pa_nil))))
      (Evl.pss_cut (ps_if (PW.pt (pw_or (pt_cmpR op_gt (pe_callB call_len_seq (by rfl) T.m_len (by decide +kernel) (pa_cons (pv 1) pa_nil)) pe_int (nomark _)) (pw_or1 (pt_cmpR op_in_seq pe_non (pv 1) rfl))))
        (pss_one (ps_ret (pe_tup (pa_cons pe_str (pa_cons (pv 0) pa_nil)))))
        pss_nil)
      (pss_cons (ps_if (pt_cmpR op_eq (pe_callB call_len_seq (by rfl) T.m_len (by decide +kernel) (pa_cons (pv 1) pa_nil)) pe_int (nomark _))
        (pss_one (ps_ret (pe_make T.M_Ratio (ok_Ratio_init T) (hr.mono (by decide)) (by rfl) T.gc_Ratio T.b_Ratio_init1 T.v_Ratio_init1 passL (pa_cons (pe_ix ix_list (pv 1) pe_int (fun _ _ => rfl)) pa_nil))))
        pss_nil)
      (pss_cons (ps_if (pt_cmpR op_eq (pe_ix ix_list (pv 1) pe_int (fun _ _ => rfl)) pe_int (nomark _))
        (pss_one (ps_ret (pe_tup (pa_cons pe_str (pa_cons pe_int pa_nil)))))
        pss_nil)
      (pss_one (ps_ret (pe_make T.M_Ratio (ok_Ratio_init T) (hr.mono (by decide)) (by rfl) T.gc_Ratio T.b_Ratio_init2 T.v_Ratio_init2 passL (pa_cons (pe_ix ix_list (pv 1) pe_int (fun _ _ => rfl)) (pa_cons (pe_ix ix_list (pv 1) pe_int (fun _ _ => rfl)) pa_nil))))))))), ?_⟩
    have hl' : x.length ≤ sizeLine := Nat.le_trans hl (by decide)
    obtain ⟨ys, hys⟩ : ∃ ys, ys = Txt.split x ("/" : Str) := ⟨_, rfl⟩
    refine ⟨_, rfl, ⟨_, rfl⟩, x, ("/" : Str), rfl, rfl, rfl, Nat.le_trans (Nat.add_le_add_right hl 2) (by decide), fun sl nsl => ⟨sl, rfl, ⟨_, SqL.of upd_same⟩, fun pl npl => ?_⟩⟩
    rw [← hys] at npl ⊢
    have hsub : ∀ y ∈ ys, Asc y ∧ y.length ≤ 600 := fun y hy => by
      have hm : tl y ∈ TL.spl [47] 0 [] (tl x) := by
        have e := TL.split_spl x ("/" : Str) (by decide) (TL.kind_ok (by decide +kernel))
        have e2 : tl ("/" : Str) = [47] := rfl
        rw [e2, ← hys] at e
        rw [← e]
        exact List.mem_map_of_mem hy
      obtain ⟨h1, h2⟩ := spl_sub _ _ _ hm
      refine ⟨fun c hc => ?_, ?_⟩
      · rcases h1 c hc with h | h
        · cases h
        · exact ax c h
      · have e1 := TL.len_tl x
        have e2 := TL.len_tl y
        rw [List.length_nil] at h2
        omega
    have hy600 : ys.length ≤ 700 := by
      have := PyProof.Rows.split_le x ("/" : Str)
      rw [hys]
      omega
    have s1 := same_upd (o := .lst (ys.map V.str)) nsl
    have hsl : upd H sl (.lst (ys.map V.str)) sl = some (.lst (ys.map V.str)) := upd_same
    revert s1 hsl npl
    generalize upd H sl _ = H1
    intro npl s1 hsl
    refine lc_list (K := K) (a := sl) (xs := ys.map V.str) (fun i H' => Same H1 H' ∧ H' pl = some (.lst (((ys.map tl).take i).map numV)))
      ⟨same_upd npl, upd_same⟩ (fun i H' _ ⟨s2, _⟩ => s2.seq (SqL.of hsl)) ?_ ?_
    · rintro i v H2 hi ⟨s2, hp⟩
      rw [List.getElem?_map] at hi
      cases hy : ys[i]? with
      | none =>
        rw [hy] at hi
        cases hi
      | some y =>
        rw [hy] at hi
        cases hi
        obtain ⟨ay, ly⟩ := hsub y (List.mem_of_getElem? hy)
        have hyl : (ys.map tl)[i]? = some (tl y) := by rw [List.getElem?_map, hy] <;> rfl
        have npl1 : ∀ b o, H1 b = some o → b ≠ pl := fun b o e => ne_of_none e npl
        refine ⟨rfl, ?_⟩
        refine ⟨_, rfl, y, rfl, ay, Nat.le_trans ly (by decide), _, hp, ?_, fun b o e => by rw [upd_ne (npl1 b o e)]; exact s2 _ _ e, ?_⟩
        · rw [List.length_map, List.length_take]
          have : (700 : Nat) < sizeLine := by decide
          have := Nat.min_le_right i (ys.map tl).length
          rw [List.length_map] at this
          rw [List.length_map]
          omega
        · rw [List.take_add_one, hyl, upd_same, List.map_append]
          rfl
    · rintro H2 ⟨s2, hp⟩
      rw [List.length_map, show ys.length = (ys.map tl).length from (List.length_map _).symm, List.take_length] at hp
      have s3 := s1.trans s2
      clear hsl nsl npl s1 s2 hsub
      have bad : out x = .inl (ratioD x) → ∀ D, H2 D = none → Q (.ref D) (upd H2 D (.tup [.str "ratio", .str x])) := fun e D nD => by
        refine k _ _ (same_upd2 s3 (s3.free nD)) ?_
        unfold Out
        rw [e]
        exact ⟨.tup (.inl (.inl upd_same)) (.cons (.str _) (.cons (.str _) .nil)), shaped_ratio ax⟩
      have lng : ∀ n : Nat, n < 10000 → (n : Int).natAbs < 2 ^ 20 := fun n h => by omega
      have hob := @out_bad x
      have hog := @out_good x
      rw [← hys] at hob hog
      generalize hL : ys.map tl = L at hp hob hog
      refine ⟨fun σ' H' => (∃ v2, σ' = [some (.str x), some (.ref pl), v2]) ∧ H' = H2 ∧ L.length ≤ 2 ∧ ∀ l ∈ L, okN l = true, ?_, ?_⟩
      · refine ⟨_, rfl, pl, _, rfl, .inl (SqL.of hp), _, _, rfl, rfl, _, rfl, ?_⟩
        rw [List.length_map]
        refine ite2 (fun h => ?_) fun h => ?_
        · have h := of_decide_eq_true h
          refine iteT ⟨_, rfl, (by show 2 ≤ sizeLine; decide), fun D nD => ?_⟩
          exact bad (hob (.inl (by omega))) D nD
        · have h1 := of_decide_eq_false (Bool.eq_false_iff.mpr h)
          refine ⟨_, rfl, pl, _, rfl, .inl (SqL.of hp), rfl, ?_, _, rfl, ?_⟩
          · rw [List.all_map, List.all_eq_true]
            intro l _
            show flatV (numV l) = true
            unfold numV
            split <;> rfl
          · have inv : inV .non (L.map numV) = L.any fun l => !okN l := by
              unfold inV
              rw [List.any_map]
              refine congrArg (List.any L) (funext fun l => ?_)
              show eqV (numV l) .non = !okN l
              unfold numV
              cases okN l <;> rfl
            show if inV .non (L.map numV) = true then _ else _
            rw [inv]
            refine ite2 (fun h => ?_) fun h => ?_
            · obtain ⟨l, hl, h⟩ := List.any_eq_true.mp h
              refine ⟨_, rfl, (by show 2 ≤ sizeLine; decide), fun D nD => ?_⟩
              exact bad (hob (.inr ⟨l, hl, by simpa using h⟩)) D nD
            · refine ⟨⟨_, rfl⟩, rfl, by omega, fun l hl => ?_⟩
              cases e : okN l with
              | true => rfl
              | false => exact absurd (List.any_eq_true.mpr ⟨l, hl, by rw [e] <;> rfl⟩) h
      · rintro σ' H' ⟨⟨v2, rfl⟩, rfl, h1, h2⟩
        refine ⟨_, rfl, pl, _, rfl, .inl (SqL.of hp), rfl, _, rfl, ?_⟩
        rw [List.length_map]
        rcases hog h1 h2 with ⟨l, rfl, hok, ho⟩ | ⟨a, b, rfl, ha, hb, ho⟩
        · have nv : numV l = .int (val l : Nat) := by unfold numV; rw [hok] <;> rfl
          refine iteT ⟨_, rfl, pl, _, _, .int (val l : Nat), rfl, rfl, SqL.of hp, (by rw [← nv] <;> rfl), ?_⟩
          exact mk_ratio1 fun r H3 sm R => k _ _ (s3.trans sm) (by
            unfold Out
            rw [ho]
            exact rp_int R (lng _ (val_lt hok)) (by decide))
        · have na : numV a = .int (val a : Nat) := by unfold numV; rw [ha] <;> rfl
          have nb : numV b = .int (val b : Nat) := by unfold numV; rw [hb] <;> rfl
          have a0 : atI ([a, b].map numV) 0 = some (.int (val a : Nat)) := by rw [← na] <;> rfl
          have a1 : atI ([a, b].map numV) 1 = some (.int (val b : Nat)) := by rw [← nb] <;> rfl
          refine iteF ⟨_, rfl, pl, _, _, _, rfl, rfl, SqL.of hp, a1, rfl, _, rfl, ite2 (fun h => ?_) fun h => ?_⟩
          · have e : V.int (val b : Nat) = .int 0 := of_decide_eq_true h
            have e : ((val b : Nat) : Int) = 0 := by injection e
            rw [if_pos (by omega)] at ho
            refine ⟨(by show 2 ≤ sizeLine; decide), fun D nD => k _ _ (same_upd2 s3 (s3.free nD)) ?_⟩
            unfold Out
            rw [ho]
            exact ⟨.tup (.inl (.inl upd_same)) (.cons (.str _) (.cons (.int _) .nil)), shaped_under⟩
          · have hU : ((val b : Nat) : Int) ≠ 0 := fun z => h (decide_eq_true (by rw [z]))
            rw [if_neg (by omega)] at ho
            refine ⟨_, rfl, pl, _, _, _, rfl, rfl, SqL.of hp, a0, _, rfl, pl, _, _, _, rfl, rfl, SqL.of hp, a1, ?_⟩
            exact mk_ratio hU (sz_log (lng _ (val_lt hb)) (by decide) (by decide)) fun r p q H3 sm R nf => k _ _ (s3.trans sm) (by
              unfold Out
              rw [ho]
              exact rp_make R nf hU (lng _ (val_lt ha)) (lng _ (val_lt hb)) (by decide))
/-- two readings of one text -/
theorem ne_out {C : Addr} {H : Hp} {r1 r2 : V} {x : Str} {Q : VK} (T : InsC K C) (h1 : Out K C H r1 x) (h2 : Out K C H r2 x) (k : Q (.bl false) H) : rOwnNe K C (spEqR K C) E0 r1 r2 H Q ∨ rNeD K r1 r2 H Q := by
  unfold Out at h1 h2
  revert h1 h2
  cases out x with
  | inl d =>
    intro h1 h2
    refine .inr ⟨d, d, h1.1, h2.1, h1.2, h1.2, ?_⟩
    rw [ne_self h1.2]
    exact k
  | inr p => exact fun h1 h2 => .inl (st_neF T h1 h2 rfl k)
/-- texts of the draws -/
def Tx (n : Nat) (x : Str) : Prop := Asc x ∧ 1 ≤ x.length ∧ x.length ≤ n
theorem tx_num {n : Nat} (h : n < 10000) : Tx 4 (toString (n : Int) : String) := by
  have e : tl ((toString (n : Int) : String) : Str) = TL.numL n := TL.tl_num n
  refine ⟨fun c hc => ?_, ?_, ?_⟩
  · rw [e] at hc
    have := TL.numL_digits n c hc
    omega
  · rw [TL.len_tl, e]
    exact List.length_pos_iff.mpr (TL.numL_ne n)
  · rw [TL.len_tl, e]
    exact TL.numL_len (by decide) h
theorem asc_app {x y : Str} (h1 : Asc x) (h2 : Asc y) : Asc (x ++ y) := fun c hc => by
  rw [TL.tl_append] at hc
  rcases List.mem_append.mp hc with h | h
  · exact h1 c h
  · exact h2 c h
theorem asc_cut {x : Str} (h : Asc x) (lo hi : Option Int) : Asc (cutS x lo hi) := fun c hc => by
  have hc : c ∈ ((tl x).drop (HT.sIx x.length 0 lo)).take (HT.sIx x.length x.length hi - HT.sIx x.length 0 lo) := hc
  exact h c (List.mem_of_mem_drop (List.mem_of_mem_take hc))
instance (x : Str) : Decidable (Asc x) := inferInstanceAs (Decidable (∀ c ∈ tl x, c < 128))
theorem asc_slash : Asc ("/" : Str) := by decide +kernel
/-- a draw below 10 or 10000: the list of the two limits and what is drawn -/
theorem lims {x : Int} (h1 : 0 ≤ x) (h2 : x < 2) : ∃ m : Int, atI [V.int 10, .int 10000] x = some (.int m) ∧ 0 < m ∧ m ≤ 10000 := by
  have : x = 0 ∨ x = 1 := by omega
  rcases this with rfl | rfl
  · exact ⟨10, rfl, by decide, by decide⟩
  · exact ⟨10000, rfl, by decide, by decide⟩
theorem Drw.ne {K : PySem.W.Frag} {H0 H : Hp} {l t f : Addr} (D : Drw K H0 l t H) (h : H f = none) : f ≠ t := fun e => by
  subst e
  obtain ⟨_, _, _, _, h0⟩ := D.st
  rw [h] at h0
  cases h0
theorem tx_int {x : Int} (h1 : 0 ≤ x) (h2 : x < 10000) : Tx 4 (toString x : String) := by
  obtain ⟨n, rfl⟩ := Int.eq_ofNat_of_zero_le h1
  exact tx_num (by omega)
/-- the text of a ratio, read -/
theorem out_rtext {p q : Nat} (hp : p < 10000) (hq : q < 10000) (h0 : 0 < q) : out (rtext (p : Int) (q : Int)) = .inr ((p : Int), (q : Int)) ∧ Asc (rtext (p : Int) (q : Int)) ∧ (rtext (p : Int) (q : Int)).length ≤ 600 := by
  obtain ⟨a1, _, l1⟩ := tx_num hp
  obtain ⟨a2, _, l2⟩ := tx_num hq
  have e1 : tl ((toString (p : Int) : String) : Str) = TL.numL p := TL.tl_num p
  have e2 : tl ((toString (q : Int) : String) : Str) = TL.numL q := TL.tl_num q
  have v1 : val (TL.numL p) = p := TL.numL_val p
  have v2 : val (TL.numL q) = q := TL.numL_val q
  unfold rtext
  by_cases hq1 : (q : Int) = 1
  · rw [if_pos hq1]
    refine ⟨?_, a1, Nat.le_trans l1 (by decide)⟩
    unfold out
    rw [e1, TL.par_none1 (S := []) (TL.numL_free (by decide)), okN_numL hp, v1, hq1]
    rfl
  · rw [if_neg hq1]
    refine ⟨?_, asc_app (asc_app a1 asc_slash) a2, ?_⟩
    · unfold out
      have et : tl (((((toString (p : Int) : String) : Str) ++ ("/" : Str)) ++ ((toString (q : Int) : String) : Str))) = TL.numL p ++ ([47] ++ TL.numL q) := by
        rw [TL.tl_append, TL.tl_append, e1, e2, List.append_assoc]
        rfl
      rw [et, TL.par_part1 (S := []) (acc := []) (TL.numL_free (by decide))]
      show (if okN ([] ++ TL.numL p) = true ∧ okN (TL.numL q) = true then (if val (TL.numL q) = 0 then .inl underD else .inr (((val ([] ++ TL.numL p) : Nat) : Int), ((val (TL.numL q) : Nat) : Int))) else .inl (ratioD _)) = Sum.inr ((p : Int), (q : Int))
      rw [List.nil_append, if_pos ⟨okN_numL hp, okN_numL hq⟩, v1, v2, if_neg (by omega)]
    · rw [len_app, len_app]
      have e3 : ("/" : Str).length = 1 := rfl
      omega
def Ls : List Str := ["", "/", "1/", "/2", "1/2/3", "1/0", "0/1", "6/8", "10000", "1/10000", " 1", "1 / 2", "-1", "01/2"]
theorem Ls_ok : ∀ x ∈ Ls, Asc x ∧ x.length ≤ 600 := by decide +kernel
theorem out_68 : out ("6/8" : Str) = .inr (6, 8) := rfl
theorem out_05 : out ("0/5" : Str) = .inr (0, 5) := rfl
theorem ok_law (T : Ctx K mg) : FnOk P w K mg base CX0 9 T.f_law T.fd_law ["_law_script"] (spLaw K) := by
  refine T.F_law.ok sc_law (fun vs H Q E h => ?_) (fun cdv A outer s H vs Q E hr h => ?_)
  · obtain ⟨l, ns, rfl, _⟩ := h
    rfl
  · obtain ⟨l, ns, rfl, hS, hlen, q⟩ := h
    refine ⟨_, (pss_cons (ps_set (i := 1) sc_law.nd rfl (Or.inl rfl) (pe_call (ok_l_start T) (hr.mono (by decide)) (by rfl) T.g_l_start T.F_l_start.kp T.b_l_start .nil pass0 (pa_cons (pv 0) pa_nil)))
      (pss_cons (ps_for PassesOwn.never rfl (pi_range1 (by rfl) T.m_range (pa_cons pe_int pa_nil)) (pg_name (i := 2) sc_law.nd rfl (Or.inl rfl))
        (pss_cons (ps_set (i := 3) sc_law.nd rfl (Or.inl rfl) (pe_callTy call_str_int (by rfl) T.m_str (by decide +kernel) (pa_cons (pe_call (ok_l_draw T) (hr.mono (by decide)) (by rfl) T.g_l_draw T.F_l_draw.kp T.b_l_draw .nil pass0 (pa_cons (pv 0) (pa_cons (pv 1) (pa_cons (pe_ix ix_list (pe_lst (pa_cons pe_int (pa_cons pe_int pa_nil))) (pe_call (ok_l_draw T) (hr.mono (by decide)) (by rfl) T.g_l_draw T.F_l_draw.kp T.b_l_draw .nil pass0 (pa_cons (pv 0) (pa_cons (pv 1) (pa_cons pe_int pa_nil)))) (fun _ _ => rfl)) pa_nil)))) pa_nil)))
        (Evl.pss_cut (ps_if (pt_cmpR op_gt (pe_call (ok_l_draw T) (hr.mono (by decide)) (by rfl) T.g_l_draw T.F_l_draw.kp T.b_l_draw .nil pass0 (pa_cons (pv 0) (pa_cons (pv 1) (pa_cons pe_int pa_nil)))) pe_int (nomark _))
          (pss_one (ps_set (i := 3) sc_law.nd rfl (Or.inl rfl) (pe_op op_add_str (pe_op op_add_str (pv 3) pe_str) (pe_callTy call_str_int (by rfl) T.m_str (by decide +kernel) (pa_cons (pe_call (ok_l_draw T) (hr.mono (by decide)) (by rfl) T.g_l_draw T.F_l_draw.kp T.b_l_draw .nil pass0 (pa_cons (pv 0) (pa_cons (pv 1) (pa_cons (pe_ix ix_list (pe_lst (pa_cons pe_int (pa_cons pe_int pa_nil))) (pe_call (ok_l_draw T) (hr.mono (by decide)) (by rfl) T.g_l_draw T.F_l_draw.kp T.b_l_draw .nil pass0 (pa_cons (pv 0) (pa_cons (pv 1) (pa_cons pe_int pa_nil)))) (fun _ _ => rfl)) pa_nil)))) pa_nil)))))
          pss_nil)
        (Evl.pss_cut (ps_if (pt_cmpR op_eq (pe_call (ok_l_draw T) (hr.mono (by decide)) (by rfl) T.g_l_draw T.F_l_draw.kp T.b_l_draw .nil pass0 (pa_cons (pv 0) (pa_cons (pv 1) (pa_cons pe_int pa_nil)))) pe_int (nomark _))
          (pss_cons (ps_set (i := 4) sc_law.nd rfl (Or.inl rfl) (pe_call (ok_l_draw T) (hr.mono (by decide)) (by rfl) T.g_l_draw T.F_l_draw.kp T.b_l_draw .nil pass0 (pa_cons (pv 0) (pa_cons (pv 1) (pa_cons (pe_callB call_len_str (by rfl) T.m_len (by decide +kernel) (pa_cons (pv 3) pa_nil)) pa_nil)))))
          (pss_cons (ps_set (i := 5) sc_law.nd rfl (Or.inl rfl) pe_str)
          (pss_one (ps_set (i := 3) sc_law.nd rfl (Or.inl rfl) (pe_op op_add_str (pe_op op_add_str (pe_slice sl_str (pv 3) po_none (po_some (pv 4))) (pe_ix ix_str (pv 5) (pe_call (ok_l_draw T) (hr.mono (by decide)) (by rfl) T.g_l_draw T.F_l_draw.kp T.b_l_draw .nil pass0 (pa_cons (pv 0) (pa_cons (pv 1) (pa_cons (pe_callB call_len_str (by rfl) T.m_len (by decide +kernel) (pa_cons (pv 5) pa_nil)) pa_nil)))) (fun _ _ => rfl))) (pe_slice sl_str (pv 3) (po_some (pe_op op_add (pv 4) (pe_call (ok_l_draw T) (hr.mono (by decide)) (by rfl) T.g_l_draw T.F_l_draw.kp T.b_l_draw .nil pass0 (pa_cons (pv 0) (pa_cons (pv 1) (pa_cons pe_int pa_nil)))))) po_none))))))
          pss_nil)
        (pss_cons (ps_if (pt_cmpR ((op_ownNe T.oc_Ratio T.me_Ratio_eq.at_ T.me_Ratio_eq.fn (ok_Ratio_eq T) (hr.mono (by decide)) T.b_Ratio_eq pass0).or (op_neD hr.units)) (pe_call (ok_l_told T) (hr.mono (by decide)) (by rfl) T.g_l_told T.F_l_told.kp T.b_l_told .nil pass0 (pa_cons (pv 3) pa_nil)) (pe_call (ok_l_due T) (hr.mono (by decide)) (by rfl) T.g_l_due T.F_l_due.kp T.b_l_due .nil pass0 (pa_cons (pv 3) pa_nil)) (nomark _))
          (pss_one (ps_ret pe_bl))
          pss_nil)
        (pss_cons (ps_set (i := 6) sc_law.nd rfl (Or.inl rfl) (pe_make T.M_Ratio (ok_Ratio_init T) (hr.mono (by decide)) (by rfl) T.gc_Ratio T.b_Ratio_init2 T.v_Ratio_init2 passL (pa_cons (pe_call (ok_l_draw T) (hr.mono (by decide)) (by rfl) T.g_l_draw T.F_l_draw.kp T.b_l_draw .nil pass0 (pa_cons (pv 0) (pa_cons (pv 1) (pa_cons pe_int pa_nil)))) (pa_cons (pe_op op_add pe_int (pe_call (ok_l_draw T) (hr.mono (by decide)) (by rfl) T.g_l_draw T.F_l_draw.kp T.b_l_draw .nil pass0 (pa_cons (pv 0) (pa_cons (pv 1) (pa_cons pe_int pa_nil))))) pa_nil))))
        (pss_one (ps_if (pt_cmpR ((op_ownNe T.oc_Ratio T.me_Ratio_eq.at_ T.me_Ratio_eq.fn (ok_Ratio_eq T) (hr.mono (by decide)) T.b_Ratio_eq pass0).or (op_neD hr.units)) (pe_call (ok_l_told T) (hr.mono (by decide)) (by rfl) T.g_l_told T.F_l_told.kp T.b_l_told .nil pass0 (pa_cons (pe_callTy (call_strO T.me_Ratio_str.at_ T.me_Ratio_str.fn (ok_Ratio_str T) (hr.mono (by decide)) T.b_Ratio_str pass0) (by rfl) T.m_str (by decide +kernel) (pa_cons (pv 6) pa_nil)) pa_nil)) (pv 6) (nomark _))
          (pss_one (ps_ret pe_bl))
          pss_nil))))))))
      (pss_cons (ps_for PassesOwn.never rfl (pi_list (pe_lst (pa_cons pe_str (pa_cons pe_str (pa_cons pe_str (pa_cons pe_str (pa_cons pe_str (pa_cons pe_str (pa_cons pe_str (pa_cons pe_str (pa_cons pe_str (pa_cons pe_str (pa_cons pe_str (pa_cons pe_str (pa_cons pe_str (pa_cons pe_str pa_nil)))))))))))))))) (pg_name (i := 3) sc_law.nd rfl (Or.inl rfl))
        (pss_one (ps_if (pt_cmpR ((op_ownNe T.oc_Ratio T.me_Ratio_eq.at_ T.me_Ratio_eq.fn (ok_Ratio_eq T) (hr.mono (by decide)) T.b_Ratio_eq pass0).or (op_neD hr.units)) (pe_call (ok_l_told T) (hr.mono (by decide)) (by rfl) T.g_l_told T.F_l_told.kp T.b_l_told .nil pass0 (pa_cons (pv 3) pa_nil)) (pe_call (ok_l_due T) (hr.mono (by decide)) (by rfl) T.g_l_due T.F_l_due.kp T.b_l_due .nil pass0 (pa_cons (pv 3) pa_nil)) (nomark _))
          (pss_one (ps_ret pe_bl))
          pss_nil)))
      (pss_one (ps_ret (pe_and (pe_cmpR ((op_ownC (fun _ _ => rfl) T.me_Ratio_eq.at_ T.me_Ratio_eq.fn (ok_Ratio_eq T) (hr.mono (by decide)) T.b_Ratio_eq pass0).or (op_eqD hr.units)) (pe_call (ok_l_told T) (hr.mono (by decide)) (by rfl) T.g_l_told T.F_l_told.kp T.b_l_told .nil pass0 (pa_cons pe_str pa_nil)) (pe_make T.M_Ratio (ok_Ratio_init T) (hr.mono (by decide)) (by rfl) T.gc_Ratio T.b_Ratio_init2 T.v_Ratio_init2 passL (pa_cons pe_int (pa_cons pe_int pa_nil))) (nomark _)) (pe_one (pe_cmpR ((op_ownC (fun _ _ => rfl) T.me_Ratio_eq.at_ T.me_Ratio_eq.fn (ok_Ratio_eq T) (hr.mono (by decide)) T.b_Ratio_eq pass0).or (op_eqD hr.units)) (pe_call (ok_l_told T) (hr.mono (by decide)) (by rfl) T.g_l_told T.F_l_told.kp T.b_l_told .nil pass0 (pa_cons pe_str pa_nil)) (pe_make T.M_Ratio (ok_Ratio_init T) (hr.mono (by decide)) (by rfl) T.gc_Ratio T.b_Ratio_init1 T.v_Ratio_init1 passL (pa_cons pe_int pa_nil)) (nomark _))))))))), ?_⟩
    have lg : ∀ n : Int, 0 ≤ n → n < 10000 → n.natAbs.log2 < 1920 := fun n h1 h2 => Nat.lt_trans (PySem.Flt.log2_lt_of (show 0 < 20 by decide) (show n.natAbs < 2 ^ 20 by omega)) (by decide)
    refine ⟨_, rfl, l, ns, rfl, hS, fun t H1 nt D1 b1 => ?_⟩
    refine ⟨6, rfl, by decide, by decide, for_range (n := 6) (fun i σ H' => Drw K H l t H' ∧ ∃ v2 v3 v4 v5 v6, σ = [some (.ref l), some (.ref t), v2, v3, v4, v5, v6])
      ⟨D1, _, _, _, _, _, rfl⟩ ?_ ?_⟩
    · rintro i σ H0 hi ⟨D0, v2, v3, v4, v5, v6, rfl⟩
      -- text = str(..)
      refine ⟨_, rfl, _, rfl, (by show 2 ≤ sizeLine; decide), fun fl nfl => ?_⟩
      refine ⟨_, rfl, _, rfl, l, t, 2, H, rfl, D0.mono (same_upd nfl), by decide, by decide, fun x1 H1 a1 a2 b1 D1 => ?_⟩
      have hfl := (b1 fl (D0.ne nfl)).trans upd_same
      obtain ⟨m1, hm1, hm2, hm3⟩ := lims a1 a2
      refine ⟨fl, _, _, _, rfl, rfl, SqL.of hfl, hm1, l, t, m1, H, rfl, D1, hm2, by omega, fun x2 H2 a3 a4 b2 D2 => ?_⟩
      refine ⟨_, rfl, lg _ a3 (by omega), ?_⟩
      have T1 : Tx 4 (toString x2 : String) := tx_int a3 (by omega)
      dsimp only
      generalize ((toString x2 : String) : Str) = z1 at T1 ⊢
      clear hfl hm1 hm2 hm3 D1 b1 b2 a3 a4 a1 a2 nfl
      -- + '/' + str(..)
      refine ⟨fun σ' H' => Drw K H l t H' ∧ ∃ z, Tx 9 z ∧ σ' = [some (.ref l), some (.ref t), some (.int (0 + i)), some (.str z), v4, v5, v6], ?_, ?_⟩
      · refine ⟨_, rfl, _, rfl, l, t, 4, H, rfl, D2, by decide, by decide, fun x3 H3 a5 a6 b3 D3 => ⟨_, _, rfl, rfl, _, rfl, ite2 (fun h => ?_) fun h => ⟨D3, z1, ⟨T1.1, T1.2.1, Nat.le_trans T1.2.2 (by decide)⟩, rfl⟩⟩⟩
        refine ⟨_, rfl, _, _, rfl, rfl, ?_, _, rfl, _, rfl, (by show 2 ≤ sizeLine; decide), fun fl nfl => ?_⟩
        · have e3 : ("/" : Str).length = 1 := rfl
          rw [e3]
          exact Nat.le_trans (Nat.add_le_add_right T1.2.2 1) (by decide)
        refine ⟨_, rfl, _, rfl, l, t, 2, H, rfl, D3.mono (same_upd nfl), by decide, by decide, fun x1 H1 a1 a2 b1 D1 => ?_⟩
        have hfl := (b1 fl (D3.ne nfl)).trans upd_same
        obtain ⟨m1, hm1, hm2, hm3⟩ := lims a1 a2
        refine ⟨fl, _, _, _, rfl, rfl, SqL.of hfl, hm1, l, t, m1, H, rfl, D1, hm2, by omega, fun x2 H2 a3 a4 b2 D2 => ?_⟩
        obtain ⟨t1, t2, t3⟩ : Tx 4 (toString x2 : String) := tx_int a3 (by omega)
        have e3 : ("/" : Str).length = 1 := rfl
        have hT : Tx 9 ((z1 ++ ("/" : Str)) ++ ((toString x2 : String) : Str)) := by
          refine ⟨asc_app (asc_app T1.1 asc_slash) t1, ?_, ?_⟩
          · rw [len_app, len_app, e3]
            omega
          · rw [len_app, len_app, e3]
            have := T1.2.2
            omega
        refine ⟨_, rfl, lg _ a3 (by omega), _, _, rfl, rfl, ?_, D2, _, hT, rfl⟩
        rw [← len_app]
        exact Nat.le_trans hT.2.2 (by decide)
      · rintro σ' H3 ⟨D3, z, Tz, rfl⟩
        clear T1 D2
        -- a sign changed
        refine ⟨fun σ' H' => Drw K H l t H' ∧ ∃ z v4 v5, Asc z ∧ z.length ≤ 600 ∧ σ' = [some (.ref l), some (.ref t), some (.int (0 + i)), some (.str z), v4, v5, v6], ?_, ?_⟩
        · refine ⟨_, rfl, _, rfl, l, t, 3, H, rfl, D3, by decide, by decide, fun x3 H4 a5 a6 b4 D4 => ⟨rfl, _, rfl, ite2 (fun h => ?_) fun h => ⟨D4, z, _, _, Tz.1, Nat.le_trans Tz.2.2 (by decide), rfl⟩⟩⟩
          have hzl : z.length ≤ sizeLine := Nat.le_trans Tz.2.2 (by decide)
          have hz1 := Tz.2.1
          have hz2 := Tz.2.2
          refine ⟨_, rfl, _, rfl, _, rfl, z, rfl, hzl, l, t, _, H, rfl, D4, by omega, by omega, fun x4 H5 a7 a8 b5 D5 => ?_⟩
          refine ⟨_, rfl, _, rfl, _, rfl, z, rfl, hzl, ?_⟩
          refine ⟨_, rfl, _, rfl, _, rfl, _, rfl, ("0/ -+.x" : Str), rfl, (by decide), l, t, _, H, rfl, D5, by decide, by decide, fun x5 H6 a9 a10 b6 D6 => ?_⟩
          obtain ⟨c, hc, hc2⟩ : ∃ c, atI (tl ("0/ -+.x" : Str)) x5 = some c ∧ c < 128 := by
            have e7 : ((("0/ -+.x" : Str).length : Nat) : Int) = 7 := rfl
            rw [e7] at a10
            have : x5 = 0 ∨ x5 = 1 ∨ x5 = 2 ∨ x5 = 3 ∨ x5 = 4 ∨ x5 = 5 ∨ x5 = 6 := by omega
            rcases this with rfl | rfl | rfl | rfl | rfl | rfl | rfl
            all_goals exact ⟨_, rfl, by decide⟩
          refine ⟨_, _, c, rfl, rfl, (by decide), hc, _, _, rfl, rfl, ?_, ?_⟩
          · have := cutS_length z none (some x4)
            have e1 : (⟨#[c]⟩ : Str).length = 1 := rfl
            have : (600 : Nat) ≤ sizeLine := by decide
            omega
          refine ⟨_, rfl, _, rfl, _, rfl, _, rfl, l, t, 2, H, rfl, D6, by decide, by decide, fun x6 H7 a11 a12 b7 D7 => ?_⟩
          refine ⟨_, _, rfl, rfl, _, rfl, z, rfl, hzl, ?_⟩
          have c1 := cutS_length z none (some x4)
          have c2 := cutS_length z (some (x4 + x6)) none
          have e1 : (⟨#[c]⟩ : Str).length = 1 := rfl
          have e2 : (cutS z none (some x4) ++ (⟨#[c]⟩ : Str)).length = (cutS z none (some x4)).length + 1 := len_app _ _
          have e3 : ((cutS z none (some x4) ++ (⟨#[c]⟩ : Str)) ++ cutS z (some (x4 + x6)) none).length = (cutS z none (some x4) ++ (⟨#[c]⟩ : Str)).length + (cutS z (some (x4 + x6)) none).length := len_app _ _
          refine ⟨_, _, rfl, rfl, ?_, D7, _, _, _, asc_app (asc_app (asc_cut Tz.1 _ _) fun d hd => ?_) (asc_cut Tz.1 _ _), ?_, rfl⟩
          · have : (600 : Nat) ≤ sizeLine := by decide
            show (cutS z none (some x4) ++ (⟨#[c]⟩ : Str)).length + (cutS z (some (x4 + x6)) none).length ≤ sizeLine
            omega
          · have hd : d ∈ [c] := hd
            rw [List.mem_singleton.mp hd]
            exact hc2
          · show ((cutS z none (some x4) ++ (⟨#[c]⟩ : Str)) ++ cutS z (some (x4 + x6)) none).length ≤ 600
            omega
        · rintro σ' H4 ⟨D4, z, v4, v5, az, lz, rfl⟩
          refine ⟨_, rfl, z, rfl, az, lz, fun r1 H5 s5 O1 => ?_⟩
          refine ⟨_, rfl, z, rfl, az, lz, fun r2 H6 s6 O2 => ?_⟩
          refine ne_out T.ic_Ratio (O1.same s6) O2 ⟨_, rfl, iteF ?_⟩
          have D6 := D4.mono (s5.trans s6)
          refine ⟨_, rfl, _, rfl, l, t, 1000, H, rfl, D6, by decide, by decide, fun x7 H7 a1 a2 b7 D7 => ?_⟩
          refine ⟨_, rfl, _, rfl, l, t, 1000, H, rfl, D7, by decide, by decide, fun x8 H8 a3 a4 b8 D8 => ⟨_, _, rfl, rfl, ?_⟩⟩
          have hU : 1 + x8 ≠ 0 := by omega
          refine mk_ratio hU (sz_log (n := 20) (by omega) (by decide) (by decide)) fun r p q H9 s9 R nf => ?_
          have l1 := nf.le1
          have l2 := nf.le2
          have hq0 := nf.pos
          have hp0 : 0 ≤ p := by
            have e := nf.eq
            by_cases h : 0 ≤ p
            · exact h
            · have h1 : p * (1 + x8) < 0 := Int.mul_neg_of_neg_of_pos (by omega) (by omega)
              have h2 : 0 ≤ x7 * q := Int.mul_nonneg a1 (by omega)
              omega
          obtain ⟨pn, rfl⟩ := Int.eq_ofNat_of_zero_le hp0
          obtain ⟨qn, rfl⟩ := Int.eq_ofNat_of_zero_le (Int.le_of_lt hq0)
          obtain ⟨o1, o2, o3⟩ := out_rtext (p := pn) (q := qn) (by omega) (by omega) (by omega)
          refine ⟨_, rfl, _, rfl, R.isC, _, _, _, rfl, R, lg _ hp0 (by omega), lg _ (by omega) (by omega), _, rfl, ?_⟩
          refine ⟨_, rfl, o2, o3, fun r3 H10 s10 O3 => ?_⟩
          unfold Out at O3
          rw [o1] at O3
          have P9 : Rp T.c_Ratio H10 (.ref r) pn qn 20 := ⟨_, _, R.same s10, rfl, by omega, ⟨by omega, by omega⟩, by decide⟩
          exact ⟨_, rfl, .inl (st_neF T.ic_Ratio O3 P9 rfl ⟨_, rfl, iteF ⟨D8.mono (s9.trans s10), _, _, _, _, _, rfl⟩⟩)⟩
    · rintro σ H0 ⟨D0, v2, v3, v4, v5, v6, rfl⟩
      clear D1 b1
      refine ⟨(by show 14 ≤ sizeLine; decide), fun pl npl => ?_⟩
      have hl4 : upd H0 pl (.lst (Ls.map V.str)) pl = some (.lst (Ls.map V.str)) := upd_same
      refine ⟨pl, rfl, ⟨_, SqL.of hl4⟩, for_list (K := K) (a := pl) (xs := Ls.map V.str)
        (fun j σ H' => H' pl = some (.lst (Ls.map V.str)) ∧ ∃ v3, σ = [some (.ref l), some (.ref t), v2, v3, v4, v5, v6])
        ⟨hl4, _, rfl⟩ (fun i σ H' _ ⟨s1, _⟩ => SqL.of s1) ?_ ?_⟩
      · rintro j v σ H7 hj ⟨hp, v3, rfl⟩
        rw [List.getElem?_map] at hj
        cases hx : Ls[j]? with
        | none =>
          rw [hx] at hj
          cases hj
        | some x =>
          rw [hx] at hj
          cases hj
          obtain ⟨ax, lx⟩ := Ls_ok x (List.mem_of_getElem? hx)
          refine ⟨_, rfl, x, rfl, ax, lx, fun r1 H8 s8 O1 => ?_⟩
          refine ⟨_, rfl, x, rfl, ax, lx, fun r2 H9 s9 O2 => ?_⟩
          exact ne_out T.ic_Ratio (O1.same s9) O2 ⟨_, rfl, iteF ⟨s9 _ _ (s8 _ _ hp), _, rfl⟩⟩
      · rintro σ H7 ⟨hp, v3, rfl⟩
        refine ⟨("6/8" : Str), rfl, by decide +kernel, by decide +kernel, fun r1 H8 s8 O1 => ?_⟩
        unfold Out at O1
        rw [out_68] at O1
        refine mk_ratio (by decide) (by decide) fun r2 p2 q2 H9 s9 R2 nf2 => ?_
        have P2 : Rp T.c_Ratio H9 (.ref r2) 3 4 20 := rp_make R2 nf2 (by decide) (by decide) (by decide) (by decide)
        refine .inl (st_eqT T.ic_Ratio (O1.same s9) P2 rfl ⟨_, rfl, iteT ?_⟩)
        refine ⟨("0/5" : Str), rfl, by decide +kernel, by decide +kernel, fun r3 H10 s10 O3 => ?_⟩
        unfold Out at O3
        rw [out_05] at O3
        refine mk_ratio1 fun r4 H11 s11 R4 => ?_
        have P4 : Rp T.c_Ratio H11 (.ref r4) 0 1 20 := rp_int R4 (by decide) (by decide)
        exact .inl (st_eqT T.ic_Ratio (O3.same s11) P4 rfl (q _))
end
theorem all_mk {l : PySem.W.OpenLaw} {w : World} {K : PySem.W.Frag} {h : Heap} {mg : Str → Option Value} {fa ca_VoteError ca_BadNumber ca_Ratio fa_BadNumber_init fa_is_integer fa_check_number fa_is_number fa_Ratio_init fa_ratio_of fa_read_ratio fa_Ratio_eq fa_Ratio_str fa_l_start fa_l_draw fa_l_told fa_l_number fa_l_due fa_law : Addr} (X : K.In h) (G : h.Ns mainGlobals mg) (hfa : mg "law" = some (.ref fa))
    {od_BadNumber_init an_BadNumber_init : Option Addr} {sl_BadNumber_init : Array (Option Value)} {oc_BadNumber_init kV_BadNumber_init dc_BadNumber_init pm_BadNumber_init cd_BadNumber_init ct_BadNumber_init : Value}
    {od_is_integer an_is_integer : Option Addr} {sl_is_integer : Array (Option Value)} {oc_is_integer kV_is_integer dc_is_integer pm_is_integer cd_is_integer ct_is_integer : Value}
    {od_check_number an_check_number : Option Addr} {sl_check_number : Array (Option Value)} {oc_check_number kV_check_number dc_check_number pm_check_number cd_check_number ct_check_number : Value}
    {od_is_number an_is_number : Option Addr} {sl_is_number : Array (Option Value)} {oc_is_number kV_is_number dc_is_number pm_is_number cd_is_number ct_is_number : Value}
    {od_Ratio_init an_Ratio_init : Option Addr} {sl_Ratio_init : Array (Option Value)} {oc_Ratio_init kV_Ratio_init dc_Ratio_init pm_Ratio_init cd_Ratio_init ct_Ratio_init : Value}
    {dt_Ratio_init : Addr} {dto_Ratio_init : Obj} {dtn_Ratio_init : Nat} {dk_Ratio_init0 : Tok}
    {od_ratio_of an_ratio_of : Option Addr} {sl_ratio_of : Array (Option Value)} {oc_ratio_of kV_ratio_of dc_ratio_of pm_ratio_of cd_ratio_of ct_ratio_of : Value}
    {od_read_ratio an_read_ratio : Option Addr} {sl_read_ratio : Array (Option Value)} {oc_read_ratio kV_read_ratio dc_read_ratio pm_read_ratio cd_read_ratio ct_read_ratio : Value}
    {od_Ratio_eq an_Ratio_eq : Option Addr} {sl_Ratio_eq : Array (Option Value)} {oc_Ratio_eq kV_Ratio_eq dc_Ratio_eq pm_Ratio_eq cd_Ratio_eq ct_Ratio_eq : Value}
    {od_Ratio_str an_Ratio_str : Option Addr} {sl_Ratio_str : Array (Option Value)} {oc_Ratio_str kV_Ratio_str dc_Ratio_str pm_Ratio_str cd_Ratio_str ct_Ratio_str : Value}
    {od_l_start an_l_start : Option Addr} {sl_l_start : Array (Option Value)} {oc_l_start kV_l_start dc_l_start pm_l_start cd_l_start ct_l_start : Value}
    {od_l_draw an_l_draw : Option Addr} {sl_l_draw : Array (Option Value)} {oc_l_draw kV_l_draw dc_l_draw pm_l_draw cd_l_draw ct_l_draw : Value}
    {od_l_told an_l_told : Option Addr} {sl_l_told : Array (Option Value)} {oc_l_told kV_l_told dc_l_told pm_l_told cd_l_told ct_l_told : Value}
    {od_l_number an_l_number : Option Addr} {sl_l_number : Array (Option Value)} {oc_l_number kV_l_number dc_l_number pm_l_number cd_l_number ct_l_number : Value}
    {od_l_due an_l_due : Option Addr} {sl_l_due : Array (Option Value)} {oc_l_due kV_l_due dc_l_due pm_l_due cd_l_due ct_l_due : Value}
    {od_law an_law : Option Addr} {sl_law : Array (Option Value)} {oc_law kV_law dc_law pm_law cd_law ct_law : Value}
    {nm_BadNumber q_BadNumber : Str} {N_BadNumber : Addr} {bs_BadNumber bm_BadNumber : List Value} {sn_BadNumber : List Str} {sub_BadNumber : List Value} {ab_BadNumber : Bool} {col_BadNumber : Option Bool} {dd_BadNumber : Option Addr} {m0_BadNumber m1_BadNumber m2_BadNumber m3_BadNumber m5_BadNumber : Option Value}
    {gt_MOST_DIGITS : Tok}
    (aC_VoteError : PySem.W.nsIn K mainGlobals "VoteError" = some (some (.ref ca_VoteError)))
    (aC_BadNumber : PySem.W.nsIn K mainGlobals "BadNumber" = some (some (.ref ca_BadNumber)))
    (aC_Ratio : PySem.W.nsIn K mainGlobals "Ratio" = some (some (.ref ca_Ratio)))
    (a_BadNumber_init : PySem.W.findIn K (.ref ca_BadNumber) "__init__" = some (some (.ref fa_BadNumber_init)))
    (l_BadNumber_init : K.lookup fa_BadNumber_init = some ⟨oc_BadNumber_init, od_BadNumber_init, .func (PySem.W.fnOf "__init__" "BadNumber.__init__" (defArgs s_BadNumber_init) (defBody s_BadNumber_init) (defScope s_BadNumber_init) .none kV_BadNumber_init dc_BadNumber_init pm_BadNumber_init an_BadNumber_init cd_BadNumber_init ct_BadNumber_init), sl_BadNumber_init⟩)
    (cc_BadNumber_init : PySem.W.codeIn K cd_BadNumber_init "BadNumber.__init__" = true)
    (kk_BadNumber_init : PySem.W.keepIn K (.ref fa_BadNumber_init) = true)
    (a_is_integer : PySem.W.nsIn K mainGlobals "is_integer" = some (some (.ref fa_is_integer)))
    (l_is_integer : K.lookup fa_is_integer = some ⟨oc_is_integer, od_is_integer, .func (PySem.W.fnOf "is_integer" "is_integer" (defArgs s_is_integer) (defBody s_is_integer) (defScope s_is_integer) .none kV_is_integer dc_is_integer pm_is_integer an_is_integer cd_is_integer ct_is_integer), sl_is_integer⟩)
    (cc_is_integer : PySem.W.codeIn K cd_is_integer "is_integer" = true)
    (kk_is_integer : PySem.W.keepIn K (.ref fa_is_integer) = true)
    (a_check_number : PySem.W.nsIn K mainGlobals "check_number" = some (some (.ref fa_check_number)))
    (l_check_number : K.lookup fa_check_number = some ⟨oc_check_number, od_check_number, .func (PySem.W.fnOf "check_number" "check_number" (defArgs s_check_number) (defBody s_check_number) (defScope s_check_number) .none kV_check_number dc_check_number pm_check_number an_check_number cd_check_number ct_check_number), sl_check_number⟩)
    (cc_check_number : PySem.W.codeIn K cd_check_number "check_number" = true)
    (kk_check_number : PySem.W.keepIn K (.ref fa_check_number) = true)
    (a_is_number : PySem.W.nsIn K mainGlobals "is_number" = some (some (.ref fa_is_number)))
    (l_is_number : K.lookup fa_is_number = some ⟨oc_is_number, od_is_number, .func (PySem.W.fnOf "is_number" "is_number" (defArgs s_is_number) (defBody s_is_number) (defScope s_is_number) .none kV_is_number dc_is_number pm_is_number an_is_number cd_is_number ct_is_number), sl_is_number⟩)
    (cc_is_number : PySem.W.codeIn K cd_is_number "is_number" = true)
    (kk_is_number : PySem.W.keepIn K (.ref fa_is_number) = true)
    (a_Ratio_init : PySem.W.findIn K (.ref ca_Ratio) "__init__" = some (some (.ref fa_Ratio_init)))
    (i_Ratio_init : PySem.W.isFn K (.ref fa_Ratio_init) = true)
    (l_Ratio_init : K.lookup fa_Ratio_init = some ⟨oc_Ratio_init, od_Ratio_init, .func (PySem.W.fnOf "__init__" "Ratio.__init__" (defArgs s_Ratio_init) (defBody s_Ratio_init) (defScope s_Ratio_init) (.ref dt_Ratio_init) kV_Ratio_init dc_Ratio_init pm_Ratio_init an_Ratio_init cd_Ratio_init ct_Ratio_init), sl_Ratio_init⟩)
    (cc_Ratio_init : PySem.W.codeIn K cd_Ratio_init "Ratio.__init__" = true)
    (kk_Ratio_init : PySem.W.keepIn K (.ref fa_Ratio_init) = true)
    (dl_Ratio_init : K.lookup dt_Ratio_init = some dto_Ratio_init)
    (dd_Ratio_init : dto_Ratio_init.data = .seq [.int 1 dk_Ratio_init0].toArray dtn_Ratio_init)
    (a_ratio_of : PySem.W.nsIn K mainGlobals "ratio_of" = some (some (.ref fa_ratio_of)))
    (l_ratio_of : K.lookup fa_ratio_of = some ⟨oc_ratio_of, od_ratio_of, .func (PySem.W.fnOf "ratio_of" "ratio_of" (defArgs s_ratio_of) (defBody s_ratio_of) (defScope s_ratio_of) .none kV_ratio_of dc_ratio_of pm_ratio_of an_ratio_of cd_ratio_of ct_ratio_of), sl_ratio_of⟩)
    (cc_ratio_of : PySem.W.codeIn K cd_ratio_of "ratio_of" = true)
    (kk_ratio_of : PySem.W.keepIn K (.ref fa_ratio_of) = true)
    (a_read_ratio : PySem.W.nsIn K mainGlobals "read_ratio" = some (some (.ref fa_read_ratio)))
    (l_read_ratio : K.lookup fa_read_ratio = some ⟨oc_read_ratio, od_read_ratio, .func (PySem.W.fnOf "read_ratio" "read_ratio" (defArgs s_read_ratio) (defBody s_read_ratio) (defScope s_read_ratio) .none kV_read_ratio dc_read_ratio pm_read_ratio an_read_ratio cd_read_ratio ct_read_ratio), sl_read_ratio⟩)
    (cc_read_ratio : PySem.W.codeIn K cd_read_ratio "read_ratio" = true)
    (kk_read_ratio : PySem.W.keepIn K (.ref fa_read_ratio) = true)
    (a_Ratio_eq : PySem.W.findIn K (.ref ca_Ratio) "__eq__" = some (some (.ref fa_Ratio_eq)))
    (i_Ratio_eq : PySem.W.isFn K (.ref fa_Ratio_eq) = true)
    (l_Ratio_eq : K.lookup fa_Ratio_eq = some ⟨oc_Ratio_eq, od_Ratio_eq, .func (PySem.W.fnOf "__eq__" "Ratio.__eq__" (defArgs s_Ratio_eq) (defBody s_Ratio_eq) (defScope s_Ratio_eq) .none kV_Ratio_eq dc_Ratio_eq pm_Ratio_eq an_Ratio_eq cd_Ratio_eq ct_Ratio_eq), sl_Ratio_eq⟩)
    (cc_Ratio_eq : PySem.W.codeIn K cd_Ratio_eq "Ratio.__eq__" = true)
    (kk_Ratio_eq : PySem.W.keepIn K (.ref fa_Ratio_eq) = true)
    (a_Ratio_str : PySem.W.findIn K (.ref ca_Ratio) "__str__" = some (some (.ref fa_Ratio_str)))
    (i_Ratio_str : PySem.W.isFn K (.ref fa_Ratio_str) = true)
    (l_Ratio_str : K.lookup fa_Ratio_str = some ⟨oc_Ratio_str, od_Ratio_str, .func (PySem.W.fnOf "__str__" "Ratio.__str__" (defArgs s_Ratio_str) (defBody s_Ratio_str) (defScope s_Ratio_str) .none kV_Ratio_str dc_Ratio_str pm_Ratio_str an_Ratio_str cd_Ratio_str ct_Ratio_str), sl_Ratio_str⟩)
    (cc_Ratio_str : PySem.W.codeIn K cd_Ratio_str "Ratio.__str__" = true)
    (kk_Ratio_str : PySem.W.keepIn K (.ref fa_Ratio_str) = true)
    (a_l_start : PySem.W.nsIn K mainGlobals "_law_start" = some (some (.ref fa_l_start)))
    (l_l_start : K.lookup fa_l_start = some ⟨oc_l_start, od_l_start, .func (PySem.W.fnOf "_law_start" "_law_start" (defArgs s_l_start) (defBody s_l_start) (defScope s_l_start) .none kV_l_start dc_l_start pm_l_start an_l_start cd_l_start ct_l_start), sl_l_start⟩)
    (cc_l_start : PySem.W.codeIn K cd_l_start "_law_start" = true)
    (kk_l_start : PySem.W.keepIn K (.ref fa_l_start) = true)
    (a_l_draw : PySem.W.nsIn K mainGlobals "_law_draw" = some (some (.ref fa_l_draw)))
    (l_l_draw : K.lookup fa_l_draw = some ⟨oc_l_draw, od_l_draw, .func (PySem.W.fnOf "_law_draw" "_law_draw" (defArgs s_l_draw) (defBody s_l_draw) (defScope s_l_draw) .none kV_l_draw dc_l_draw pm_l_draw an_l_draw cd_l_draw ct_l_draw), sl_l_draw⟩)
    (cc_l_draw : PySem.W.codeIn K cd_l_draw "_law_draw" = true)
    (kk_l_draw : PySem.W.keepIn K (.ref fa_l_draw) = true)
    (a_l_told : PySem.W.nsIn K mainGlobals "_law_told" = some (some (.ref fa_l_told)))
    (l_l_told : K.lookup fa_l_told = some ⟨oc_l_told, od_l_told, .func (PySem.W.fnOf "_law_told" "_law_told" (defArgs s_l_told) (defBody s_l_told) (defScope s_l_told) .none kV_l_told dc_l_told pm_l_told an_l_told cd_l_told ct_l_told), sl_l_told⟩)
    (cc_l_told : PySem.W.codeIn K cd_l_told "_law_told" = true)
    (kk_l_told : PySem.W.keepIn K (.ref fa_l_told) = true)
    (a_l_number : PySem.W.nsIn K mainGlobals "_law_number" = some (some (.ref fa_l_number)))
    (l_l_number : K.lookup fa_l_number = some ⟨oc_l_number, od_l_number, .func (PySem.W.fnOf "_law_number" "_law_number" (defArgs s_l_number) (defBody s_l_number) (defScope s_l_number) .none kV_l_number dc_l_number pm_l_number an_l_number cd_l_number ct_l_number), sl_l_number⟩)
    (cc_l_number : PySem.W.codeIn K cd_l_number "_law_number" = true)
    (kk_l_number : PySem.W.keepIn K (.ref fa_l_number) = true)
    (a_l_due : PySem.W.nsIn K mainGlobals "_law_due" = some (some (.ref fa_l_due)))
    (l_l_due : K.lookup fa_l_due = some ⟨oc_l_due, od_l_due, .func (PySem.W.fnOf "_law_due" "_law_due" (defArgs s_l_due) (defBody s_l_due) (defScope s_l_due) .none kV_l_due dc_l_due pm_l_due an_l_due cd_l_due ct_l_due), sl_l_due⟩)
    (cc_l_due : PySem.W.codeIn K cd_l_due "_law_due" = true)
    (kk_l_due : PySem.W.keepIn K (.ref fa_l_due) = true)
    (a_law : PySem.W.nsIn K mainGlobals "law" = some (some (.ref fa_law)))
    (l_law : K.lookup fa_law = some ⟨oc_law, od_law, .func (PySem.W.fnOf "law" "law" (defArgs s_law) (defBody s_law) (defScope s_law) .none kV_law dc_law pm_law an_law cd_law ct_law), sl_law⟩)
    (cc_law : PySem.W.codeIn K cd_law "law" = true)
    (kk_law : PySem.W.keepIn K (.ref fa_law) = true)
    (xL_BadNumber : K.lookup ca_BadNumber = some (excClassObj nm_BadNumber q_BadNumber ca_BadNumber N_BadNumber bs_BadNumber bm_BadNumber true sn_BadNumber sub_BadNumber ab_BadNumber col_BadNumber dd_BadNumber m0_BadNumber m1_BadNumber m2_BadNumber m3_BadNumber m5_BadNumber "ValueError.__new__"))
    (bm_ok_BadNumber : PySem.HandSPX.refsVE bm_BadNumber = true)
    (sa_BadNumber : PySem.W.findIn K (.ref ca_BadNumber) "__setattr__" = some (some (.builtin "object.__setattr__")))
    (eC_BadNumber : PySem.W.subIn K (.ref ca_BadNumber) (.type "BaseException") = some true)
    (tC_BadNumber : PySem.W.typeIn K (.ref ca_BadNumber) = some (.type "type"))
    (kC_BadNumber : PySem.W.keepIn K (.ref ca_BadNumber) = true)
    (tI_BadNumber : PySem.W.typeIn K (.ref fa_BadNumber_init) = some (.type "function"))
    (ga_BadNumber : PySem.W.findIn K (.ref ca_BadNumber) "__getattribute__" = some (some (.builtin "BaseException.__getattribute__")))
    (gg_BadNumber : PySem.W.findIn K (.ref ca_BadNumber) "__getattr__" = some none)
    (hd_BadNumber : PySem.W.hasDictIn K ca_BadNumber = true)
    (ic_BadNumber : PySem.W.isClsIn K ca_BadNumber = true)
    (cc_BadNumber : PySem.W.findIn K (.ref ca_BadNumber) "__class__" = some (some (.builtin "object.__class__")))
    (cm_BadNumber : PySem.W.mroIn K ca_BadNumber (.type "object") = some true)
    (n_BadNumber_what : PySem.W.findIn K (.ref ca_BadNumber) "what" = some none)
    (n_BadNumber_value : PySem.W.findIn K (.ref ca_BadNumber) "value" = some none)
    (cn_ : PySem.W.specialIn K (.builtin "object.__class__") "__get__" = some (some (.builtin "getset_descriptor.__get__")))
    (ct_ : PySem.W.takesIn K (.builtin "object.__class__") = some true)
    (pg_Ratio : PySem.W.plainGet K ca_Ratio Str.empty = true)
    (hd_Ratio : PySem.W.hasDictIn K ca_Ratio = true)
    (po_Ratio : PySem.W.plainOver K ca_Ratio = true)
    (sa_Ratio : PySem.W.findIn K (.ref ca_Ratio) "__setattr__" = some (some (.builtin "object.__setattr__")))
    (mk_Ratio : PySem.W.makesIn K ca_Ratio = true)
    (kc_Ratio : PySem.W.keepIn K (.ref ca_Ratio) = true)
    (sf_Ratio : PySem.W.selfFirst K ca_Ratio = true)
    (ni_Ratio : PySem.W.subIn K (.ref ca_Ratio) (.type "int") = some false)
    (in_Ratio : PySem.W.subIn K (.type "int") (.ref ca_Ratio) = some false)
    (ne_Ratio : PySem.W.findIn K (.ref ca_Ratio) "__ne__" = some (some (.builtin "object.__ne__")))
    (cc_Ratio : PySem.W.findIn K (.ref ca_Ratio) "__class__" = some (some (.builtin "object.__class__")))
    (cm_Ratio : PySem.W.mroIn K ca_Ratio (.type "object") = some true)
    (n_Ratio_over : PySem.W.findIn K (.ref ca_Ratio) "over" = some none)
    (n_Ratio_under : PySem.W.findIn K (.ref ca_Ratio) "under" = some none)
    (ki_Ratio_Ratio : PySem.W.kitOne K (.ref ca_Ratio) (.ref ca_Ratio) = some true)
    (ki_int_Ratio : PySem.W.kitOne K (.type "int") (.ref ca_Ratio) = some false)
    (sb_BadNumber_BadNumber : PySem.W.subIn K (.ref ca_BadNumber) (.ref ca_BadNumber) = some true)
    (gi_gcd : PySem.W.nsIn K mainGlobals "gcd" = some (some (.builtin "math.gcd")))
    (gk_MOST_DIGITS : PySem.W.nsIn K mainGlobals "MOST_DIGITS" = some (some (.int 4 gt_MOST_DIGITS)))
    (mb_abs : PySem.W.nsIn K mainGlobals "abs" = some none)
    (mb_bool : PySem.W.nsIn K mainGlobals "bool" = some none)
    (mb_int : PySem.W.nsIn K mainGlobals "int" = some none)
    (mb_isinstance : PySem.W.nsIn K mainGlobals "isinstance" = some none)
    (mb_len : PySem.W.nsIn K mainGlobals "len" = some none)
    (mb_range : PySem.W.nsIn K mainGlobals "range" = some none)
    (mb_str : PySem.W.nsIn K mainGlobals "str" = some none) :
    ∃ fd : FuncData, (∀ (s : Shared) (v : Value), BindsTo s fd ⟨[v], []⟩ [("_law_script", v)]) ∧ ∀ base : Heap, K.In base → base.Ns mainGlobals mg → FnOk l.prog w K mg base CX0 9 fa fd ["_law_script"] (spLaw K) := by
  have e := hfa.symm.trans (PySem.W.mg_of X G a_law)
  cases e
  have FF_BadNumber_init := fun_mk (st := s_BadNumber_init) l_BadNumber_init cc_BadNumber_init kk_BadNumber_init
  have bb_BadNumber_init := FF_BadNumber_init.binds (ps := ["self", "what", "value"]) fun _ _ _ _ _ _ us hl => match us, hl with | [_, _, _], _ => rfl
  have FF_is_integer := fun_mk (st := s_is_integer) l_is_integer cc_is_integer kk_is_integer
  have bb_is_integer := FF_is_integer.binds (ps := ["value"]) fun _ _ _ _ _ _ us hl => match us, hl with | [_], _ => rfl
  have FF_check_number := fun_mk (st := s_check_number) l_check_number cc_check_number kk_check_number
  have bb_check_number := FF_check_number.binds (ps := ["what", "value", "low", "high"]) fun _ _ _ _ _ _ us hl => match us, hl with | [_, _, _, _], _ => rfl
  have FF_is_number := fun_mk (st := s_is_number) l_is_number cc_is_number kk_is_number
  have bb_is_number := FF_is_number.binds (ps := ["text"]) fun _ _ _ _ _ _ us hl => match us, hl with | [_], _ => rfl
  have FF_Ratio_init : FunD K "__init__" "Ratio.__init__" (defArgs s_Ratio_init) (defBody s_Ratio_init) (defScope s_Ratio_init) [.int 1] [] fa_Ratio_init _ := ⟨⟨_, _, _, _, _, _, _, _, _, _, rfl, l_Ratio_init, cc_Ratio_init, .inr ⟨by simp, dt_Ratio_init, dto_Ratio_init, _, dtn_Ratio_init, rfl, dl_Ratio_init, dd_Ratio_init, (.cons ⟨_, rfl⟩ .nil)⟩, .inl rfl⟩, kk_Ratio_init⟩
  obtain ⟨dv_Ratio_init1, vv_Ratio_init1, bb_Ratio_init1⟩ := FF_Ratio_init.binds1 (ps := ["self", "over", "under"]) 2 0 (by simp) (by simp) fun _ _ _ _ _ _ _ us its hl hi => match us, its, hl, hi with | [_, _], [_], _, _ => ⟨_, rfl, rfl⟩
  obtain ⟨dv_Ratio_init2, vv_Ratio_init2, bb_Ratio_init2⟩ := FF_Ratio_init.binds1 (ps := ["self", "over", "under"]) 3 1 (by simp) (by simp) fun _ _ _ _ _ _ _ us its hl hi => match us, its, hl, hi with | [_, _, _], [_], _, _ => ⟨_, rfl, rfl⟩
  have FF_ratio_of := fun_mk (st := s_ratio_of) l_ratio_of cc_ratio_of kk_ratio_of
  have bb_ratio_of := FF_ratio_of.binds (ps := ["value"]) fun _ _ _ _ _ _ us hl => match us, hl with | [_], _ => rfl
  have FF_read_ratio := fun_mk (st := s_read_ratio) l_read_ratio cc_read_ratio kk_read_ratio
  have bb_read_ratio := FF_read_ratio.binds (ps := ["text"]) fun _ _ _ _ _ _ us hl => match us, hl with | [_], _ => rfl
  have FF_Ratio_eq := fun_mk (st := s_Ratio_eq) l_Ratio_eq cc_Ratio_eq kk_Ratio_eq
  have bb_Ratio_eq := FF_Ratio_eq.binds (ps := ["self", "other"]) fun _ _ _ _ _ _ us hl => match us, hl with | [_, _], _ => rfl
  have FF_Ratio_str := fun_mk (st := s_Ratio_str) l_Ratio_str cc_Ratio_str kk_Ratio_str
  have bb_Ratio_str := FF_Ratio_str.binds (ps := ["self"]) fun _ _ _ _ _ _ us hl => match us, hl with | [_], _ => rfl
  have FF_l_start := fun_mk (st := s_l_start) l_l_start cc_l_start kk_l_start
  have bb_l_start := FF_l_start.binds (ps := ["_law_script"]) fun _ _ _ _ _ _ us hl => match us, hl with | [_], _ => rfl
  have FF_l_draw := fun_mk (st := s_l_draw) l_l_draw cc_l_draw kk_l_draw
  have bb_l_draw := FF_l_draw.binds (ps := ["_law_script", "_law_state", "_law_limit"]) fun _ _ _ _ _ _ us hl => match us, hl with | [_, _, _], _ => rfl
  have FF_l_told := fun_mk (st := s_l_told) l_l_told cc_l_told kk_l_told
  have bb_l_told := FF_l_told.binds (ps := ["_law_text"]) fun _ _ _ _ _ _ us hl => match us, hl with | [_], _ => rfl
  have FF_l_number := fun_mk (st := s_l_number) l_l_number cc_l_number kk_l_number
  have bb_l_number := FF_l_number.binds (ps := ["_law_text"]) fun _ _ _ _ _ _ us hl => match us, hl with | [_], _ => rfl
  have FF_l_due := fun_mk (st := s_l_due) l_l_due cc_l_due kk_l_due
  have bb_l_due := FF_l_due.binds (ps := ["_law_text"]) fun _ _ _ _ _ _ us hl => match us, hl with | [_], _ => rfl
  have FF_law := fun_mk (st := s_law) l_law cc_law kk_law
  have bb_law := FF_law.binds (ps := ["_law_script"]) fun _ _ _ _ _ _ us hl => match us, hl with | [_], _ => rfl
  exact ⟨PySem.W.fnOf "law" "law" (defArgs s_law) (defBody s_law) (defScope s_law) .none kV_law dc_law pm_law an_law cd_law ct_law, fun s v => .of_eq rfl, fun base _ _ => ok_law (T := {
    c_VoteError := ca_VoteError,
    gc_VoteError := PySem.W.mg_of X G aC_VoteError,
    c_BadNumber := ca_BadNumber,
    gc_BadNumber := PySem.W.mg_of X G aC_BadNumber,
    c_Ratio := ca_Ratio,
    gc_Ratio := PySem.W.mg_of X G aC_Ratio,
    f_BadNumber_init := fa_BadNumber_init,
    fd_BadNumber_init := _,
    F_BadNumber_init := FF_BadNumber_init,
    b_BadNumber_init := bb_BadNumber_init,
    f_is_integer := fa_is_integer,
    fd_is_integer := _,
    F_is_integer := FF_is_integer,
    b_is_integer := bb_is_integer,
    g_is_integer := PySem.W.mg_of X G a_is_integer,
    f_check_number := fa_check_number,
    fd_check_number := _,
    F_check_number := FF_check_number,
    b_check_number := bb_check_number,
    g_check_number := PySem.W.mg_of X G a_check_number,
    f_is_number := fa_is_number,
    fd_is_number := _,
    F_is_number := FF_is_number,
    b_is_number := bb_is_number,
    g_is_number := PySem.W.mg_of X G a_is_number,
    f_Ratio_init := fa_Ratio_init,
    fd_Ratio_init := _,
    F_Ratio_init := FF_Ratio_init,
    d_Ratio_init1 := dv_Ratio_init1,
    v_Ratio_init1 := vv_Ratio_init1,
    b_Ratio_init1 := bb_Ratio_init1,
    d_Ratio_init2 := dv_Ratio_init2,
    v_Ratio_init2 := vv_Ratio_init2,
    b_Ratio_init2 := bb_Ratio_init2,
    f_ratio_of := fa_ratio_of,
    fd_ratio_of := _,
    F_ratio_of := FF_ratio_of,
    b_ratio_of := bb_ratio_of,
    g_ratio_of := PySem.W.mg_of X G a_ratio_of,
    f_read_ratio := fa_read_ratio,
    fd_read_ratio := _,
    F_read_ratio := FF_read_ratio,
    b_read_ratio := bb_read_ratio,
    g_read_ratio := PySem.W.mg_of X G a_read_ratio,
    f_Ratio_eq := fa_Ratio_eq,
    fd_Ratio_eq := _,
    F_Ratio_eq := FF_Ratio_eq,
    b_Ratio_eq := bb_Ratio_eq,
    me_Ratio_eq := ⟨a_Ratio_eq, i_Ratio_eq, kk_Ratio_eq⟩,
    f_Ratio_str := fa_Ratio_str,
    fd_Ratio_str := _,
    F_Ratio_str := FF_Ratio_str,
    b_Ratio_str := bb_Ratio_str,
    me_Ratio_str := ⟨a_Ratio_str, i_Ratio_str, kk_Ratio_str⟩,
    f_l_start := fa_l_start,
    fd_l_start := _,
    F_l_start := FF_l_start,
    b_l_start := bb_l_start,
    g_l_start := PySem.W.mg_of X G a_l_start,
    f_l_draw := fa_l_draw,
    fd_l_draw := _,
    F_l_draw := FF_l_draw,
    b_l_draw := bb_l_draw,
    g_l_draw := PySem.W.mg_of X G a_l_draw,
    f_l_told := fa_l_told,
    fd_l_told := _,
    F_l_told := FF_l_told,
    b_l_told := bb_l_told,
    g_l_told := PySem.W.mg_of X G a_l_told,
    f_l_number := fa_l_number,
    fd_l_number := _,
    F_l_number := FF_l_number,
    b_l_number := bb_l_number,
    g_l_number := PySem.W.mg_of X G a_l_number,
    f_l_due := fa_l_due,
    fd_l_due := _,
    F_l_due := FF_l_due,
    b_l_due := bb_l_due,
    g_l_due := PySem.W.mg_of X G a_l_due,
    f_law := fa,
    fd_law := _,
    F_law := FF_law,
    b_law := bb_law,
    g_law := PySem.W.mg_of X G a_law,
    ox_BadNumber := ⟨⟨_, _, _, _, _, _, _, _, _, _, _, _, _, _, _, xL_BadNumber, bm_ok_BadNumber⟩, sa_BadNumber, eC_BadNumber, tC_BadNumber, kC_BadNumber⟩,
    xn_BadNumber := a_BadNumber_init,
    xt_BadNumber := tI_BadNumber,
    xf_BadNumber := ⟨ga_BadNumber, gg_BadNumber, eC_BadNumber, hd_BadNumber⟩,
    xi_BadNumber := ⟨ic_BadNumber, ga_BadNumber, gg_BadNumber, eC_BadNumber, cc_BadNumber, cn_, ct_, cm_BadNumber⟩,
    n_BadNumber_what := n_BadNumber_what,
    n_BadNumber_value := n_BadNumber_value,
    oc_Ratio := ⟨sf_Ratio, PySem.W.ksp_first sf_Ratio, ni_Ratio, in_Ratio, ne_Ratio, cm_Ratio⟩,
    ic_Ratio := ⟨⟨pg_Ratio, hd_Ratio, po_Ratio, sa_Ratio⟩, cc_Ratio, cn_, ct_, cm_Ratio⟩,
    cl_Ratio := ⟨pg_Ratio, hd_Ratio, po_Ratio, sa_Ratio⟩,
    M_Ratio := ⟨mk_Ratio, a_Ratio_init, i_Ratio_init, kc_Ratio⟩,
    n_Ratio_over := n_Ratio_over,
    n_Ratio_under := n_Ratio_under,
    ki_Ratio_Ratio := ki_Ratio_Ratio,
    ki_int_Ratio := ki_int_Ratio,
    ex_BadNumber_BadNumber := exm_own eC_BadNumber ic_BadNumber tC_BadNumber sb_BadNumber_BadNumber,
    gi_gcd := PySem.W.mg_of X G gi_gcd,
    gt_MOST_DIGITS := gt_MOST_DIGITS,
    gk_MOST_DIGITS := PySem.W.mg_of X G gk_MOST_DIGITS,
    m_abs := PySem.W.mg_none_of X G mb_abs,
    m_bool := PySem.W.mg_none_of X G mb_bool,
    m_int := PySem.W.mg_none_of X G mb_int,
    m_isinstance := PySem.W.mg_none_of X G mb_isinstance,
    m_len := PySem.W.mg_none_of X G mb_len,
    m_range := PySem.W.mg_none_of X G mb_range,
    m_str := PySem.W.mg_none_of X G mb_str })⟩
theorem walk {l : PySem.W.OpenLaw} {q : Program} {loose : List Str} {XP : (Str → Option Value) → Heap → Prop} {YP : World → Heap → Prop} {d : DefRec} {K : Params → PySem.W.Frag} (hn : l.most = some 63) (hdf : d.params.defaults = [])
    (hY : ∀ (w : World) (h : Heap), YP w h → (K w.params).In h)
    (F : ∀ (w : World) (mg : Str → Option Value) (fa : Addr) (h : Heap), (K w.params).In h → h.Ns mainGlobals mg → mg d.name = some (.ref fa) →
      ∃ fd : FuncData, (∀ (s : Shared) (u : Value), BindsTo s fd ⟨[u], []⟩ [("_law_script", u)]) ∧ ∀ base : Heap, (K w.params).In base → base.Ns mainGlobals mg → FnOk l.prog w (K w.params) mg base CX0 9 fa fd ["_law_script"] (spLaw (K w.params))) :
    PySem.W.WalkO q loose XP YP l.row.toRowW d [] (fun f vs => PySem.call f vs) :=
  L2.walk_of (n := 63) (k := 9) (x := "_law_script") (CX := fun _ => CX0) (sp := fun w => spLaw (K w.params)) hn (by decide) hdf ⟨rfl, by decide, by decide⟩ hY F (fun _ _ a ns hl _ hS => ⟨a, ns, rfl, hS, hl, fun _ => rfl⟩) fun _ _ _ _ _ z => z
end Cv
open PySem PySem.W PyProof.Rows
set_option maxRecDepth 100000 in
set_option maxHeartbeats 0 in
theorem PySem.Challenge.cw_copyvotes_k06_reading_ratios_holds : PySem.Challenge.rw_copyvotes_k06_reading_ratios.Holds := by
  w_on; o_law; k_head; (case hw => w_witness2)
  k_fill
  refine Cv.walk (l := PySem.Challenge.rw_copyvotes_k06_reading_ratios) rfl rfl (fun w h Y => PySem.W.kIn_of Y) ?F
  case F =>
    intro w mg fa h KX G hmg
    refine' Cv.all_mk KX G hmg ?aC_VoteError ?aC_BadNumber ?aC_Ratio ?a_BadNumber_init ?l_BadNumber_init ?cc_BadNumber_init ?kk_BadNumber_init ?a_is_integer ?l_is_integer ?cc_is_integer ?kk_is_integer ?a_check_number ?l_check_number ?cc_check_number ?kk_check_number ?a_is_number ?l_is_number ?cc_is_number ?kk_is_number ?a_Ratio_init ?i_Ratio_init ?l_Ratio_init ?cc_Ratio_init ?kk_Ratio_init ?dl_Ratio_init ?dd_Ratio_init ?a_ratio_of ?l_ratio_of ?cc_ratio_of ?kk_ratio_of ?a_read_ratio ?l_read_ratio ?cc_read_ratio ?kk_read_ratio ?a_Ratio_eq ?i_Ratio_eq ?l_Ratio_eq ?cc_Ratio_eq ?kk_Ratio_eq ?a_Ratio_str ?i_Ratio_str ?l_Ratio_str ?cc_Ratio_str ?kk_Ratio_str ?a_l_start ?l_l_start ?cc_l_start ?kk_l_start ?a_l_draw ?l_l_draw ?cc_l_draw ?kk_l_draw ?a_l_told ?l_l_told ?cc_l_told ?kk_l_told ?a_l_number ?l_l_number ?cc_l_number ?kk_l_number ?a_l_due ?l_l_due ?cc_l_due ?kk_l_due ?a_law ?l_law ?cc_law ?kk_law ?xL_BadNumber ?bm_ok_BadNumber ?sa_BadNumber ?eC_BadNumber ?tC_BadNumber ?kC_BadNumber ?tI_BadNumber ?ga_BadNumber ?gg_BadNumber ?hd_BadNumber ?ic_BadNumber ?cc_BadNumber ?cm_BadNumber ?n_BadNumber_what ?n_BadNumber_value ?cn_ ?ct_ ?pg_Ratio ?hd_Ratio ?po_Ratio ?sa_Ratio ?mk_Ratio ?kc_Ratio ?sf_Ratio ?ni_Ratio ?in_Ratio ?ne_Ratio ?cc_Ratio ?cm_Ratio ?n_Ratio_over ?n_Ratio_under ?ki_Ratio_Ratio ?ki_int_Ratio ?sb_BadNumber_BadNumber ?gi_gcd ?gk_MOST_DIGITS ?mb_abs ?mb_bool ?mb_int ?mb_isinstance ?mb_len ?mb_range ?mb_str
    (case aC_VoteError => k_is)
    (case aC_BadNumber => k_is)
    (case aC_Ratio => k_is)
    (case a_BadNumber_init => k_is)
    (case l_BadNumber_init => k_is)
    (case cc_BadNumber_init => k_is)
    (case kk_BadNumber_init => k_is)
    (case a_is_integer => k_is)
    (case l_is_integer => k_is)
    (case cc_is_integer => k_is)
    (case kk_is_integer => k_is)
    (case a_check_number => k_is)
    (case l_check_number => k_is)
    (case cc_check_number => k_is)
    (case kk_check_number => k_is)
    (case a_is_number => k_is)
    (case l_is_number => k_is)
    (case cc_is_number => k_is)
    (case kk_is_number => k_is)
    (case a_Ratio_init => k_is)
    (case i_Ratio_init => k_is)
    (case l_Ratio_init => k_is)
    (case cc_Ratio_init => k_is)
    (case kk_Ratio_init => k_is)
    (case dl_Ratio_init => k_is)
    (case dd_Ratio_init => rfl)
    (case a_ratio_of => k_is)
    (case l_ratio_of => k_is)
    (case cc_ratio_of => k_is)
    (case kk_ratio_of => k_is)
    (case a_read_ratio => k_is)
    (case l_read_ratio => k_is)
    (case cc_read_ratio => k_is)
    (case kk_read_ratio => k_is)
    (case a_Ratio_eq => k_is)
    (case i_Ratio_eq => k_is)
    (case l_Ratio_eq => k_is)
    (case cc_Ratio_eq => k_is)
    (case kk_Ratio_eq => k_is)
    (case a_Ratio_str => k_is)
    (case i_Ratio_str => k_is)
    (case l_Ratio_str => k_is)
    (case cc_Ratio_str => k_is)
    (case kk_Ratio_str => k_is)
    (case a_l_start => k_is)
    (case l_l_start => k_is)
    (case cc_l_start => k_is)
    (case kk_l_start => k_is)
    (case a_l_draw => k_is)
    (case l_l_draw => k_is)
    (case cc_l_draw => k_is)
    (case kk_l_draw => k_is)
    (case a_l_told => k_is)
    (case l_l_told => k_is)
    (case cc_l_told => k_is)
    (case kk_l_told => k_is)
    (case a_l_number => k_is)
    (case l_l_number => k_is)
    (case cc_l_number => k_is)
    (case kk_l_number => k_is)
    (case a_l_due => k_is)
    (case l_l_due => k_is)
    (case cc_l_due => k_is)
    (case kk_l_due => k_is)
    (case a_law => k_is)
    (case l_law => k_is)
    (case cc_law => k_is)
    (case kk_law => k_is)
    (case xL_BadNumber => k_is)
    (case bm_ok_BadNumber => decide +kernel)
    (case sa_BadNumber => k_is)
    (case eC_BadNumber => k_is)
    (case tC_BadNumber => k_is)
    (case kC_BadNumber => k_is)
    (case tI_BadNumber => k_is)
    (case ga_BadNumber => k_is)
    (case gg_BadNumber => k_is)
    (case hd_BadNumber => k_is)
    (case ic_BadNumber => k_is)
    (case cc_BadNumber => k_is)
    (case cm_BadNumber => k_is)
    (case n_BadNumber_what => k_is)
    (case n_BadNumber_value => k_is)
    (case cn_ => k_is)
    (case ct_ => k_is)
    (case pg_Ratio => k_is)
    (case hd_Ratio => k_is)
    (case po_Ratio => k_is)
    (case sa_Ratio => k_is)
    (case mk_Ratio => k_is)
    (case kc_Ratio => k_is)
    (case sf_Ratio => k_is)
    (case ni_Ratio => k_is)
    (case in_Ratio => k_is)
    (case ne_Ratio => k_is)
    (case cc_Ratio => k_is)
    (case cm_Ratio => k_is)
    (case n_Ratio_over => k_is)
    (case n_Ratio_under => k_is)
    (case ki_Ratio_Ratio => kit_is)
    (case ki_int_Ratio => kit_is)
    (case sb_BadNumber_BadNumber => k_is)
    (case gi_gcd => k_is)
    (case gk_MOST_DIGITS => k_is)
    (case mb_abs => k_is)
    (case mb_bool => k_is)
    (case mb_int => k_is)
    (case mb_isinstance => k_is)
    (case mb_len => k_is)
    (case mb_range => k_is)
    (case mb_str => k_is)

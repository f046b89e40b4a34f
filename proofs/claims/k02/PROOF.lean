import PyProof.Rows.All
import Wide.All
import OpenK.AllK
import Wide.FinOn
import KE.RegKIsAll
import KE.KExcIs
import KE.KOpsOwn
import KE.KCallOwn
import HandS.ForSpec
import HandS.ExcInit
import HandS.ExcField
import HandS.IsInst
import HandS.Style
import HandS.Evl
import HandS.OwnEq
import HandS.Wide
import HandS.Defaults
import HandS.Comp
import HandS.Text
import HandS.StrMore
import HandS.Walk
import PySem.Challenge.RW_copyvotes_k02_read_number
set_option Elab.async false
set_option linter.all false
set_option maxRecDepth 100000
set_option maxHeartbeats 4000000

namespace Cv
open PySem PySem.Spec PyProof.Rows L2
def topS (i : Nat) : Stmt := PySem.Challenge.pw_copyvotes_k02_read_number.main.body.getD i (.Pass ⟨0, 0, 0, 0⟩)
abbrev s_BadNumber_init : Stmt := inClass (topS 2) 0
theorem sc_BadNumber_init : FnScope ["self", "what", "value"] ["self", "what", "value"] (defScope s_BadNumber_init) := ⟨rfl, rfl, rfl, by decide +kernel, rfl, by decide +kernel, by decide +kernel⟩
abbrev s_is_number : Stmt := topS 6
theorem sc_is_number : FnScope ["text"] ["text"] (defScope s_is_number) := ⟨rfl, rfl, rfl, by decide +kernel, rfl, by decide +kernel, by decide +kernel⟩
abbrev s_read_number : Stmt := topS 7
theorem sc_read_number : FnScope ["text"] ["text"] (defScope s_read_number) := ⟨rfl, rfl, rfl, by decide +kernel, rfl, by decide +kernel, by decide +kernel⟩
abbrev s_l_start : Stmt := topS 9
theorem sc_l_start : FnScope ["_law_script", "_law_first"] ["_law_script"] (defScope s_l_start) := ⟨rfl, rfl, rfl, by decide +kernel, rfl, by decide +kernel, by decide +kernel⟩
abbrev s_l_draw : Stmt := topS 10
theorem sc_l_draw : FnScope ["_law_script", "_law_state", "_law_limit", "_law_number", "_law_cell", "_law_mixed"] ["_law_script", "_law_state", "_law_limit"] (defScope s_l_draw) := ⟨rfl, rfl, rfl, by decide +kernel, rfl, by decide +kernel, by decide +kernel⟩
abbrev s_l_is_integer : Stmt := topS 11
theorem sc_l_is_integer : FnScope ["_law_actual"] ["_law_actual"] (defScope s_l_is_integer) := ⟨rfl, rfl, rfl, by decide +kernel, rfl, by decide +kernel, by decide +kernel⟩
abbrev s_l_due : Stmt := topS 12
theorem sc_l_due : FnScope ["_law_text", "_law_number", "_law_sign", "_law_at"] ["_law_text"] (defScope s_l_due) := ⟨rfl, rfl, rfl, by decide +kernel, rfl, by decide +kernel, by decide +kernel⟩
abbrev s_l_holds : Stmt := topS 13
theorem sc_l_holds : FnScope ["_law_text", "_law_told", "_law_fell", "e", "_law_due_here"] ["_law_text"] (defScope s_l_holds) := ⟨rfl, rfl, rfl, by decide +kernel, rfl, by decide +kernel, by decide +kernel⟩
abbrev s_law : Stmt := topS 14
theorem sc_law : FnScope ["_law_script", "_law_state", "_law_text", "_law_k", "_law_odd", "_law_at", "_law_case"] ["_law_script"] (defScope s_law) := ⟨rfl, rfl, rfl, by decide +kernel, rfl, by decide +kernel, by decide +kernel⟩
/-! ## What every law's text wants: heaps, exceptions, the draws -/
theorem same_upd {H : Hp} {p : Addr} {o : HO} (h : H p = none) : Same H (upd H p o) := fun b x e => by
  rw [upd_ne (ne_of_none e h)]
  exact e
theorem same_upd2 {H H' : Hp} {p : Addr} {o : HO} (e : Same H H') (h : H p = none) : Same H (upd H' p o) := fun b x k => by
  rw [upd_ne (ne_of_none k h)]
  exact e b x k
/-- an except clause that names an own class -/
theorem exm_own {K : PySem.W.Frag} {cls : Value} {S : Addr} {b : Bool} (h1 : PySem.W.subIn K (.ref S) (.type "BaseException") = some true) (h2 : PySem.W.isClsIn K S = true) (h3 : PySem.W.typeIn K (.ref S) = some (.type "type")) (h4 : PySem.W.subIn K cls (.ref S) = some b) :
    PySem.W.exmOne K cls (.ref S) = some b := by
  have e1 : (PySem.W.subIn K (.ref S) (.type "BaseException") == some true) = true := by rw [h1] <;> rfl
  have e2 : ((PySem.W.clsIn K S).isSome && PySem.W.typeIn K (.ref S) == some (.type "type")) = true := by
    have h2' : (PySem.W.clsIn K S).isSome = true := h2
    rw [h2', h3] <;> rfl
  show (if (PySem.W.subIn K (.ref S) (.type "BaseException") == some true) = true then (if ((PySem.W.clsIn K S).isSome && PySem.W.typeIn K (.ref S) == some (.type "type")) = true then PySem.W.subIn K cls (.ref S) else none) else none) = some b
  rw [if_pos e1, if_pos e2]
  exact h4
/-- what isinstance asks of an own exception class -/
structure XiC (K : PySem.W.Frag) (C : Addr) : Prop where
  cl : PySem.W.isClsIn K C = true
  ga : PySem.W.findIn K (.ref C) "__getattribute__" = some (some (.builtin "BaseException.__getattribute__"))
  gg : PySem.W.findIn K (.ref C) "__getattr__" = some none
  sb : PySem.W.subIn K (.ref C) (.type "BaseException") = some true
  ha : PySem.W.findIn K (.ref C) "__class__" = some (some (.builtin "object.__class__"))
  hn : PySem.W.specialIn K (.builtin "object.__class__") "__get__" = some (some (.builtin "getset_descriptor.__get__"))
  ht : PySem.W.takesIn K (.builtin "object.__class__") = some true
  hm : PySem.W.mroIn K C (.type "object") = some true
/-- isinstance(e, c) within the suite that holds e, an error with its own dict -/
def rIsX (K : PySem.W.Frag) (a C : Addr) (cls : Value) (d : Option Addr) : List V → Hp → VK → Prop := fun xs H Q => ∃ (c : V) (cv : Value) (b : Bool) (dd : Addr) (fs : List (Str × V)), xs = [.ref a, c] ∧ cls = .ref C ∧ d = some dd ∧ H dd = some (.xd fs) ∧ ClsV c cv ∧ PySem.W.kitOne K (.ref C) cv = some b ∧ Q (.bl b) H
theorem call_isX {X : Cx} {a C : Addr} {oe : Obj} {cls : Value} {d : Option Addr} {pn : List (Addr × Obj)} (T : XiC X.K C) (hz : Zc cls d oe) (hf : ∃ vs, oe.data = .fields vs) : CallR (X.suite a ((a, oe) :: pn)) (.builtin "isinstance") (rIsX X.K a C cls d) := by
  intro pins s σ H xs us Q I r h
  obtain ⟨c, cv, b, dd, fs, rfl, rfl, rfl, ea, hcv, e, q⟩ := h
  obtain ⟨u1, u2, rfl, r1, r2⟩ := vals2 r
  cases (show u1 = Value.ref a from r1)
  have ec := hcv.eq r2
  subst ec
  obtain ⟨ha, _⟩ := I.pin (a, oe) (List.mem_append_left _ List.mem_cons_self)
  obtain ⟨vs, hd⟩ := hf
  have hx : ObjOk X.prog X.w H s.heap dd (.xd fs) := I.hok dd _ ea
  obtain ⟨mA, hns, hr⟩ := hx
  obtain ⟨od, ho, hl⟩ := lookIn_ns hns
  have J : PySem.W.InstAt s.heap a oe C (some od) := ⟨ha, hz.1, by unfold PySem.W.notCls; rw [hd] <;> rfl, by rw [hz.2]; exact ho⟩
  exact PySem.W.kia_one (PySem.W.kitx_exc T.cl T.ga T.gg T.sb T.ha T.hn T.ht T.hm) I.kIn J e (fun z => nomatch z) fun tk => ⟨.bl b, H, I.kept (t' := tk) fun _ _ z => z, rfl, q⟩
/-! ### the state of the draws -/
def St4 (H : Hp) (t : Addr) : Prop := ∃ a b c d : Int, H t = some (.lst [.int a, .int b, .int c, .int d])
/-- H0: the heap of old, t: the state's list, l: the script -/
structure Drw (K : PySem.W.Frag) (H0 : Hp) (l t : Addr) (H : Hp) : Prop where
  scr : ∃ ns : List Int, SqL K H0 l (ns.map V.int)
  new : H0 t = none
  same : Same H0 H
  st : St4 H t
theorem Drw.sc {K : PySem.W.Frag} {H0 H : Hp} {l t : Addr} (D : Drw K H0 l t H) : ∃ ns : List Int, SqL K H l (ns.map V.int) := by
  obtain ⟨ns, h⟩ := D.scr
  exact ⟨ns, D.same.seq h⟩
theorem Drw.upd {K : PySem.W.Frag} {H0 H : Hp} {l t : Addr} {a b c d : Int} (D : Drw K H0 l t H) : Drw K H0 l t (upd H t (.lst [.int a, .int b, .int c, .int d])) :=
  ⟨D.scr, D.new, same_upd2 D.same D.new, ⟨a, b, c, d, upd_same⟩⟩
theorem Drw.mono {K : PySem.W.Frag} {H0 H H' : Hp} {l t : Addr} (D : Drw K H0 l t H) (e : Same H H') : Drw K H0 l t H' := by
  obtain ⟨a, b, c, d, h⟩ := D.st
  exact ⟨D.scr, D.new, D.same.trans e, ⟨a, b, c, d, e _ _ h⟩⟩
/-- all but what stands at t -/
def But (t : Addr) (H H' : Hp) : Prop := ∀ b, b ≠ t → H' b = H b
theorem But.refl {t : Addr} {H : Hp} : But t H H := fun _ _ => rfl
theorem But.trans {t : Addr} {H H1 H2 : Hp} (a : But t H H1) (b : But t H1 H2) : But t H H2 := fun c h => (b c h).trans (a c h)
theorem But.upd {t : Addr} {H H1 : Hp} {o : HO} (a : But t H H1) : But t H (upd H1 t o) := fun c h => (upd_ne h).trans (a c h)
def spStart (K : PySem.W.Frag) : Sp := fun vs H Q _ => ∃ (l : Addr) (ns : List Int), vs = [.ref l] ∧ SqL K H l (ns.map V.int) ∧ ∀ t H', H t = none → Drw K H l t H' → But t H H' → Q (.ref t) H'
def spDraw (K : PySem.W.Frag) : Sp := fun vs H Q _ => ∃ (l t : Addr) (m : Int) (H0 : Hp), vs = [.ref l, .ref t, .int m] ∧ Drw K H0 l t H ∧ 0 < m ∧ m < 1073741824 ∧ ∀ (v : Int) H', 0 ≤ v → v < m → But t H H' → Drw K H0 l t H' → Q (.int v) H'
theorem at0 {a b c d : V} : atI [a, b, c, d] 0 = some a := rfl
theorem at1 {a b c d : V} : atI [a, b, c, d] 1 = some b := rfl
theorem at2 {a b c d : V} : atI [a, b, c, d] 2 = some c := rfl
theorem at3 {a b c d : V} : atI [a, b, c, d] 3 = some d := rfl
/-- the plain steps of a reading -/
local macro_rules | `(tactic| walk_at "rd") => `(tactic| repeat (first | refine ⟨_, rfl, ?_⟩ | refine ⟨_, _, rfl, rfl, ?_⟩ | refine ⟨⟨by decide, by decide⟩, ?_⟩ | refine ⟨⟨by decide, by decide, by decide⟩, ?_⟩ | refine ⟨show (0 : Int) < _ by decide, ?_⟩))
/-! ### data, errors, numbers -/
theorem Same.seqT {K : PySem.W.Frag} {H H' : Hp} {a : Addr} {xs : List V} (e : Same H H') (h : SqT K H a xs) : SqT K H' a xs := by
  rcases h with (h | ⟨o, h⟩) | h
  · exact .inl (.inl (e _ _ h))
  · exact .inl (.inr ⟨o, e _ _ h⟩)
  · exact .inr h
mutual
theorem dp_same {K : PySem.W.Frag} {H H' : Hp} (e : Same H H') : ∀ {v : V} {d : PyData}, Dp K H v d → Dp K H' v d
  | _, _, .non => .non
  | _, _, .bl b => .bl b
  | _, _, .int i => .int i
  | _, _, .str x => .str x
  | _, _, .lst h a => .lst (e.seq h) (dps_same e a)
  | _, _, .tup h a => .tup (Same.seqT e h) (dps_same e a)
theorem dps_same {K : PySem.W.Frag} {H H' : Hp} (e : Same H H') : ∀ {vs : List V} {ds : List PyData}, DpAll K H vs ds → DpAll K H' vs ds
  | _, _, .nil => .nil
  | _, _, .cons h a => .cons (dp_same e h) (dps_same e a)
end
theorem ne_self {d : PyData} (h : SeqAt.shaped d = true) : (!PyData.eqv d d) = false := by
  rw [SeqAt.eqv_refl d (SeqAt.canLay_of_shaped h)] <;> rfl
theorem eq_self {d : PyData} (h : SeqAt.shaped d = true) : PyData.eqv d d = true := SeqAt.eqv_refl d (SeqAt.canLay_of_shaped h)
/-- an error of two fields, being made -/
def spX2 (C : Addr) (f1 f2 : Str) : Sp := fun vs H Q _ => ∃ (a : Addr) (x y : V), vs = [.ref a, x, y] ∧ H a = some (exo a C none) ∧
  ∀ d, H d = none → d ≠ a → Q .non (upd (upd (upd H d (exd d [(f1, x)])) a (exo a C (some d))) d (exd d [(f2, y), (f1, x)]))
theorem mk2 {C : Addr} {f1 f2 : Str} {H1 : Hp} {x y : V} {Q : XK} (h : ∀ d H', H1 d = none → Same H1 H' → H' d = some (.xd [(f2, y), (f1, x)]) → Q (.ref C) (some d) H') :
    ([x, y] : List V).length ≤ 1000 ∧ ∀ a, H1 a = none → spX2 C f1 f2 (.ref a :: ([x, y] ++ [])) (upd H1 a (exo a C none)) (fun v H2 => v = .non ∧ ∃ (d : Addr) (fs : List (Str × V)), H2 a = some (exo a C (some d)) ∧ H2 d = some (exd d fs) ∧ H1 d = none ∧ Q (.ref C) (some d) (upd (del H2 a) d (.xd fs))) (fun _ _ _ => False) := by
  refine ⟨by show 2 ≤ 1000; decide, fun a ha => ⟨a, x, y, rfl, upd_same, fun d hd hda => ⟨rfl, d, _, ?_, upd_same, ?_, ?_⟩⟩⟩
  · rw [upd_ne (Ne.symm hda), upd_same]
  · rw [upd_ne hda] at hd
    exact hd
  · have hd1 : H1 d = none := by
      rw [upd_ne hda] at hd
      exact hd
    refine h d _ hd1 (fun b o e => ?_) upd_same
    have hba : b ≠ a := ne_of_none e ha
    have hbd : b ≠ d := ne_of_none e hd1
    rw [upd_ne hbd, del_ne hba, upd_ne hbd, upd_ne hba, upd_ne hbd, upd_ne hba]
    exact e
/-- what is an integer -/
def isInt : V → Bool
  | .int _ => true
  | _ => false
/-- a value that isinstance can ask -/
def Kn (K : PySem.W.Frag) (H : Hp) (x : V) : Prop := ∃ t b1 b2, TyX K H x t ∧ PySem.W.kitOne K t (.type "int") = some b1 ∧ (b1 = true → PySem.W.kitOne K t (.type "bool") = some b2) ∧ (b1 && !b2) = isInt x
theorem kn_int {K : PySem.W.Frag} {H : Hp} (i : Int) : Kn K H (.int i) := ⟨_, true, false, .base (.int i), kit_ty (by decide +kernel), fun _ => kit_ty (by decide +kernel), rfl⟩
theorem kn_bl {K : PySem.W.Frag} {H : Hp} (b : Bool) : Kn K H (.bl b) := ⟨_, true, true, .base (.bl b), kit_ty (by decide +kernel), fun _ => kit_ty (by decide +kernel), rfl⟩
theorem kn_non {K : PySem.W.Frag} {H : Hp} : Kn K H .non := ⟨_, false, false, .base .non, kit_ty (by decide +kernel), fun z => (nomatch z), rfl⟩
theorem kn_str {K : PySem.W.Frag} {H : Hp} (x : Str) : Kn K H (.str x) := ⟨_, false, false, .base (.str x), kit_ty (by decide +kernel), fun z => (nomatch z), rfl⟩
theorem kn_tup {K : PySem.W.Frag} {H : Hp} {a : Addr} {xs : List V} (e : H a = some (.tup xs)) : Kn K H (.ref a) := ⟨_, false, false, .base (.tup e), kit_ty (by decide +kernel), fun z => (nomatch z), rfl⟩
def spIsInt (K : PySem.W.Frag) : Sp := fun vs H Q _ => ∃ x, vs = [x] ∧ Kn K H x ∧ Q (.bl (isInt x)) H
def oV : Option Int → V
  | none => .non
  | some i => .int i
/-- within the bounds -/
def good (x : V) (lo hi : Option Int) : Bool := match x with
  | .int i => lo.all (fun l => decide (l ≤ i)) && hi.all (fun h => decide (i ≤ h))
  | _ => false
def spCheck (K : PySem.W.Frag) (C : Addr) : Sp := fun vs H Q E => ∃ (w : Str) (x : V) (lo hi : Option Int), vs = [.str w, x, oV lo, oV hi] ∧ Kn K H x ∧ (good x lo hi = true → Q x H) ∧
  (good x lo hi = false → ∀ d H', H d = none → Same H H' → H' d = some (.xd [("value", x), ("what", .str w)]) → E (.ref C) (some d) H')
/-- subscripts whose written part is named (within a comprehension) -/
theorem ixK_list {X : Cx} {K : PySem.W.Frag} (h : X.K = K) : IxR X (rIxL K) := h ▸ ix_list
theorem ixK_tup {X : Cx} {K : PySem.W.Frag} (h : X.K = K) : IxR X (rIxT K) := h ▸ ix_tup
/-- a field, the written part named (within a try) -/
theorem pe_fldK {X : Cx} {K : PySem.W.Frag} {e : Expr} {f : Str} {pos : Pos} {ta : TE} (h : X.K = K) (he : PE X e ta) (hb : attributeBase e f X.env (eval e X.env) = eval e X.env) : PE X (.Attribute e f pos) (tFld K ta f) := h ▸ pe_fld he hb
/-! ### the text of a number -/
open TL (tl)
def dig (c : Nat) : Bool := decide (48 ≤ c) && decide (c ≤ 57)
def Asc (x : Str) : Prop := ∀ c ∈ tl x, c < 128
def okN (l : List Nat) : Bool := !l.isEmpty && l.all dig && decide (l.length ≤ 4) && (l == [48] || l.head? != some 48)
def val (l : List Nat) : Nat := NumText.digitsVal l
theorem isDigit_asc {c : Nat} (h : c < 128) : Unicode.isDigit c = dig c := by
  have k : ∀ n : _root_.Fin 128, Unicode.isDigit n.val = dig n.val := by decide +kernel
  exact k ⟨c, h⟩
theorem find_dig {c : Nat} (h : c < 128) : Txt.find ("0123456789" : Str) ⟨#[c]⟩ = if dig c = true then (c : Int) - 48 else -1 := by
  have k : ∀ n : _root_.Fin 128, Txt.find ("0123456789" : Str) ⟨#[n.val]⟩ = if dig n.val = true then (n.val : Int) - 48 else -1 := by decide +kernel
  exact k ⟨c, h⟩
theorem asc_isascii {x : Str} (h : Asc x) : Txt.isascii x = true := by
  unfold Txt.isascii
  rw [Array.all_eq_true']
  intro c hc
  exact decide_eq_true (h c (Array.mem_toList_iff.mpr hc))
theorem asc_strOk {x : Str} (h : Asc x) : PyData.strOk x = true := by
  unfold PyData.strOk
  rw [Array.all_eq_true']
  intro c hc
  have := h c (Array.mem_toList_iff.mpr hc)
  exact decide_eq_true (by omega)
theorem asc_isdigit {x : Str} (h : Asc x) : Txt.isdigit x = (!(tl x).isEmpty && (tl x).all dig) := by
  have e1 : decide (x.length > 0) = !(tl x).isEmpty := by
    rw [TL.len_tl]
    cases tl x with
    | nil => rfl
    | cons a l => exact decide_eq_true (by simp)
  have e2 : x.cps.all Unicode.isDigit = (tl x).all dig := by
    rw [← Array.all_toList]
    have key : ∀ l : List Nat, (∀ c ∈ l, c < 128) → l.all Unicode.isDigit = l.all dig := fun l => by
      induction l with
      | nil => exact fun _ => rfl
      | cons a l ih =>
        intro h
        rw [List.all_cons, List.all_cons, isDigit_asc (h a List.mem_cons_self), ih fun c hc => h c (List.mem_cons_of_mem _ hc)]
    exact key _ h
  unfold Txt.isdigit
  rw [e1, e2]
theorem starts0 (x : Str) : Txt.startswith x ("0" : Str) = ((tl x).head? == some 48) := by
  have e1 : ("0" : Str).length = 1 := rfl
  have e2 : tl ("0" : Str) = [48] := rfl
  by_cases hx : tl x = []
  · have : x.length = 0 := by rw [TL.len_tl, hx] <;> rfl
    unfold Txt.startswith
    rw [e1, this, hx]
    rfl
  · have hlen : 0 < x.length := by rw [TL.len_tl]; exact List.length_pos_iff.mpr hx
    have ha := TL.at_iff (x := x) (y := ("0" : Str)) (by rw [e2]; simp) 0
    rw [List.drop_zero, e2] at ha
    unfold Txt.startswith
    have e3 : decide (0 + ("0" : Str).length ≤ x.length) = true := decide_eq_true (by rw [e1]; omega)
    rw [e3, Bool.true_and]
    rw [Bool.eq_iff_iff]
    have h4 : Builtin.Str.subAt x ("0" : Str) 0 = true ↔ PySem.StrLaws.At x ("0" : Str) x.length 0 := ⟨fun h => ⟨by rw [e1]; omega, h⟩, fun h => h.2⟩
    rw [h4, ha]
    cases hl : tl x with
    | nil => exact absurd hl hx
    | cons a l =>
      unfold TL.pre
      simp
/-! ### a caught exception, kept behind its suite -/
/-- at p: an exception of the class k, its dict at dd -/
def Kept (k : Value) (dd : Option Addr) (p : Addr) : HO := .ext fun hp => ∃ (ob : Obj) (fv : Array Value), hp.get? p = some ob ∧ Zc k dd ob ∧ ob.data = .fields fv
theorem kept_obj {P : Program} {w : World} {H : Hp} {hp : Heap} {p : Addr} {k : Value} {dd : Option Addr} {ob : Obj} {fv : Array Value} (h1 : hp.get? p = some ob) (h2 : Zc k dd ob) (h3 : ob.data = .fields fv) :
    ObjOk P w H hp p (Kept k dd p) := by
  refine ⟨⟨ob, fv, h1, h2, h3⟩, ⟨ob, h1⟩, ?_⟩
  rintro _ _ ⟨o1, f1, g1, g2⟩ same
  exact ⟨o1, f1, same _ g1, g2⟩
theorem kept_at {P : Program} {w : World} {H : Hp} {hp : Heap} {p : Addr} {k : Value} {dd : Option Addr} (all : HOk P w H hp) (h : H p = some (Kept k dd p)) : ∃ (ob : Obj) (fv : Array Value), hp.get? p = some ob ∧ Zc k dd ob ∧ ob.data = .fields fv := by
  have z : ObjOk P w H hp p (.ext fun hp => ∃ (ob : Obj) (fv : Array Value), hp.get? p = some ob ∧ Zc k dd ob ∧ ob.data = .fields fv) := all p _ h
  exact z.1
/-- an object of no one's that came after the entry is tracked from here on -/
theorem inv_keep {X : Cx} {pins : List (Addr × Obj)} {σ : L2.St} {H : Hp} {s : Shared} {p : Addr} {φ : Heap → Prop} (I : Inv X pins σ H s) (new0 : X.s_0.heap.get? p = none) (hp : H p = none)
    (ob : ObjOk X.prog X.w (upd H p (.ext φ)) s.heap p (.ext φ)) (nL : X.env.locals ≠ p) (nC : ∀ x c, X.env.cells.lookup x = some c → c ≠ p) (nP : ∀ q ∈ X.pn ++ pins, q.1 ≠ p) : Inv X pins σ (upd H p (.ext φ)) s := by
  have n0 : ∀ b o, X.s_0.heap.get? b = some o → b ≠ p := by
    intro b o e z
    rw [z, new0] at e
    cases e
  have nT : ∀ b o, H b = some o → b ≠ p := fun b o e => ne_of_none e hp
  constructor
  case ok => exact I.ok
  case os => exact I.os
  case bare => exact I.bare
  case loc => exact I.loc
  case cell => exact I.cell
  case len => exact I.len
  case free => rw [upd_ne nL]; exact I.free
  case freeC => intro x c e; rw [upd_ne (nC x c e)]; exact I.freeC x c e
  case pin =>
    intro q hq
    obtain ⟨p1, p2, p3⟩ := I.pin q hq
    exact ⟨p1, by rw [upd_ne (nP q hq)]; exact p2, p3⟩
  case base =>
    constructor
    case keep => exact I.base.keep
    case slot => exact I.base.slot
    case there => exact I.base.there
    case free => intro b o e1 e2 e3; rw [upd_ne (n0 b o e1)]; exact I.base.free b o e1 e2 e3
    case tups => intro b xs e; have q := I.base.tups b xs e; rw [upd_ne (nT b _ q)]; exact q
    case frzs => intro b o u e; have q := I.base.frzs b o u e; rw [upd_ne (nT b _ q)]; exact q
    case tbls => intro b ps e; obtain ⟨m, q⟩ := I.base.tbls b ps e; exact ⟨m, by rw [upd_ne (nT b _ q)]; exact q⟩
  case hok =>
    intro b u e
    by_cases hb : b = p
    · subst hb
      rw [upd_same] at e
      cases e
      exact ob
    · rw [upd_ne hb] at e
      exact (I.hok b u e).stay (fun _ _ _ z => z) (fun c q => by rw [upd_ne (nT c _ q)]; exact q) fun c xs q => by rw [upd_ne (nT c _ q)]; exact q
/-- the wish of 'except c as n: ..' whose exception is kept (its own suite raises nothing, and no break is in it) -/
def wKp (K : PySem.W.Frag) (cv : Value) (ix : Nat) (TS1 : Addr → Value → Option Addr → TS) (D : Ends) : WX := fun k dd σ H => PySem.W.exmOne K k cv = some true ∧
  ∀ p, H p = none → TS1 p k dd { nx := fun σ1 H1 => D.nx (σ1.set ix none) (upd H1 p (Kept k dd p)), rt := fun _ _ => False, bk := fun _ _ => False, ct := fun _ _ => False } (σ.set ix (some (.ref p))) H
section
variable {X : Cx} {y nm : Str} {cv : Value} {ix : Nat} {bd su : List Stmt} {b1 : Stmt} {p1 p2 p3 : Pos} {TB : WX → TS} {TS1 : Addr → Value → Option Addr → TS}
theorem ps_try_keep (h0 : X.ex = []) (h1 : X.stack = X.env :: X.outer) (h2 : X.env.frame = some X.env.locals) (h3 : X.N.Nodup) (h4 : X.N[ix]? = some nm) (h5 : X.env.kindOf nm = some .local) (h6 : Names X y cv)
    (HB : ∀ (V1 : WX) (pl : List (Addr × Obj)) (z : Value → Shared → Prop), Takes (X.tr pl z) V1 → PassesOwn (model X.prog X.w) X.A X.env z → PSs (X.tr pl z) bd (TB V1))
    (HS : ∀ (p : Addr) (ob : Obj) (k : Value) (dd : Option Addr) (pl : List (Addr × Obj)), Zc k dd ob → (∃ fv, ob.data = .fields fv) → PSs (X.suite p ((p, ob) :: pl)) (b1 :: su) (TS1 p k dd)) :
    PS X (.Try bd [.ExceptHandler (some (.Name y p1)) (some nm) (b1 :: su) p2] [] [] p3) (fun D σ H => TB (wKp X.K cv ix TS1 D) D σ H) := by
  constructor
  intro pins s σ H D I h
  have okX := I.ok
  have frames : X.A.frames = some (X.env :: X.outer) := by rw [okX.frames, h1]
  refine wpAny_Try_except ?_
  refine wpAny_mono ((HB (wKp X.K cv ix TS1 D) (X.pn ++ pins) _ (fun u s' got => ?caught) PassesOwn.looking).run [] s σ H D (I.toTry _) h) (fun f s1 z => ?fine) fun _ _ z => z
  case fine =>
    cases f with
    | next => obtain ⟨σ1, H1, J, q⟩ := z; exact wpAny_execs_nil ⟨σ1, H1, J.ofTry okX, q⟩
    | brk => obtain ⟨σ1, H1, J, q⟩ := z; exact ⟨σ1, H1, J.ofTry okX, q⟩
    | cont => obtain ⟨σ1, H1, J, q⟩ := z; exact ⟨σ1, H1, J.ofTry okX, q⟩
    | ret u => obtain ⟨v, σ1, H1, J, r, q⟩ := z; exact ⟨v, σ1, H1, J.ofTry okX, r, q⟩
  case caught =>
    obtain ⟨p, B, s2, pins2, σ1, H1, k, dd, rfl, J0, old, up0, air, hp, sameOs, bare, match1, wish⟩ := got
    have J := J0.ofTry okX
    have air' : Sky B (X.env :: X.outer) p (Zc k dd) X.env.locals s'.heap := by rw [← h1]; exact air
    show wpAny (model X.prog X.w) X.A (noteFrame (.ref p) X.env) _ _ _
    refine Sky.land Zc.steady frames h2 air' ?_
    intro g1 fly1 up1
    have J1 : Inv X pins σ1 H1 { s' with heap := g1 } := J.landed old fly1.1 (up0.trans up1) sameOs bare
    obtain ⟨ob1, fv1, at1, z1, d1⟩ := fly1.there
    -- p is no frame, and was nothing before the body
    have noFrame : p ∉ frs (X.env :: X.outer) := by
      intro m
      obtain ⟨_, o, e, no⟩ := fly1.2.2.1.mem m
      rw [at1] at e
      cases e
      exact no _ d1
    have noL : p ≠ X.env.locals := by
      intro z
      refine noFrame (List.mem_filterMap.mpr ⟨X.env, List.mem_cons_self, ?_⟩)
      rw [h2, z]
    have noFs : p ∉ X.fs := by
      intro m
      obtain ⟨e, he, q⟩ := List.mem_filterMap.mp m
      exact noFrame (List.mem_filterMap.mpr ⟨e, List.mem_cons_of_mem _ he, q⟩)
    have new2 : s2.heap.get? p = none := by
      cases e : s2.heap.get? p with
      | none => rfl
      | some o =>
        have := old p o e (by show p ∉ frs X.stack; rw [h1]; exact noFrame)
        rw [fly1.2.1] at this
        cases this
    have new0 : X.s_0.heap.get? p = none := by
      cases e : X.s_0.heap.get? p with
      | none => rfl
      | some o =>
        obtain ⟨o', e'⟩ := J.base.there p o e (by rw [h0]; exact fun z => nomatch z)
        rw [new2] at e'
        cases e'
    have S1 := J1.suite at1 d1 hp noL noFs
    refine wpAny_handleBy_cons (codeAny_handlers_test ?_) (by intro q; cases q)
    have typ : PySem.W.Looks (model X.prog X.w) g1 (typeOf (.ref p)) k := fun A Q E s k2 q => wpAny_typeOf_ref (k2 _ _ at1) (by rw [z1.1]; exact q)
    have matches1 := PySem.W.exm_one (M := model X.prog X.w) J1.kIn typ match1
    have name1 : ∀ {Q : Value → Shared → Prop} {E : Value → Shared → Prop}, Q cv { s' with heap := g1 } → wpAny (model X.prog X.w) (X.A.mark (some (.ref p))) (eval (.Name y p1) X.env) Q E { s' with heap := g1 } := by
      intro Q E q
      obtain ⟨hg, db, hm | ⟨hm, hv, nn⟩⟩ := h6
      · exact ld_glob (X := X.suite p ((p, ob1) :: (X.pn ++ pins))) S1 hg hm q db
      · exact ld_blt (X := X.suite p ((p, ob1) :: (X.pn ++ pins))) S1 hg hm hv q nn db
    refine name1 (matches1.here ?_)
    refine codeAny_handlers_suite_as ?_
    refine HandSPX.lands_againZ fly1 ?_
    intro g2 fly2 up2
    have J2 : Inv X pins σ1 H1 { s' with heap := g2 } := J.landed old fly2.1 ((up0.trans up1).trans up2) sameOs bare
    obtain ⟨ob2, fv2, at2, z2, d2⟩ := fly2.there
    have S2 := J2.suite at2 d2 hp noL noFs
    refine store_ok (X := X.suite p ((p, ob2) :: (X.pn ++ pins))) (v := .ref p) S2 h3 h4 (.inl h5) rfl (fun s5 S5 => ?_) (.inr h5)
    refine wpAny_mono ((HS p ob2 k dd (X.pn ++ pins) z2 ⟨_, d2⟩).run [] s5 _ H1 _ S5 (wish p hp)) (fun f s6 z => ?_) fun _ _ z => z.elim
    cases f with
    | next =>
      obtain ⟨σ6, H6, S6, q6⟩ := z
      have J6 : Inv X ((p, ob2) :: pins) σ6 H6 s6 := by
        constructor
        case ok => exact okX
        case os => exact S6.os
        case bare => exact S6.bare
        case base => exact S6.base
        case loc => exact S6.loc
        case cell => exact S6.cell
        case free => exact S6.free
        case freeC => exact S6.freeC
        case hok => exact S6.hok
        case len => exact S6.len
        case pin =>
          intro q hq
          refine S6.pin q (List.mem_append_left _ ?_)
          rcases List.mem_append.mp hq with m | m
          · exact List.mem_cons_of_mem _ (List.mem_append_left _ m)
          · rcases List.mem_cons.mp m with m | m
            · rw [m]
              exact List.mem_cons_self
            · exact List.mem_cons_of_mem _ (List.mem_append_right _ m)
      refine gone_ok J6 h3 h4 h5 ?_
      intro s7 J7
      obtain ⟨at7, hp7, _⟩ := J7.pin (p, ob2) (List.mem_append_right _ List.mem_cons_self)
      have J8 : Inv X pins (σ6.set ix none) H6 s7 := J7.pins_of fun q hq => J7.pin q (List.mem_append_right X.pn (List.mem_cons_of_mem _ hq))
      refine ⟨_, _, inv_keep J8 new0 hp7 (kept_obj at7 z2 d2) (Ne.symm noL) (fun x c e z => ?_) (fun q hq z => ?_), q6⟩
      · obtain ⟨_, o, e2, _⟩ := J.cell x c e
        rw [z, new2] at e2
        cases e2
      · have e2 := (J.pin q hq).1
        rw [z, new2] at e2
        cases e2
    | brk => obtain ⟨_, _, _, q⟩ := z; exact q.elim
    | cont => obtain ⟨_, _, _, q⟩ := z; exact q.elim
    | ret u => obtain ⟨_, _, _, _, _, q⟩ := z; exact q.elim
end
section
variable {X : Cx} {e : Expr} {te : TE} {pos : Pos} {n : Str}
/-- e.f, e an exception that is kept: the dict's own -/
def tKf (K : PySem.W.Frag) (f : Str) (te : TE) : TE := fun σ H Q => te σ H fun x H1 => ∃ (p C dd : Addr) (fs : List (Str × V)) (v : V), x = .ref p ∧ H1 p = some (Kept (.ref C) (some dd) p) ∧ H1 dd = some (.xd fs) ∧ XfC K C ∧ PySem.W.findIn K (.ref C) f = some none ∧ fs.lookup f = some v ∧ Q v H1
theorem pe_kf (he : PE X e te) (hb : attributeBase e n X.env (eval e X.env) = eval e X.env := by rfl) : PE X (.Attribute e n pos) (tKf X.K n te) := by
  constructor
  intro pins s σ H Q I h
  refine attr_of hb (thn (he.run pins s σ H _ I h) ?_)
  rintro u s1 ⟨x, H1, I1, rx, p, C, dd, fs, v, rfl, kp, kd, T, no, l, q⟩
  cases (show u = Value.ref p from rx)
  obtain ⟨ob, fv, g1, g2, g3⟩ := kept_at I1.hok kp
  have dok : ObjOk X.prog X.w H1 s1.heap dd (.xd fs) := I1.hok dd _ kd
  obtain ⟨mA, ns, rel⟩ := dok
  obtain ⟨od, hod, look⟩ := lookIn_ns ns
  have rn : RelO (some v) (mA n) := by rw [← l]; exact rel n
  obtain ⟨w, hw, rw1⟩ := RelO.some_of rn
  have at1 : PySem.W.InstAt s1.heap p ob C (some od) := ⟨g1, g2.1, by unfold PySem.W.notCls; rw [g3] <;> rfl, by rw [g2.2]; exact hod⟩
  refine HandSPX.exc_get I1.kIn at1 T.ga T.gg T.exC (PySem.W.findObj_own T.hdC no rfl (by rw [look, hw])) (handed_of rw1) ?_
  exact ⟨v, H1, I1.tok _, rw1, q⟩
/-- isinstance(x, c), x an exception that is kept -/
def rIsK (K : PySem.W.Frag) : List V → Hp → VK → Prop := fun xs H Q => ∃ (p C : Addr) (dd : Option Addr) (c : V) (cv : Value) (b : Bool), xs = [.ref p, c] ∧ H p = some (Kept (.ref C) dd p) ∧ (∀ d, dd = some d → ∃ fs, H d = some (.xd fs)) ∧
  XiC K C ∧ ClsV c cv ∧ PySem.W.kitOne K (.ref C) cv = some b ∧ Q (.bl b) H
theorem call_isK : CallR X (.builtin "isinstance") (rIsK X.K) := by
  intro pins s σ H xs us Q I r h
  obtain ⟨p, C, dd, c, cv, b, rfl, kp, kd, T, hc, e, q⟩ := h
  obtain ⟨u1, u2, rfl, r1, r2⟩ := vals2 r
  cases (show u1 = Value.ref p from r1)
  cases hc.eq r2
  obtain ⟨ob, fv, g1, g2, g3⟩ := kept_at I.hok kp
  have nc : PySem.W.notCls ob = true := by unfold PySem.W.notCls; rw [g3] <;> rfl
  have fin : ∀ {od : Option Obj}, PySem.W.InstAt s.heap p ob C od → wpAny (model X.prog X.w) X.A (call (.builtin "isinstance") [.ref p, cv]) (EP X pins σ Q) X.xe s := fun {od} at1 =>
    PySem.W.kia_one (PySem.W.kitx_exc T.cl T.ga T.gg T.sb T.ha T.hn T.ht T.hm) I.kIn at1 e (fun z => nomatch z) fun tk => ⟨.bl b, H, I.kept (t' := tk) fun _ _ z => z, rfl, q⟩
  cases dd with
  | none => exact fin (od := none) ⟨g1, g2.1, nc, by rw [g2.2] <;> trivial⟩
  | some d =>
    obtain ⟨fs, hd⟩ := kd d rfl
    have dok : ObjOk X.prog X.w H s.heap d (.xd fs) := I.hok d _ hd
    obtain ⟨mA, ns, rel⟩ := dok
    obtain ⟨od, hod, look⟩ := lookIn_ns ns
    exact fin (od := some od) ⟨g1, g2.1, nc, by rw [g2.2]; exact hod⟩
end
/-- what the top has left -/
structure Ctx (K : PySem.W.Frag) (mg : Str → Option Value) where
  c_VoteError : Addr
  gc_VoteError : mg "VoteError" = some (.ref c_VoteError)
  c_BadNumber : Addr
  gc_BadNumber : mg "BadNumber" = some (.ref c_BadNumber)
  c_BadLot : Addr
  gc_BadLot : mg "BadLot" = some (.ref c_BadLot)
  f_BadNumber_init : Addr
  fd_BadNumber_init : FuncData
  F_BadNumber_init : Fun K "__init__" "BadNumber.__init__" s_BadNumber_init f_BadNumber_init fd_BadNumber_init
  b_BadNumber_init : Binds K fd_BadNumber_init ["self", "what", "value"] []
  f_is_number : Addr
  fd_is_number : FuncData
  F_is_number : Fun K "is_number" "is_number" s_is_number f_is_number fd_is_number
  b_is_number : Binds K fd_is_number ["text"] []
  g_is_number : mg "is_number" = some (.ref f_is_number)
  f_read_number : Addr
  fd_read_number : FuncData
  F_read_number : Fun K "read_number" "read_number" s_read_number f_read_number fd_read_number
  b_read_number : Binds K fd_read_number ["text"] []
  g_read_number : mg "read_number" = some (.ref f_read_number)
  f_l_start : Addr
  fd_l_start : FuncData
  F_l_start : Fun K "_law_start" "_law_start" s_l_start f_l_start fd_l_start
  b_l_start : Binds K fd_l_start ["_law_script"] []
  g_l_start : mg "_law_start" = some (.ref f_l_start)
  f_l_draw : Addr
  fd_l_draw : FuncData
  F_l_draw : Fun K "_law_draw" "_law_draw" s_l_draw f_l_draw fd_l_draw
  b_l_draw : Binds K fd_l_draw ["_law_script", "_law_state", "_law_limit"] []
  g_l_draw : mg "_law_draw" = some (.ref f_l_draw)
  f_l_is_integer : Addr
  fd_l_is_integer : FuncData
  F_l_is_integer : Fun K "_law_is_integer" "_law_is_integer" s_l_is_integer f_l_is_integer fd_l_is_integer
  b_l_is_integer : Binds K fd_l_is_integer ["_law_actual"] []
  g_l_is_integer : mg "_law_is_integer" = some (.ref f_l_is_integer)
  f_l_due : Addr
  fd_l_due : FuncData
  F_l_due : Fun K "_law_due" "_law_due" s_l_due f_l_due fd_l_due
  b_l_due : Binds K fd_l_due ["_law_text"] []
  g_l_due : mg "_law_due" = some (.ref f_l_due)
  f_l_holds : Addr
  fd_l_holds : FuncData
  F_l_holds : Fun K "_law_holds" "_law_holds" s_l_holds f_l_holds fd_l_holds
  b_l_holds : Binds K fd_l_holds ["_law_text"] []
  g_l_holds : mg "_law_holds" = some (.ref f_l_holds)
  f_law : Addr
  fd_law : FuncData
  F_law : Fun K "law" "law" s_law f_law fd_law
  b_law : Binds K fd_law ["_law_script"] []
  g_law : mg "law" = some (.ref f_law)
  ox_BadNumber : OexC K c_BadNumber
  xn_BadNumber : PySem.W.findIn K (.ref c_BadNumber) "__init__" = some (some (.ref f_BadNumber_init))
  xt_BadNumber : PySem.W.typeIn K (.ref f_BadNumber_init) = some (.type "function")
  xf_BadNumber : XfC K c_BadNumber
  xi_BadNumber : XiC K c_BadNumber
  n_BadNumber_what : PySem.W.findIn K (.ref c_BadNumber) "what" = some none
  n_BadNumber_value : PySem.W.findIn K (.ref c_BadNumber) "value" = some none
  ki_BadNumber_BadLot : PySem.W.kitOne K (.ref c_BadNumber) (.ref c_BadLot) = some false
  ex_BadNumber_BadNumber : PySem.W.exmOne K (.ref c_BadNumber) (.ref c_BadNumber) = some true
  gt_MOST_DIGITS : Tok
  gk_MOST_DIGITS : mg "MOST_DIGITS" = some (.int 4 gt_MOST_DIGITS)
  m_abs : mg "abs" = none
  m_bool : mg "bool" = none
  m_int : mg "int" = none
  m_isinstance : mg "isinstance" = none
  m_len : mg "len" = none
  m_range : mg "range" = none
  m_str : mg "str" = none

section
variable {P : Program} {w : World} {K : PySem.W.Frag} {mg : Str → Option Value} {base : Heap}
theorem ok_l_start (T : Ctx K mg) : FnOk P w K mg base CX0 1 T.f_l_start T.fd_l_start ["_law_script"] (spStart K) := by
  refine T.F_l_start.ok sc_l_start (fun vs H Q E h => ?_) (fun cdv A outer s H vs Q E hr h => ?_)
  · obtain ⟨l, ns, rfl, _⟩ := h
    rfl
  · obtain ⟨l, ns, rfl, hS, q⟩ := h
    refine ⟨_, (pss_cons (ps_set (i := 1) sc_l_start.nd rfl (Or.inl rfl) pe_int)
      (Evl.pss_cut (ps_if (pt_cmpR op_gt (pe_callB call_len_seq (by rfl) T.m_len (by decide +kernel) (pa_cons (pv 0) pa_nil)) pe_int (nomark _))
        (pss_one (ps_set (i := 1) sc_l_start.nd rfl (Or.inl rfl) (pe_ix ix_list (pv 0) pe_int (fun _ _ => rfl))))
        pss_nil)
      (pss_one (ps_ret (pe_lst (pa_cons (pe_callB call_abs (by rfl) T.m_abs (by decide +kernel) (pa_cons (pe_callTy call_int1 (by rfl) T.m_int (by decide +kernel) (pa_cons (pv 1) pa_nil)) pa_nil)) (pa_cons (pe_callTy call_int1 (by rfl) T.m_int (by decide +kernel) (pa_cons (pe_cmpR op_ge (pe_callB call_abs (by rfl) T.m_abs (by decide +kernel) (pa_cons (pe_callTy call_int1 (by rfl) T.m_int (by decide +kernel) (pa_cons (pv 1) pa_nil)) pa_nil)) (pe_op op_pow pe_int pe_int) (nomark _)) pa_nil)) (pa_cons pe_int (pa_cons pe_int pa_nil))))))))), ?_⟩
    refine ⟨fun σ' H' => H' = H ∧ ∃ z : Int, σ' = [some (.ref l), some (.int z)], ?_, ?_⟩
    · refine ⟨_, rfl, l, _, rfl, .inl hS, _, _, rfl, rfl, _, rfl, ?_⟩
      refine ite2 (fun hc => ?_) fun hc => ⟨rfl, 0, rfl⟩
      have hn : 0 < ns.length := by
        have := of_decide_eq_true hc
        rw [List.length_map] at this
        omega
      refine ⟨_, rfl, l, _, _, .int ns[0], rfl, rfl, hS, at_of (j := 0) rfl (by rw [List.getElem?_map, List.getElem?_eq_getElem hn]; rfl), ?_⟩
      exact ⟨rfl, _, rfl⟩
    · rintro σ' H' ⟨rfl, z, rfl⟩
      refine ⟨_, rfl, .inl ⟨_, rfl, _, rfl, ?_⟩⟩
      refine ⟨_, rfl, .inl ⟨_, rfl, _, rfl, _, _, rfl, rfl, ⟨by decide, by decide, by decide⟩, _, _, rfl, rfl, .inr ⟨_, rfl, ?_⟩⟩⟩
      refine ⟨by show 4 ≤ sizeLine; decide, fun t ht => ?_⟩
      exact q t _ ht ⟨⟨ns, hS⟩, ht, same_upd ht, ⟨_, _, _, _, upd_same⟩⟩ (But.refl.upd)
theorem ok_l_draw (T : Ctx K mg) : FnOk P w K mg base CX0 1 T.f_l_draw T.fd_l_draw ["_law_script", "_law_state", "_law_limit"] (spDraw K) := by
  refine T.F_l_draw.ok sc_l_draw (fun vs H Q E h => ?_) (fun cdv A outer s H vs Q E hr h => ?_)
  · obtain ⟨l, t, m, H0, rfl, _⟩ := h
    rfl
  · obtain ⟨l, t, m, H0, rfl, D, hm, hm2, q⟩ := h
    obtain ⟨a, b, c, d, ht⟩ := D.st
    have fin : ∀ (z : Int) H', But t H H' → Drw K H0 l t H' → Q (.int (z.fmod m)) H' := fun z H' e1 D' =>
      q _ _ (Int.fmod_nonneg_of_pos _ hm) (Int.fmod_lt_of_pos _ hm) e1 D'
    refine ⟨_, (pss_cons (ps_asg (pe_op op_add (pe_ix ix_list (pv 1) pe_int (fun _ _ => rfl)) pe_int) (pg_sub (pv 1) pe_int set_list))
      (Evl.pss_cut (ps_if (PW.pt (pw_and (pt_cmpR op_eq (pe_ix ix_list (pv 1) pe_int (fun _ _ => rfl)) pe_int (nomark _)) (pw_and1 (pt_cmpR op_gt (pe_ix ix_list (pv 1) pe_int (fun _ _ => rfl)) pe_int (nomark _)))))
        (pss_cons (ps_set (i := 3) sc_l_draw.nd rfl (Or.inl rfl) (pe_op op_modN (pe_callTy call_int1 (by rfl) T.m_int (by decide +kernel) (pa_cons (pe_ix ix_list (pv 1) pe_int (fun _ _ => rfl)) pa_nil)) (pv 2)))
        (pss_cons (ps_asg (pe_op op_fdivN (pe_ix ix_list (pv 1) pe_int (fun _ _ => rfl)) (pv 2)) (pg_sub (pv 1) pe_int set_list))
        (pss_one (ps_ret (pv 3)))))
        pss_nil)
      (pss_cons (ps_asg pe_int (pg_sub (pv 1) pe_int set_list))
      (pss_cons (ps_set (i := 4) sc_l_draw.nd rfl (Or.inl rfl) pe_int)
      (Evl.pss_cut (ps_if (pt_cmpR op_gt (pe_callB call_len_seq (by rfl) T.m_len (by decide +kernel) (pa_cons (pv 0) pa_nil)) pe_int (nomark _))
        (pss_one (ps_set (i := 4) sc_l_draw.nd rfl (Or.inl rfl) (pe_ix ix_list (pv 0) (pe_op op_modN (pe_callTy call_int1 (by rfl) T.m_int (by decide +kernel) (pa_cons (pe_ix ix_list (pv 1) pe_int (fun _ _ => rfl)) pa_nil)) (pe_callB call_len_seq (by rfl) T.m_len (by decide +kernel) (pa_cons (pv 0) pa_nil))) (fun _ _ => rfl))))
        pss_nil)
      (pss_cons (ps_asg (pe_op op_add (pe_ix ix_list (pv 1) pe_int (fun _ _ => rfl)) pe_int) (pg_sub (pv 1) pe_int set_list))
      (pss_cons (ps_set (i := 5) sc_l_draw.nd rfl (Or.inl rfl) (pe_op op_mul (pe_op op_mod (pe_callTy call_int1 (by rfl) T.m_int (by decide +kernel) (pa_cons (pe_ix ix_list (pv 1) pe_int (fun _ _ => rfl)) pa_nil)) pe_int) pe_int))
      (pss_cons (ps_set (i := 5) sc_l_draw.nd rfl (Or.inl rfl) (pe_op op_add (pe_op op_add (pe_op op_add (pv 5) (pe_op op_mod (pe_callTy call_int1 (by rfl) T.m_int (by decide +kernel) (pa_cons (pv 4) pa_nil)) pe_int)) (pe_op op_mul pe_int (pe_ix ix_list (pv 1) pe_int (fun _ _ => rfl)))) pe_int))
      (pss_cons (ps_asg (pe_op op_mod (pe_callTy call_int1 (by rfl) T.m_int (by decide +kernel) (pa_cons (pv 5) pa_nil)) pe_int) (pg_sub (pv 1) pe_int set_list))
      (pss_cons (ps_set (i := 5) sc_l_draw.nd rfl (Or.inl rfl) (pe_op op_mod (pe_callTy call_int1 (by rfl) T.m_int (by decide +kernel) (pa_cons (pe_op op_add (pe_op op_mul (pe_ix ix_list (pv 1) pe_int (fun _ _ => rfl)) pe_int) (pe_ix ix_list (pv 1) pe_int (fun _ _ => rfl))) pa_nil)) pe_int))
      (pss_one (ps_ret (pe_op op_modN (pe_callTy call_int1 (by rfl) T.m_int (by decide +kernel) (pa_cons (pe_op op_fdiv (pv 5) pe_int) pa_nil)) (pv 2)))))))))))))), ?_⟩
    -- state[3] = state[3] + 1
    refine ⟨_, rfl, t, _, _, _, rfl, rfl, SqL.of ht, at3, _, _, rfl, rfl, _, rfl, t, _, _, 3, rfl, rfl, ht, rfl, ?_⟩
    -- the first way
    refine ⟨fun σ' H' => σ' = [some (.ref l), some (.ref t), some (.int m), none, none, none] ∧ H' = upd H t (.lst [.int a, .int b, .int c, .int (d + 1)]), ?_, ?_⟩
    · refine ⟨_, rfl, t, _, _, _, rfl, rfl, SqL.of upd_same, at1, rfl, _, rfl, ?_⟩
      refine ite2 (fun hc => ?_) fun hc => iteF ⟨rfl, rfl⟩
      refine ⟨_, rfl, t, _, _, _, rfl, rfl, SqL.of upd_same, at0, _, _, rfl, rfl, _, rfl, ?_⟩
      refine ite2 (fun hc => ?_) fun hc => ⟨rfl, rfl⟩
      refine ⟨_, rfl, t, _, _, _, rfl, rfl, SqL.of upd_same, at0, .inl ⟨_, rfl, _, rfl, _, _, rfl, rfl, by omega, ?_⟩⟩
      refine ⟨_, rfl, t, _, _, _, rfl, rfl, SqL.of upd_same, at0, _, rfl, _, _, rfl, rfl, ⟨by omega, by omega⟩, _, rfl, t, _, _, 0, rfl, rfl, upd_same, rfl, ?_⟩
      exact ⟨_, rfl, fin _ _ (But.refl.upd.upd) (D.upd.upd)⟩
    · rintro σ' H' ⟨rfl, rfl⟩
      -- state[1] = 0; cell = 0
      refine ⟨_, rfl, t, _, _, 1, rfl, rfl, upd_same, rfl, ?_⟩
      have e1 : upd (upd H t (.lst [.int a, .int b, .int c, .int (d + 1)])) t (.lst ([V.int a, .int b, .int c, .int (d + 1)].set 1 (.int 0))) = upd H t (.lst [.int a, .int 0, .int c, .int (d + 1)]) := upd_upd
      rw [e1]
      have D1 : Drw K H0 l t (upd H t (.lst [.int a, .int 0, .int c, .int (d + 1)])) := D.upd
      obtain ⟨ns, hS⟩ := D1.sc
      refine ⟨fun σ' H' => H' = upd H t (.lst [.int a, .int 0, .int c, .int (d + 1)]) ∧ ∃ z : Int, σ' = [some (.ref l), some (.ref t), some (.int m), none, some (.int z), none], ?_, ?_⟩
      · refine ⟨_, rfl, l, _, rfl, .inl hS, _, _, rfl, rfl, _, rfl, ?_⟩
        refine ite2 (fun hc => ?_) fun hc => ⟨rfl, 0, rfl⟩
        have hn : 0 < ns.length := by
          have := of_decide_eq_true hc
          rw [List.length_map] at this
          omega
        have hn' : (0 : Int) < (((ns.map V.int).length : Nat) : Int) := by
          rw [List.length_map]
          omega
        have h0 := Int.fmod_nonneg_of_pos c hn'
        have h1 := Int.fmod_lt_of_pos c hn'
        rw [List.length_map] at h1
        have hj : (c.fmod ((ns.map V.int).length : Nat)).toNat < ns.length := by
          rw [List.length_map] at h0 ⊢
          omega
        refine ⟨_, rfl, _, rfl, t, _, _, _, rfl, rfl, SqL.of upd_same, at2, .inl ⟨_, rfl, _, rfl, l, _, rfl, .inl hS, _, _, rfl, rfl, by omega, ?_⟩⟩
        refine ⟨l, _, _, .int ns[(c.fmod ((ns.map V.int).length : Nat)).toNat], rfl, rfl, hS, at_of (j := (c.fmod ((ns.map V.int).length : Nat)).toNat) (by omega) (by rw [List.getElem?_map, List.getElem?_eq_getElem hj]; rfl), ?_⟩
        exact ⟨rfl, _, rfl⟩
      · rintro σ' H' ⟨rfl, z, rfl⟩
        -- state[2] = state[2] + 1
        refine ⟨_, rfl, t, _, _, _, rfl, rfl, SqL.of upd_same, at2, _, _, rfl, rfl, _, rfl, t, _, _, 2, rfl, rfl, upd_same, rfl, ?_⟩
        have e2 : upd (upd H t (.lst [.int a, .int 0, .int c, .int (d + 1)])) t (.lst ([V.int a, .int 0, .int c, .int (d + 1)].set 2 (.int (c + 1)))) = upd H t (.lst [.int a, .int 0, .int (c + 1), .int (d + 1)]) := upd_upd
        rw [e2]
        have hb := Int.emod_nonneg a (b := 2147483647) (by decide)
        have hb2 := Int.emod_lt_of_pos a (b := 2147483647) (by decide)
        refine ⟨_, rfl, t, _, _, _, rfl, rfl, SqL.of upd_same, at0, .inl ⟨_, rfl, _, _, rfl, rfl, (show (0 : Int) < 2147483647 by decide), _, _, rfl, rfl, .inl ⟨by omega, by omega⟩, ?_⟩⟩
        refine ⟨_, rfl, _, rfl, .inl ⟨_, rfl, _, _, rfl, rfl, (show (0 : Int) < 2147483629 by decide), _, _, rfl, rfl, _, rfl, t, _, _, _, rfl, rfl, SqL.of upd_same, at3, _, _, rfl, rfl, .inl ⟨by decide, by decide⟩, _, _, rfl, rfl, _, _, rfl, rfl, ?_⟩⟩
        refine ⟨_, rfl, .inl ⟨_, rfl, _, _, rfl, rfl, (show (0 : Int) < 2147483647 by decide), _, rfl, t, _, _, 0, rfl, rfl, upd_same, rfl, ?_⟩⟩
        generalize hw : (a % 2147483647 * 48271 + z % 2147483629 + 7 * (d + 1) + 11) = w'
        have e3 : upd (upd H t (.lst [.int a, .int 0, .int (c + 1), .int (d + 1)])) t (.lst ([V.int a, .int 0, .int (c + 1), .int (d + 1)].set 0 (.int (w' % 2147483647)))) = upd H t (.lst [.int (w' % 2147483647), .int 0, .int (c + 1), .int (d + 1)]) := upd_upd
        rw [e3]
        have hc := Int.emod_nonneg w' (b := 2147483647) (by decide)
        have hc2 := Int.emod_lt_of_pos w' (b := 2147483647) (by decide)
        refine ⟨_, rfl, t, _, _, _, rfl, rfl, SqL.of upd_same, at0, _, _, rfl, rfl, .inl ⟨by omega, by omega⟩, _, rfl, t, _, _, _, rfl, rfl, SqL.of upd_same, at3, _, _, rfl, rfl, .inl ⟨_, rfl, _, _, rfl, rfl, (show (0 : Int) < 2147483629 by decide), ?_⟩⟩
        refine ⟨_, rfl, _, _, rfl, rfl, ⟨by decide, by decide⟩, .inl ⟨_, rfl, _, rfl, _, _, rfl, rfl, by omega, ?_⟩⟩
        exact fin _ _ But.refl.upd D.upd
end
/-! ### is this the text of a number? -/
def spIsNum : Sp := fun vs H Q _ => ∃ x : Str, vs = [.str x] ∧ Asc x ∧ x.length ≤ sizeLine ∧ Q (.bl (okN (tl x))) H
theorem str_is0 {x : Str} : decide (V.str x = V.str ("0" : Str)) = (tl x == [48]) := by
  rw [Bool.eq_iff_iff, decide_eq_true_iff, beq_iff_eq, V.str.injEq]
  constructor
  · intro h
    rw [h]
    rfl
  · intro h
    exact TL.ext_tl h
section
variable {P : Program} {w : World} {K : PySem.W.Frag} {mg : Str → Option Value} {base : Heap}
theorem ok_is_number (T : Ctx K mg) : FnOk P w K mg base CX0 1 T.f_is_number T.fd_is_number ["text"] spIsNum := by
  refine T.F_is_number.ok sc_is_number (fun vs H Q E h => ?_) (fun cdv A outer s H vs Q E hr h => ?_)
  · obtain ⟨x, rfl, _⟩ := h
    rfl
  · obtain ⟨x, rfl, ax, hl, k⟩ := h
    refine ⟨_, (Evl.pss_cut (ps_if (PW.pt (pw_or (pt_not (pt_val (pe_m0 PySem.F.slot_str_isascii PySem.F.type_str_isascii mt_isascii (pv 0)))) (pw_or (pt_not (pt_val (pe_m0 PySem.F.slot_str_isdigit PySem.F.type_str_isdigit mt_isdigit (pv 0)))) (pw_or1 (pt_cmpR op_gt (pe_callB call_len_str (by rfl) T.m_len (by decide +kernel) (pa_cons (pv 0) pa_nil)) (pe_glob (v := .int 4) (by rfl) T.gk_MOST_DIGITS ⟨_, rfl⟩) (nomark _))))))
        (pss_one (ps_ret pe_bl))
        pss_nil)
      (pss_one (ps_ret (pe_or (pe_cmpR op_eq (pv 0) pe_str (nomark _)) (pe_one (pe_not (pe_m1 PySem.F.slot_str_startswith PySem.F.type_str_startswith mt_startswith (pv 0) pe_str))))))), ?_⟩
    refine ⟨fun σ' H' => σ' = [some (.str x)] ∧ H' = H ∧ (!(tl x).isEmpty && (tl x).all dig) = true ∧ (tl x).length ≤ 4, ?_, ?_⟩
    · refine ⟨_, rfl, ⟨_, rfl⟩, _, rfl, rfl, trivial, _, rfl, ?_⟩
      rw [asc_isascii ax]
      refine iteF ⟨_, rfl, ⟨_, rfl⟩, _, rfl, rfl, trivial, _, rfl, ?_⟩
      rw [asc_isdigit ax]
      unfold okN at k
      revert k
      cases (!(tl x).isEmpty && (tl x).all dig) with
      | false => exact fun k => iteT (iteT k)
      | true =>
        intro k
        refine iteF ⟨_, rfl, _, rfl, hl, _, _, rfl, rfl, _, rfl, ite2 (fun h => ?_) fun h => ?_⟩
        · have h := of_decide_eq_true h
          rw [decide_eq_false (by rw [← TL.len_tl]; omega)] at k
          exact k
        · have h := of_decide_eq_false (Bool.eq_false_iff.mpr h)
          exact ⟨rfl, rfl, rfl, by rw [← TL.len_tl]; omega⟩
    · rintro σ' H' ⟨rfl, rfl, h1, h2⟩
      unfold okN at k
      rw [h1, decide_eq_true h2] at k
      refine ⟨_, rfl, rfl, _, rfl, ?_⟩
      rw [str_is0]
      revert k
      cases (tl x == [48]) with
      | true => exact fun k => iteT k
      | false =>
        intro k
        refine iteF ⟨_, rfl, ⟨_, rfl⟩, _, _, rfl, rfl, _, rfl, ?_⟩
        rw [starts0]
        exact k
end
/-! ### reading a number: the law's own reading -/
theorem okN_iff {l : List Nat} : okN l = true ↔ l ≠ [] ∧ NumText.AllDigits l ∧ l.length ≤ 4 ∧ (l = [48] ∨ l.head? ≠ some 48) := by
  unfold okN NumText.AllDigits
  simp [dig, Bool.and_eq_true, and_assoc]
theorem okN_one {l : List Nat} (h1 : 1 ≤ l.length) (h2 : l.length ≤ 4) (h3 : ¬ (1 < l.length ∧ l.head? = some 48)) (h4 : NumText.AllDigits l) : okN l = true := by
  refine okN_iff.mpr ⟨fun z => by rw [z] at h1; exact absurd h1 (by decide), h4, h2, ?_⟩
  by_cases h : l.head? = some 48
  · refine .inl ?_
    cases l with
    | nil => cases h
    | cons a r =>
      have e : a = 48 := by simpa using h
      cases r with
      | nil => rw [e]
      | cons b r => exact absurd ⟨by simp, h⟩ h3
  · exact .inr h
theorem okN_no {l : List Nat} (h : l.length < 1 ∨ 4 < l.length ∨ (1 < l.length ∧ l.head? = some 48) ∨ ∃ c ∈ l, dig c = false) : okN l = false := by
  rw [Bool.eq_false_iff]
  intro z
  obtain ⟨z1, z2, z3, z4⟩ := okN_iff.mp z
  rcases h with h | h | ⟨h, h'⟩ | ⟨c, hc, h⟩
  · exact z1 (List.length_eq_zero_iff.mp (by omega))
  · omega
  · rcases z4 with z4 | z4
    · rw [z4] at h
      exact absurd h (by decide)
    · exact z4 h'
  · have := z2 c hc
    unfold dig at h
    rw [decide_eq_true this.1, decide_eq_true this.2] at h
    cases h
theorem val_snoc (l : List Nat) (c : Nat) : val (l ++ [c]) = val l * 10 + (c - 48) := by
  unfold val NumText.digitsVal
  rw [List.foldl_append]
  rfl
theorem fold_bound : ∀ (l : List Nat) (a : Nat), NumText.AllDigits l → l.foldl (fun acc c => acc * 10 + (c - 48)) a < (a + 1) * 10 ^ l.length
  | [], a, _ => by simp
  | c :: r, a, h => by
    have hc := h.head
    have ih := fold_bound r (a * 10 + (c - 48)) h.tail
    rw [List.foldl_cons, List.length_cons]
    refine Nat.lt_of_lt_of_le ih ?_
    have e : (a + 1) * 10 ^ (r.length + 1) = ((a + 1) * 10) * 10 ^ r.length := by rw [Nat.pow_succ, Nat.mul_comm (10 ^ r.length) 10, Nat.mul_assoc]
    rw [e]
    exact Nat.mul_le_mul_right _ (by omega)
theorem val_lt {l : List Nat} (h : okN l = true) : val l < 10000 := by
  obtain ⟨_, h1, h2, _⟩ := okN_iff.mp h
  have e := fold_bound l 0 h1
  have e2 : 10 ^ l.length ≤ 10 ^ 4 := Nat.pow_le_pow_right (by decide) h2
  unfold val NumText.digitsVal
  omega
theorem okN_numL {n : Nat} (h : n < 10000) : okN (TL.numL n) = true := by
  have hl : (TL.numL n).length ≤ 4 := TL.numL_len (by decide) h
  have head : ∀ n : Nat, 0 < n → (TL.numL n).head? ≠ some 48 := fun n => by
    induction n using Nat.strongRecOn with
    | _ n ih =>
      intro h0
      by_cases hn : n < 10
      · rw [TL.numL_lt hn]
        simp
        omega
      · rw [TL.numL_step (by omega)]
        have := ih (n / 10) (by omega) (by omega)
        cases e : TL.numL (n / 10) with
        | nil => exact absurd e (TL.numL_ne _)
        | cons a r =>
          rw [e] at this
          exact this
  refine okN_iff.mpr ⟨TL.numL_ne n, TL.numL_digits n, hl, ?_⟩
  by_cases h0 : n = 0
  · subst h0
    exact .inl (TL.numL_lt (by decide))
  · exact .inr (head n (by omega))
theorem int_ok {x : Str} (h : okN (tl x) = true) : intText? x = some ((val (tl x) : Nat) : Int) := by
  obtain ⟨h1, h2, h3, _⟩ := okN_iff.mp h
  exact intText_digits h2 h1 (by rw [TL.len_tl]; exact Nat.le_trans h3 (by decide))
/-- the law's reading: None, or the number -/
def numV (l : List Nat) : V := if okN l = true then .int (val l : Nat) else .non
def spNum : Sp := fun vs H Q _ => ∃ x : Str, vs = [.str x] ∧ Asc x ∧ x.length ≤ 1000 ∧ Q (numV (tl x)) H
theorem sign_is0 {c : Nat} : decide (V.str ⟨#[c]⟩ = V.str ("0" : Str)) = decide (c = 48) := by
  rw [str_is0]
  show ([c] == [48]) = _
  rw [Bool.eq_iff_iff, beq_iff_eq, decide_eq_true_iff]
  simp
section
variable {P : Program} {w : World} {K : PySem.W.Frag} {mg : Str → Option Value} {base : Heap}
theorem ok_l_due (T : Ctx K mg) : FnOk P w K mg base CX0 1 T.f_l_due T.fd_l_due ["_law_text"] spNum := by
  refine T.F_l_due.ok sc_l_due (fun vs H Q E h => ?_) (fun cdv A outer s H vs Q E hr h => ?_)
  · obtain ⟨x, rfl, _⟩ := h
    rfl
  · obtain ⟨x, rfl, ax, hl, k⟩ := h
    refine ⟨_, (Evl.pss_cut (ps_if (PW.pt (pw_or (pt_cmpR op_lt (pe_callB call_len_str (by rfl) T.m_len (by decide +kernel) (pa_cons (pv 0) pa_nil)) pe_int (nomark _)) (pw_or (pt_cmpR op_gt (pe_callB call_len_str (by rfl) T.m_len (by decide +kernel) (pa_cons (pv 0) pa_nil)) pe_int (nomark _)) (pw_or1 (PW.pt (pw_and (pt_cmpR op_gt (pe_callB call_len_str (by rfl) T.m_len (by decide +kernel) (pa_cons (pv 0) pa_nil)) pe_int (nomark _)) (pw_and1 (pt_cmpR op_eq (pe_ix ix_str (pv 0) pe_int (fun _ _ => rfl)) pe_str (nomark _)))))))))
        (pss_one (ps_ret pe_non))
        pss_nil)
      (pss_cons (ps_set (i := 1) sc_l_due.nd rfl (Or.inl rfl) pe_int)
      (pss_cons (ps_for PassesOwn.never rfl (pi_str (pv 0)) (pg_name (i := 2) sc_l_due.nd rfl (Or.inl rfl))
        (pss_cons (ps_set (i := 3) sc_l_due.nd rfl (Or.inl rfl) (pe_m1 PySem.F.slot_str_find PySem.F.type_str_find mt_find pe_str (pv 2)))
        (pss_cons (ps_if (pt_cmpR op_lt (pv 3) pe_int (nomark _))
          (pss_one (ps_ret pe_non))
          pss_nil)
        (pss_one (ps_set (i := 1) sc_l_due.nd rfl (Or.inl rfl) (pe_op op_add (pe_op op_mul (pv 1) pe_int) (pv 3)))))))
      (pss_one (ps_ret (pv 1)))))), ?_⟩
    have hl' : x.length ≤ sizeLine := Nat.le_trans hl (by decide)
    have no : okN (tl x) = false → Q .non H := fun h => by
      unfold numV at k
      rw [h] at k
      exact k
    have lt := TL.len_tl x
    refine ⟨fun σ' H' => σ' = [some (.str x), none, none, none] ∧ H' = H ∧ 1 ≤ (tl x).length ∧ (tl x).length ≤ 4 ∧ ¬ (1 < (tl x).length ∧ (tl x).head? = some 48), ?_, ?_⟩
    · refine ⟨_, rfl, _, rfl, hl', _, _, rfl, rfl, _, rfl, ite2 (fun h => ?_) fun h => ?_⟩
      · have h := of_decide_eq_true h
        exact iteT (no (okN_no (.inl (by omega))))
      have h1 := of_decide_eq_false (Bool.eq_false_iff.mpr h)
      refine ⟨_, rfl, _, rfl, hl', _, _, rfl, rfl, _, rfl, ite2 (fun h => ?_) fun h => ?_⟩
      · have h := of_decide_eq_true h
        exact iteT (no (okN_no (.inr (.inl (by omega)))))
      have h2 := of_decide_eq_false (Bool.eq_false_iff.mpr h)
      refine ⟨_, rfl, _, rfl, hl', _, _, rfl, rfl, _, rfl, ite2 (fun h => ?_) fun h => ?_⟩
      · have h3 := of_decide_eq_true h
        obtain ⟨c, r, e⟩ : ∃ c r, tl x = c :: r := by
          cases e : tl x with
          | nil =>
            rw [e] at lt
            have : x.length = 0 := lt
            omega
          | cons c r => exact ⟨c, r, rfl⟩
        refine ⟨_, rfl, x, 0, c, rfl, rfl, hl', atI_nat (xs := tl x) (j := 0) (by rw [e] <;> rfl), rfl, _, rfl, ?_⟩
        rw [sign_is0]
        refine ite2 (fun h => ?_) fun h => ?_
        · have h := of_decide_eq_true h
          exact no (okN_no (.inr (.inr (.inl ⟨by omega, by rw [e, h] <;> rfl⟩))))
        · have h := of_decide_eq_false (Bool.eq_false_iff.mpr h)
          exact ⟨rfl, rfl, by omega, by omega, fun z => by rw [e] at z; exact h (by simpa using z.2)⟩
      · have h3 := of_decide_eq_false (Bool.eq_false_iff.mpr h)
        exact iteF ⟨rfl, rfl, by omega, by omega, fun z => by omega⟩
    · rintro σ' H' ⟨rfl, rfl, h1, h2, h3⟩
      have hsz : x.cps.size = (tl x).length := by simp [tl]
      refine ⟨_, rfl, x, rfl, for_it walk_str (fun i σ H1 => H1 = H' ∧ ∃ s a, σ = [some (.str x), some (.int (val ((tl x).take i) : Nat)), s, a] ∧ NumText.AllDigits ((tl x).take i))
        ⟨rfl, _, _, rfl, fun c hc => by simp at hc⟩ (fun _ _ _ _ _ => trivial) ?_ ?_⟩
      · rintro i v σ H1 H2 hi ⟨rfl, s, a, rfl, ad⟩ ⟨rfl, c, hc, rfl⟩
        have hc' : (tl x)[i]? = some c := by rw [← hc]; simp [tl]
        have cm : c ∈ tl x := List.mem_of_getElem? hc'
        have snoc : (tl x).take (i + 1) = (tl x).take i ++ [c] := by rw [List.take_add_one, hc'] <;> rfl
        refine ⟨⟨_, rfl⟩, _, rfl, _, _, rfl, rfl, ?_⟩
        rw [find_dig (ax c cm)]
        cases hd : dig c with
        | false => exact ⟨_, rfl, _, _, rfl, rfl, _, rfl, iteT (no (okN_no (.inr (.inr (.inr ⟨c, cm, hd⟩)))))⟩
        | true =>
          have hd' := hd
          unfold dig at hd'
          rw [Bool.and_eq_true, decide_eq_true_iff, decide_eq_true_iff] at hd'
          refine ⟨_, rfl, _, _, rfl, rfl, _, rfl, ite2 (fun h => ?_) fun h => ?_⟩
          · have h := of_decide_eq_true h
            rw [if_pos rfl] at h
            omega
          · refine ⟨_, rfl, _, _, rfl, rfl, .inr ⟨by decide, by decide⟩, _, rfl, _, _, rfl, rfl, rfl, some (.str ⟨#[c]⟩), some (.int (if true = true then (c : Int) - 48 else -1)), ?_, ?_⟩
            · rw [snoc, val_snoc]
              have : (((val ((tl x).take i) * 10 + (c - 48) : Nat)) : Int) = (val ((tl x).take i) : Nat) * 10 + ((c : Int) - 48) := by omega
              rw [this]
              rfl
            · rw [snoc]
              intro d hd2
              rcases List.mem_append.mp hd2 with h | h
              · exact ad d h
              · rw [List.mem_singleton.mp h]
                exact hd'
      · rintro σ H1 ⟨rfl, s, a, rfl, ad⟩
        rw [hsz, List.take_length] at ad ⊢
        unfold numV at k
        rw [okN_one h1 h2 h3 ad] at k
        exact ⟨_, rfl, k⟩
end

open TL (tl)
def spLaw (K : PySem.W.Frag) : Sp := fun vs H Q _ => ∃ (a : Addr) (ns : List Int), vs = [.ref a] ∧ SqL K H a (ns.map V.int) ∧ ns.length ≤ 63 ∧ ∀ H', Q (.bl true) H'
def spReadN (CB : Addr) : Sp := fun vs H Q E => ∃ x : Str, vs = [.str x] ∧ Asc x ∧ x.length ≤ 600 ∧ (okN (tl x) = true → Q (.int (val (tl x) : Nat)) H) ∧
  (okN (tl x) = false → ∀ d H', H d = none → Same H H' → H' d = some (.xd [("value", .str x), ("what", .str "number")]) → E (.ref CB) (some d) H')
def spHolds : Sp := fun vs H Q _ => ∃ x : Str, vs = [.str x] ∧ Asc x ∧ x.length ≤ 600 ∧ ∀ H', Same H H' → Q (.bl true) H'
section
variable {P : Program} {w : World} {K : PySem.W.Frag} {mg : Str → Option Value} {base : Heap}
theorem ok_BadNumber_init (T : Ctx K mg) : FnOk P w K mg base CX0 1 T.f_BadNumber_init T.fd_BadNumber_init ["self", "what", "value"] (spX2 T.c_BadNumber "what" "value") := by
  refine T.F_BadNumber_init.ok sc_BadNumber_init (fun vs H Q E h => ?_) (fun cdv A outer s H vs Q E hr h => ?_)
  · obtain ⟨a, x, y, rfl, _⟩ := h
    rfl
  · obtain ⟨a, x, y, rfl, ha, q⟩ := h
    refine ⟨_, (pss_cons (ps_ost (pv 0) (pv 1))
      (pss_one (ps_ost (pv 0) (pv 2)))), ?_⟩
    refine ⟨_, rfl, _, rfl, a, T.c_BadNumber, rfl, T.ox_BadNumber, T.n_BadNumber_what, .inl ⟨ha, fun d hd hda => ?_⟩⟩
    refine ⟨_, rfl, _, rfl, a, T.c_BadNumber, rfl, T.ox_BadNumber, T.n_BadNumber_value, .inr ⟨d, [("what", x)], upd_same, ?_, by show 1 ≤ 900; decide, ?_⟩⟩
    · rw [upd_ne hda, upd_same]
    · exact q d hd hda
theorem ok_l_is_integer (T : Ctx K mg) : FnOk P w K mg base CX0 1 T.f_l_is_integer T.fd_l_is_integer ["_law_actual"] (spIsInt K) := by
  refine T.F_l_is_integer.ok sc_l_is_integer (fun vs H Q E h => ?_) (fun cdv A outer s H vs Q E hr h => ?_)
  · obtain ⟨x, rfl, _⟩ := h
    rfl
  · obtain ⟨x, rfl, ⟨t, b1, b2, ty, k1, k2, e⟩, q⟩ := h
    refine ⟨_, (pss_one (ps_ret (pe_and (pe_callB call_isi (by rfl) T.m_isinstance (by decide +kernel) (pa_cons (pv 0) (pa_cons (pe_bltn (v := .ty "int") (by rfl) T.m_int (by decide +kernel) rfl) pa_nil))) (pe_one (pe_not (pe_callB call_isi (by rfl) T.m_isinstance (by decide +kernel) (pa_cons (pv 0) (pa_cons (pe_bltn (v := .ty "bool") (by rfl) T.m_bool (by decide +kernel) rfl) pa_nil)))))))), ?_⟩
    refine ⟨_, rfl, _, _, _, _, _, rfl, .ty _, ty, k1, b1, rfl, ?_⟩
    rw [← e] at q
    cases b1 with
    | false => exact iteF q
    | true => exact iteT ⟨_, rfl, _, _, _, _, _, rfl, .ty _, ty, k2 rfl, b2, rfl, q⟩
theorem ok_read_number (T : Ctx K mg) : FnOk P w K mg base (L2.CX P w) 3 T.f_read_number T.fd_read_number ["text"] (spReadN T.c_BadNumber) := by
  refine T.F_read_number.okX sc_read_number (fun vs H Q E h => ?_) (fun cdv A outer s H vs Q E hr h => ?_)
  · obtain ⟨x, rfl, _⟩ := h
    rfl
  · obtain ⟨x, rfl, ax, hl, k1, k2⟩ := h
    refine ⟨_, (pss_cons (ps_if (pt_not (pt_val (pe_call (ok_is_number T) (hr.mono (by decide)) (by rfl) T.g_is_number T.F_is_number.kp T.b_is_number .nil pass0 (pa_cons (pv 0) pa_nil))))
        (pss_one (ps_raise rfl (takes_of rfl rfl rfl rfl) (pmk_oex T.ox_BadNumber T.xn_BadNumber T.xt_BadNumber (ok_BadNumber_init T) (hr.mono (by decide)) T.b_BadNumber_init .nil pass0 (by rfl) T.gc_BadNumber (pa_cons pe_str (pa_cons (pv 0) pa_nil)))))
        pss_nil)
      (pss_one (ps_ret (pe_callTy call_int_str (by rfl) T.m_int (by decide +kernel) (pa_cons (pv 0) pa_nil))))), ?_⟩
    have hl' : x.length ≤ sizeLine := Nat.le_trans hl (by decide)
    refine ⟨_, rfl, x, rfl, ax, hl', _, rfl, ?_⟩
    cases hok : okN (tl x) with
    | false => exact iteT ⟨_, rfl, mk2 (k2 hok)⟩
    | true => exact iteF ⟨_, rfl, x, _, rfl, int_ok hok, Nat.le_trans hl (by decide), k1 hok⟩
theorem ok_l_holds (T : Ctx K mg) : FnOk P w K mg base CX0 4 T.f_l_holds T.fd_l_holds ["_law_text"] spHolds := by
  refine T.F_l_holds.ok sc_l_holds (fun vs H Q E h => ?_) (fun cdv A outer s H vs Q E hr h => ?_)
  · obtain ⟨x, rfl, _⟩ := h
    rfl
  · obtain ⟨x, rfl, ax, hl, k⟩ := h
    refine ⟨_, (pss_cons (ps_set (i := 1) sc_l_holds.nd rfl (Or.inl rfl) pe_non)
      (pss_cons (ps_set (i := 2) sc_l_holds.nd rfl (Or.inl rfl) pe_non)
      (pss_cons (ps_try_keep (ix := 3) rfl rfl rfl sc_l_holds.nd rfl rfl ⟨rfl, by decide, Or.inl T.gc_BadNumber⟩
        (fun W pn xe tk po => (pss_one (ps_set (i := 1) sc_l_holds.nd rfl (Or.inl rfl) (pe_callS (ok_read_number T) (hr.mono (by decide)) rfl T.g_read_number T.F_read_number.kp T.b_read_number (fun σ => passAt tk σ) (pa_cons (pv 0) pa_nil)))))
        (fun a oe cls d pn hz hf => (pss_one (ps_set (i := 2) sc_l_holds.nd rfl (Or.inl rfl) (pv 3)))))
      (pss_cons (ps_set (i := 4) sc_l_holds.nd rfl (Or.inl rfl) (pe_call (ok_l_due T) (hr.mono (by decide)) (by rfl) T.g_l_due T.F_l_due.kp T.b_l_due .nil pass0 (pa_cons (pv 0) pa_nil)))
      (pss_cons (ps_if (pt_cmpR op_isN (pv 4) pe_non (nomark _))
        (Evl.pss_cut (ps_if (PW.pt (pw_or (pt_cmpR op_isN (pv 2) pe_non (nomark _)) (pw_or1 (pt_val (pe_callB call_isK (by rfl) T.m_isinstance (by decide +kernel) (pa_cons (pv 2) (pa_cons (pe_glob (v := .ref T.c_BadLot) (by rfl) T.gc_BadLot rfl) pa_nil)))))))
          (pss_one (ps_ret pe_bl))
          pss_nil)
        (pss_one (ps_ret (pe_and (pe_cmpR op_eq (pe_kf (pv 2)) pe_str (nomark _)) (pe_one (pe_cmpR op_eq (pe_kf (pv 2)) (pv 0) (nomark _)))))))
        pss_nil)
      (pss_one (ps_ret (pe_and (pe_cmpR op_isN (pv 2) pe_non (nomark _)) (pe_and (pe_call (ok_l_is_integer T) (hr.mono (by decide)) (by rfl) T.g_l_is_integer T.F_l_is_integer.kp T.b_l_is_integer .nil pass0 (pa_cons (pv 1) pa_nil)) (pe_one (pe_cmpR op_eq (pv 1) (pv 4) (nomark _)))))))))))), ?_⟩
    refine ⟨_, rfl, x, rfl, ax, hl, fun hok => ?_, fun hok d H' nd sm hx => ?_⟩
    · refine ⟨_, rfl, x, rfl, ax, Nat.le_trans hl (by decide), ?_⟩
      have e : numV (tl x) = .int (val (tl x) : Nat) := by unfold numV; rw [hok] <;> rfl
      rw [e]
      refine ⟨_, rfl, rfl, _, rfl, iteF ?_⟩
      refine ⟨_, rfl, rfl, _, rfl, iteT ⟨_, rfl, _, rfl, kn_int _, _, rfl, iteT ⟨_, rfl, _, rfl, rfl, ?_⟩⟩⟩
      simpa using k H (Same.refl _)
    · refine ⟨T.ex_BadNumber_BadNumber, fun p np => ⟨_, rfl, ?_⟩⟩
      have e : numV (tl x) = .non := by unfold numV; rw [hok] <;> rfl
      refine ⟨_, rfl, x, rfl, ax, Nat.le_trans hl (by decide), ?_⟩
      rw [e]
      have ne : d ≠ p := ne_of_none hx np
      have hd : upd H' p (Kept (.ref T.c_BadNumber) (some d) p) d = some (.xd [("value", .str x), ("what", .str "number")]) := by
        rw [upd_ne ne]
        exact hx
      have sm' := same_upd2 (o := Kept (.ref T.c_BadNumber) (some d) p) sm (sm.free np)
      have hp : upd H' p (Kept (.ref T.c_BadNumber) (some d) p) p = some (Kept (.ref T.c_BadNumber) (some d) p) := upd_same
      revert hp hd sm'
      generalize upd H' p (Kept (.ref T.c_BadNumber) (some d) p) = H2
      intro hd sm' hp
      refine ⟨_, rfl, rfl, _, rfl, iteT ?_⟩
      refine ⟨fun σ' H3 => H3 = H2 ∧ ∃ v1 v3 v4, σ' = [some (.str x), v1, some (.ref p), v3, v4], ?_, ?_⟩
      · refine ⟨_, rfl, rfl, _, rfl, iteF ?_⟩
        refine ⟨_, rfl, p, T.c_BadNumber, some d, _, _, false, rfl, hp, fun d' e => by cases e; exact ⟨_, hd⟩, T.xi_BadNumber, .own _, T.ki_BadNumber_BadLot, _, rfl, iteF ⟨rfl, _, _, _, rfl⟩⟩
      · rintro σ' H3 ⟨rfl, v1, v3, v4, rfl⟩
        refine ⟨_, rfl, p, T.c_BadNumber, d, _, _, rfl, hp, hd, T.xf_BadNumber, T.n_BadNumber_what, rfl, rfl, _, rfl, ?_⟩
        refine iteT ⟨_, rfl, p, T.c_BadNumber, d, _, _, rfl, hp, hd, T.xf_BadNumber, T.n_BadNumber_value, rfl, _, rfl, rfl, ?_⟩
        simpa using k _ sm'
/-- texts of the draws -/
theorem asc_app {x y : Str} (h1 : Asc x) (h2 : Asc y) : Asc (x ++ y) := fun c hc => by
  rw [TL.tl_append] at hc
  rcases List.mem_append.mp hc with h | h
  · exact h1 c h
  · exact h2 c h
theorem asc_cut {x : Str} (h : Asc x) (lo hi : Option Int) : Asc (cutS x lo hi) := fun c hc => by
  have hc : c ∈ ((tl x).drop (HT.sIx x.length 0 lo)).take (HT.sIx x.length x.length hi - HT.sIx x.length 0 lo) := hc
  exact h c (List.mem_of_mem_drop (List.mem_of_mem_take hc))
theorem len_app (x y : Str) : (x ++ y).length = x.length + y.length := by rw [TL.len_tl, TL.len_tl, TL.len_tl, TL.tl_append, List.length_append]
instance (x : Str) : Decidable (Asc x) := inferInstanceAs (Decidable (∀ c ∈ tl x, c < 128))
theorem asc_num {x : Int} (h1 : 0 ≤ x) (h2 : x < 10) : Asc (toString x : String) ∧ ((toString x : String) : Str).length = 1 := by
  obtain ⟨n, rfl⟩ := Int.eq_ofNat_of_zero_le h1
  have e : tl ((toString (n : Int) : String) : Str) = [48 + n] := (TL.tl_num n).trans (TL.numL_lt (by omega))
  refine ⟨fun c hc => ?_, by rw [TL.len_tl, e] <;> rfl⟩
  rw [e] at hc
  have := List.mem_singleton.mp hc
  omega
def Ls : List Str := ["", "0", "00", "01", "9999", "10000", " 1", "1 ", "-1", "+1", "1\n", "1_0"]
theorem Ls_ok : ∀ x ∈ Ls, Asc x ∧ x.length ≤ 600 := by decide +kernel
theorem ok_law (T : Ctx K mg) : FnOk P w K mg base CX0 6 T.f_law T.fd_law ["_law_script"] (spLaw K) := by
  refine T.F_law.ok sc_law (fun vs H Q E h => ?_) (fun cdv A outer s H vs Q E hr h => ?_)
  · obtain ⟨l, ns, rfl, _⟩ := h
    rfl
  · obtain ⟨l, ns, rfl, hS, hlen, q⟩ := h
    refine ⟨_, (pss_cons (ps_set (i := 1) sc_law.nd rfl (Or.inl rfl) (pe_call (ok_l_start T) (hr.mono (by decide)) (by rfl) T.g_l_start T.F_l_start.kp T.b_l_start .nil pass0 (pa_cons (pv 0) pa_nil)))
      (pss_cons (ps_set (i := 2) sc_law.nd rfl (Or.inl rfl) pe_str)
      (pss_cons (ps_for PassesOwn.never rfl (pi_range1 (by rfl) T.m_range (pa_cons (pe_call (ok_l_draw T) (hr.mono (by decide)) (by rfl) T.g_l_draw T.F_l_draw.kp T.b_l_draw .nil pass0 (pa_cons (pv 0) (pa_cons (pv 1) (pa_cons pe_int pa_nil)))) pa_nil)) (pg_name (i := 3) sc_law.nd rfl (Or.inl rfl))
        (pss_one (ps_set (i := 2) sc_law.nd rfl (Or.inl rfl) (pe_op op_add_str (pv 2) (pe_callTy call_str_int (by rfl) T.m_str (by decide +kernel) (pa_cons (pe_call (ok_l_draw T) (hr.mono (by decide)) (by rfl) T.g_l_draw T.F_l_draw.kp T.b_l_draw .nil pass0 (pa_cons (pv 0) (pa_cons (pv 1) (pa_cons pe_int pa_nil)))) pa_nil))))))
      (Evl.pss_cut (ps_if (pt_cmpR op_eq (pe_call (ok_l_draw T) (hr.mono (by decide)) (by rfl) T.g_l_draw T.F_l_draw.kp T.b_l_draw .nil pass0 (pa_cons (pv 0) (pa_cons (pv 1) (pa_cons pe_int pa_nil)))) pe_int (nomark _))
        (pss_one (ps_set (i := 2) sc_law.nd rfl (Or.inl rfl) (pe_op op_add_str pe_str (pv 2))))
        pss_nil)
      (Evl.pss_cut (ps_if (PW.pt (pw_and (pt_cmpR op_eq (pe_call (ok_l_draw T) (hr.mono (by decide)) (by rfl) T.g_l_draw T.F_l_draw.kp T.b_l_draw .nil pass0 (pa_cons (pv 0) (pa_cons (pv 1) (pa_cons pe_int pa_nil)))) pe_int (nomark _)) (pw_and1 (pt_cmpR op_gt (pe_callB call_len_str (by rfl) T.m_len (by decide +kernel) (pa_cons (pv 2) pa_nil)) pe_int (nomark _)))))
        (pss_cons (ps_set (i := 4) sc_law.nd rfl (Or.inl rfl) pe_str)
        (pss_cons (ps_set (i := 5) sc_law.nd rfl (Or.inl rfl) (pe_call (ok_l_draw T) (hr.mono (by decide)) (by rfl) T.g_l_draw T.F_l_draw.kp T.b_l_draw .nil pass0 (pa_cons (pv 0) (pa_cons (pv 1) (pa_cons (pe_callB call_len_str (by rfl) T.m_len (by decide +kernel) (pa_cons (pv 2) pa_nil)) pa_nil)))))
        (pss_one (ps_set (i := 2) sc_law.nd rfl (Or.inl rfl) (pe_op op_add_str (pe_op op_add_str (pe_slice sl_str (pv 2) po_none (po_some (pv 5))) (pe_ix ix_str (pv 4) (pe_call (ok_l_draw T) (hr.mono (by decide)) (by rfl) T.g_l_draw T.F_l_draw.kp T.b_l_draw .nil pass0 (pa_cons (pv 0) (pa_cons (pv 1) (pa_cons (pe_callB call_len_str (by rfl) T.m_len (by decide +kernel) (pa_cons (pv 4) pa_nil)) pa_nil)))) (fun _ _ => rfl))) (pe_slice sl_str (pv 2) (po_some (pe_op op_add (pv 5) pe_int)) po_none))))))
        pss_nil)
      (pss_cons (ps_set (i := 4) sc_law.nd rfl (Or.inl rfl) (pe_lst (pa_cons pe_str (pa_cons pe_str (pa_cons pe_str (pa_cons pe_str (pa_cons pe_str (pa_cons pe_str (pa_cons pe_str (pa_cons pe_str (pa_cons pe_str (pa_cons pe_str (pa_cons pe_str (pa_cons pe_str pa_nil))))))))))))))
      (pss_cons (ps_for PassesOwn.never rfl (pi_list (pe_op op_cat (pe_lst (pa_cons (pv 2) pa_nil)) (pv 4))) (pg_name (i := 6) sc_law.nd rfl (Or.inl rfl))
        (pss_one (ps_if (pt_not (pt_val (pe_call (ok_l_holds T) (hr.mono (by decide)) (by rfl) T.g_l_holds T.F_l_holds.kp T.b_l_holds .nil pass0 (pa_cons (pv 6) pa_nil))))
          (pss_one (ps_ret pe_bl))
          pss_nil)))
      (pss_one (ps_ret pe_bl))))))))), ?_⟩
    refine ⟨_, rfl, l, ns, rfl, hS, fun t H1 nt D1 b1 => ?_⟩
    refine ⟨_, rfl, _, rfl, l, t, 7, H, rfl, D1, by decide, by decide, fun x H2 a1 a2 b2 D2 => ?_⟩
    have e600 : (600 : Nat) ≤ sizeLine := by decide
    refine ⟨x, rfl, by omega, by omega, for_range (n := x.toNat) (fun i σ H' => Drw K H l t H' ∧ ∃ z v3, Asc z ∧ z.length ≤ i ∧ σ = [some (.ref l), some (.ref t), some (.str z), v3, none, none, none])
      ⟨D2, ("" : Str), _, by decide +kernel, by decide +kernel, rfl⟩ ?_ ?_⟩
    · rintro i σ H3 hi ⟨D3, z, v3, az, lz, rfl⟩
      refine ⟨_, rfl, _, rfl, _, rfl, l, t, 10, H, rfl, D3, by decide, by decide, fun x2 H4 a3 a4 b4 D4 => ?_⟩
      obtain ⟨n1, n2⟩ := asc_num a3 a4
      refine ⟨_, rfl, Nat.lt_trans (PySem.Flt.log2_lt_of (show 0 < 20 by decide) (show x2.natAbs < 2 ^ 20 by omega)) (by decide), _, _, rfl, rfl, by omega, D4, _, _, asc_app az n1, ?_, rfl⟩
      rw [len_app]
      omega
    · rintro σ H3 ⟨D3, z, v3, az, lz, rfl⟩
      have lz : z.length ≤ 6 := by omega
      refine ⟨fun σ' H' => Drw K H l t H' ∧ ∃ z, Asc z ∧ z.length ≤ 7 ∧ σ' = [some (.ref l), some (.ref t), some (.str z), v3, none, none, none], ?_, ?_⟩
      · refine ⟨_, rfl, _, rfl, l, t, 4, H, rfl, D3, by decide, by decide, fun x3 H4 a5 a6 b4 D4 => ⟨rfl, _, rfl, ite2 (fun h => ?_) fun h => ⟨D4, z, az, by omega, rfl⟩⟩⟩
        have e1 : ("0" : Str).length = 1 := rfl
        refine ⟨_, rfl, _, _, rfl, rfl, by omega, D4, _, asc_app (by decide +kernel) az, ?_, rfl⟩
        rw [len_app]
        omega
      · rintro σ' H4 ⟨D4, z, az, lz, rfl⟩
        refine ⟨fun σ' H' => Drw K H l t H' ∧ ∃ z v4 v5, Asc z ∧ z.length ≤ 600 ∧ σ' = [some (.ref l), some (.ref t), some (.str z), v3, v4, v5, none], ?_, ?_⟩
        · have hzl : z.length ≤ sizeLine := by omega
          have stay : ∀ {H'}, Drw K H l t H' → Drw K H l t H' ∧ ∃ z' v4 v5, Asc z' ∧ z'.length ≤ 600 ∧ [some (V.ref l), some (.ref t), some (.str z), v3, none, none, none] = [some (.ref l), some (.ref t), some (.str z'), v3, v4, v5, none] := fun D => ⟨D, z, _, _, az, by omega, rfl⟩
          refine ⟨_, rfl, _, rfl, l, t, 3, H, rfl, D4, by decide, by decide, fun x3 H5 a5 a6 b4 D5 => ⟨rfl, _, rfl, ite2 (fun h => ?_) fun h => iteF (stay D5)⟩⟩
          refine ⟨_, rfl, z, rfl, hzl, _, _, rfl, rfl, _, rfl, ite2 (fun h => ?_) fun h => stay D5⟩
          have hpos := of_decide_eq_true h
          refine ⟨_, rfl, _, rfl, _, rfl, z, rfl, hzl, l, t, _, H, rfl, D5, hpos, by omega, fun x4 H6 a7 a8 b6 D6 => ?_⟩
          refine ⟨_, rfl, _, rfl, _, rfl, z, rfl, hzl, ?_⟩
          refine ⟨_, rfl, _, rfl, _, rfl, _, rfl, ("-+a .,_\n" : Str), rfl, (by decide), l, t, _, H, rfl, D6, by decide, by decide, fun x5 H7 a9 a10 b7 D7 => ?_⟩
          obtain ⟨c, hc, hc2⟩ : ∃ c, atI (tl ("-+a .,_\n" : Str)) x5 = some c ∧ c < 128 := by
            have e7 : ((("-+a .,_\n" : Str).length : Nat) : Int) = 8 := rfl
            rw [e7] at a10
            have : x5 = 0 ∨ x5 = 1 ∨ x5 = 2 ∨ x5 = 3 ∨ x5 = 4 ∨ x5 = 5 ∨ x5 = 6 ∨ x5 = 7 := by omega
            rcases this with rfl | rfl | rfl | rfl | rfl | rfl | rfl | rfl
            all_goals exact ⟨_, rfl, by decide⟩
          have c1 := cutS_length z none (some x4)
          have c2 := cutS_length z (some (x4 + 1)) none
          have e1 : (⟨#[c]⟩ : Str).length = 1 := rfl
          have e2 : (cutS z none (some x4) ++ (⟨#[c]⟩ : Str)).length = (cutS z none (some x4)).length + 1 := len_app _ _
          have e3 : ((cutS z none (some x4) ++ (⟨#[c]⟩ : Str)) ++ cutS z (some (x4 + 1)) none).length = (cutS z none (some x4) ++ (⟨#[c]⟩ : Str)).length + (cutS z (some (x4 + 1)) none).length := len_app _ _
          refine ⟨_, _, c, rfl, rfl, (by decide), hc, _, _, rfl, rfl, by omega, ?_⟩
          refine ⟨_, rfl, _, rfl, _, _, rfl, rfl, _, rfl, z, rfl, hzl, _, _, rfl, rfl, by omega, D7, _, _, _, asc_app (asc_app (asc_cut az _ _) fun d hd => ?_) (asc_cut az _ _), by omega, rfl⟩
          have hd : d ∈ [c] := hd
          rw [List.mem_singleton.mp hd]
          exact hc2
        · rintro σ' H5 ⟨D5, z, v4, v5, az, lz, rfl⟩
          clear D1 D2 D3 D4
          refine ⟨(by show 12 ≤ sizeLine; decide), fun ol nol => ?_⟩
          refine ⟨_, rfl, (by show 1 ≤ sizeLine; decide), fun ul nul => ?_⟩
          have ne : ol ≠ ul := fun e => by
            rw [← e, upd_same] at nul
            cases nul
          refine ⟨_, rfl, ul, ol, _, _, rfl, rfl, upd_same, ((upd_ne ne).trans upd_same), (by show 13 ≤ sizeLine; decide), fun pl npl => ?_⟩
          have hl4 : ∀ H : Hp, (upd H pl (.lst ([V.str z] ++ Ls.map V.str))) pl = some (.lst ((z :: Ls).map V.str)) := fun H => upd_same
          refine ⟨pl, rfl, ⟨_, SqL.of (hl4 _)⟩, for_list (K := K) (a := pl) (xs := (z :: Ls).map V.str)
            (fun j σ H' => H' pl = some (.lst ((z :: Ls).map V.str)) ∧ ∃ v6, σ = [some (.ref l), some (.ref t), some (.str z), v3, some (.ref ol), v5, v6])
            ⟨hl4 _, _, rfl⟩ (fun i σ H' _ ⟨s1, _⟩ => SqL.of s1) ?_ ?_⟩
          · rintro j v σ H7 hj ⟨hp, v6, rfl⟩
            rw [List.getElem?_map] at hj
            cases hx : (z :: Ls)[j]? with
            | none =>
              rw [hx] at hj
              cases hj
            | some y =>
              rw [hx] at hj
              cases hj
              have ok : Asc y ∧ y.length ≤ 600 := by
                rcases List.mem_cons.mp (List.mem_of_getElem? hx) with rfl | m
                · exact ⟨az, lz⟩
                · exact Ls_ok y m
              exact ⟨_, rfl, y, rfl, ok.1, ok.2, fun H8 s8 => ⟨_, rfl, iteF ⟨s8 _ _ hp, _, rfl⟩⟩⟩
          · rintro σ H7 ⟨hp, v6, rfl⟩
            exact q _
end
theorem all_mk {l : PySem.W.OpenLaw} {w : World} {K : PySem.W.Frag} {h : Heap} {mg : Str → Option Value} {fa ca_VoteError ca_BadNumber ca_BadLot fa_BadNumber_init fa_is_number fa_read_number fa_l_start fa_l_draw fa_l_is_integer fa_l_due fa_l_holds fa_law : Addr} (X : K.In h) (G : h.Ns mainGlobals mg) (hfa : mg "law" = some (.ref fa))
    {od_BadNumber_init an_BadNumber_init : Option Addr} {sl_BadNumber_init : Array (Option Value)} {oc_BadNumber_init kV_BadNumber_init dc_BadNumber_init pm_BadNumber_init cd_BadNumber_init ct_BadNumber_init : Value}
    {od_is_number an_is_number : Option Addr} {sl_is_number : Array (Option Value)} {oc_is_number kV_is_number dc_is_number pm_is_number cd_is_number ct_is_number : Value}
    {od_read_number an_read_number : Option Addr} {sl_read_number : Array (Option Value)} {oc_read_number kV_read_number dc_read_number pm_read_number cd_read_number ct_read_number : Value}
    {od_l_start an_l_start : Option Addr} {sl_l_start : Array (Option Value)} {oc_l_start kV_l_start dc_l_start pm_l_start cd_l_start ct_l_start : Value}
    {od_l_draw an_l_draw : Option Addr} {sl_l_draw : Array (Option Value)} {oc_l_draw kV_l_draw dc_l_draw pm_l_draw cd_l_draw ct_l_draw : Value}
    {od_l_is_integer an_l_is_integer : Option Addr} {sl_l_is_integer : Array (Option Value)} {oc_l_is_integer kV_l_is_integer dc_l_is_integer pm_l_is_integer cd_l_is_integer ct_l_is_integer : Value}
    {od_l_due an_l_due : Option Addr} {sl_l_due : Array (Option Value)} {oc_l_due kV_l_due dc_l_due pm_l_due cd_l_due ct_l_due : Value}
    {od_l_holds an_l_holds : Option Addr} {sl_l_holds : Array (Option Value)} {oc_l_holds kV_l_holds dc_l_holds pm_l_holds cd_l_holds ct_l_holds : Value}
    {od_law an_law : Option Addr} {sl_law : Array (Option Value)} {oc_law kV_law dc_law pm_law cd_law ct_law : Value}
    {nm_BadNumber q_BadNumber : Str} {N_BadNumber : Addr} {bs_BadNumber bm_BadNumber : List Value} {sn_BadNumber : List Str} {sub_BadNumber : List Value} {ab_BadNumber : Bool} {col_BadNumber : Option Bool} {dd_BadNumber : Option Addr} {m0_BadNumber m1_BadNumber m2_BadNumber m3_BadNumber m5_BadNumber : Option Value}
    {gt_MOST_DIGITS : Tok}
    (aC_VoteError : PySem.W.nsIn K mainGlobals "VoteError" = some (some (.ref ca_VoteError)))
    (aC_BadNumber : PySem.W.nsIn K mainGlobals "BadNumber" = some (some (.ref ca_BadNumber)))
    (aC_BadLot : PySem.W.nsIn K mainGlobals "BadLot" = some (some (.ref ca_BadLot)))
    (a_BadNumber_init : PySem.W.findIn K (.ref ca_BadNumber) "__init__" = some (some (.ref fa_BadNumber_init)))
    (l_BadNumber_init : K.lookup fa_BadNumber_init = some ⟨oc_BadNumber_init, od_BadNumber_init, .func (PySem.W.fnOf "__init__" "BadNumber.__init__" (defArgs s_BadNumber_init) (defBody s_BadNumber_init) (defScope s_BadNumber_init) .none kV_BadNumber_init dc_BadNumber_init pm_BadNumber_init an_BadNumber_init cd_BadNumber_init ct_BadNumber_init), sl_BadNumber_init⟩)
    (cc_BadNumber_init : PySem.W.codeIn K cd_BadNumber_init "BadNumber.__init__" = true)
    (kk_BadNumber_init : PySem.W.keepIn K (.ref fa_BadNumber_init) = true)
    (a_is_number : PySem.W.nsIn K mainGlobals "is_number" = some (some (.ref fa_is_number)))
    (l_is_number : K.lookup fa_is_number = some ⟨oc_is_number, od_is_number, .func (PySem.W.fnOf "is_number" "is_number" (defArgs s_is_number) (defBody s_is_number) (defScope s_is_number) .none kV_is_number dc_is_number pm_is_number an_is_number cd_is_number ct_is_number), sl_is_number⟩)
    (cc_is_number : PySem.W.codeIn K cd_is_number "is_number" = true)
    (kk_is_number : PySem.W.keepIn K (.ref fa_is_number) = true)
    (a_read_number : PySem.W.nsIn K mainGlobals "read_number" = some (some (.ref fa_read_number)))
    (l_read_number : K.lookup fa_read_number = some ⟨oc_read_number, od_read_number, .func (PySem.W.fnOf "read_number" "read_number" (defArgs s_read_number) (defBody s_read_number) (defScope s_read_number) .none kV_read_number dc_read_number pm_read_number an_read_number cd_read_number ct_read_number), sl_read_number⟩)
    (cc_read_number : PySem.W.codeIn K cd_read_number "read_number" = true)
    (kk_read_number : PySem.W.keepIn K (.ref fa_read_number) = true)
    (a_l_start : PySem.W.nsIn K mainGlobals "_law_start" = some (some (.ref fa_l_start)))
    (l_l_start : K.lookup fa_l_start = some ⟨oc_l_start, od_l_start, .func (PySem.W.fnOf "_law_start" "_law_start" (defArgs s_l_start) (defBody s_l_start) (defScope s_l_start) .none kV_l_start dc_l_start pm_l_start an_l_start cd_l_start ct_l_start), sl_l_start⟩)
    (cc_l_start : PySem.W.codeIn K cd_l_start "_law_start" = true)
    (kk_l_start : PySem.W.keepIn K (.ref fa_l_start) = true)
    (a_l_draw : PySem.W.nsIn K mainGlobals "_law_draw" = some (some (.ref fa_l_draw)))
    (l_l_draw : K.lookup fa_l_draw = some ⟨oc_l_draw, od_l_draw, .func (PySem.W.fnOf "_law_draw" "_law_draw" (defArgs s_l_draw) (defBody s_l_draw) (defScope s_l_draw) .none kV_l_draw dc_l_draw pm_l_draw an_l_draw cd_l_draw ct_l_draw), sl_l_draw⟩)
    (cc_l_draw : PySem.W.codeIn K cd_l_draw "_law_draw" = true)
    (kk_l_draw : PySem.W.keepIn K (.ref fa_l_draw) = true)
    (a_l_is_integer : PySem.W.nsIn K mainGlobals "_law_is_integer" = some (some (.ref fa_l_is_integer)))
    (l_l_is_integer : K.lookup fa_l_is_integer = some ⟨oc_l_is_integer, od_l_is_integer, .func (PySem.W.fnOf "_law_is_integer" "_law_is_integer" (defArgs s_l_is_integer) (defBody s_l_is_integer) (defScope s_l_is_integer) .none kV_l_is_integer dc_l_is_integer pm_l_is_integer an_l_is_integer cd_l_is_integer ct_l_is_integer), sl_l_is_integer⟩)
    (cc_l_is_integer : PySem.W.codeIn K cd_l_is_integer "_law_is_integer" = true)
    (kk_l_is_integer : PySem.W.keepIn K (.ref fa_l_is_integer) = true)
    (a_l_due : PySem.W.nsIn K mainGlobals "_law_due" = some (some (.ref fa_l_due)))
    (l_l_due : K.lookup fa_l_due = some ⟨oc_l_due, od_l_due, .func (PySem.W.fnOf "_law_due" "_law_due" (defArgs s_l_due) (defBody s_l_due) (defScope s_l_due) .none kV_l_due dc_l_due pm_l_due an_l_due cd_l_due ct_l_due), sl_l_due⟩)
    (cc_l_due : PySem.W.codeIn K cd_l_due "_law_due" = true)
    (kk_l_due : PySem.W.keepIn K (.ref fa_l_due) = true)
    (a_l_holds : PySem.W.nsIn K mainGlobals "_law_holds" = some (some (.ref fa_l_holds)))
    (l_l_holds : K.lookup fa_l_holds = some ⟨oc_l_holds, od_l_holds, .func (PySem.W.fnOf "_law_holds" "_law_holds" (defArgs s_l_holds) (defBody s_l_holds) (defScope s_l_holds) .none kV_l_holds dc_l_holds pm_l_holds an_l_holds cd_l_holds ct_l_holds), sl_l_holds⟩)
    (cc_l_holds : PySem.W.codeIn K cd_l_holds "_law_holds" = true)
    (kk_l_holds : PySem.W.keepIn K (.ref fa_l_holds) = true)
    (a_law : PySem.W.nsIn K mainGlobals "law" = some (some (.ref fa_law)))
    (l_law : K.lookup fa_law = some ⟨oc_law, od_law, .func (PySem.W.fnOf "law" "law" (defArgs s_law) (defBody s_law) (defScope s_law) .none kV_law dc_law pm_law an_law cd_law ct_law), sl_law⟩)
    (cc_law : PySem.W.codeIn K cd_law "law" = true)
    (kk_law : PySem.W.keepIn K (.ref fa_law) = true)
    (xL_BadNumber : K.lookup ca_BadNumber = some (excClassObj nm_BadNumber q_BadNumber ca_BadNumber N_BadNumber bs_BadNumber bm_BadNumber true sn_BadNumber sub_BadNumber ab_BadNumber col_BadNumber dd_BadNumber m0_BadNumber m1_BadNumber m2_BadNumber m3_BadNumber m5_BadNumber "ValueError.__new__"))
    (bm_ok_BadNumber : PySem.HandSPX.refsVE bm_BadNumber = true)
    (sa_BadNumber : PySem.W.findIn K (.ref ca_BadNumber) "__setattr__" = some (some (.builtin "object.__setattr__")))
    (eC_BadNumber : PySem.W.subIn K (.ref ca_BadNumber) (.type "BaseException") = some true)
    (tC_BadNumber : PySem.W.typeIn K (.ref ca_BadNumber) = some (.type "type"))
    (kC_BadNumber : PySem.W.keepIn K (.ref ca_BadNumber) = true)
    (tI_BadNumber : PySem.W.typeIn K (.ref fa_BadNumber_init) = some (.type "function"))
    (ga_BadNumber : PySem.W.findIn K (.ref ca_BadNumber) "__getattribute__" = some (some (.builtin "BaseException.__getattribute__")))
    (gg_BadNumber : PySem.W.findIn K (.ref ca_BadNumber) "__getattr__" = some none)
    (hd_BadNumber : PySem.W.hasDictIn K ca_BadNumber = true)
    (ic_BadNumber : PySem.W.isClsIn K ca_BadNumber = true)
    (cc_BadNumber : PySem.W.findIn K (.ref ca_BadNumber) "__class__" = some (some (.builtin "object.__class__")))
    (cm_BadNumber : PySem.W.mroIn K ca_BadNumber (.type "object") = some true)
    (n_BadNumber_what : PySem.W.findIn K (.ref ca_BadNumber) "what" = some none)
    (n_BadNumber_value : PySem.W.findIn K (.ref ca_BadNumber) "value" = some none)
    (cn_ : PySem.W.specialIn K (.builtin "object.__class__") "__get__" = some (some (.builtin "getset_descriptor.__get__")))
    (ct_ : PySem.W.takesIn K (.builtin "object.__class__") = some true)
    (ki_BadNumber_BadLot : PySem.W.kitOne K (.ref ca_BadNumber) (.ref ca_BadLot) = some false)
    (sb_BadNumber_BadNumber : PySem.W.subIn K (.ref ca_BadNumber) (.ref ca_BadNumber) = some true)
    (gk_MOST_DIGITS : PySem.W.nsIn K mainGlobals "MOST_DIGITS" = some (some (.int 4 gt_MOST_DIGITS)))
    (mb_abs : PySem.W.nsIn K mainGlobals "abs" = some none)
    (mb_bool : PySem.W.nsIn K mainGlobals "bool" = some none)
    (mb_int : PySem.W.nsIn K mainGlobals "int" = some none)
    (mb_isinstance : PySem.W.nsIn K mainGlobals "isinstance" = some none)
    (mb_len : PySem.W.nsIn K mainGlobals "len" = some none)
    (mb_range : PySem.W.nsIn K mainGlobals "range" = some none)
    (mb_str : PySem.W.nsIn K mainGlobals "str" = some none) :
    ∃ fd : FuncData, (∀ (s : Shared) (v : Value), BindsTo s fd ⟨[v], []⟩ [("_law_script", v)]) ∧ ∀ base : Heap, K.In base → base.Ns mainGlobals mg → FnOk l.prog w K mg base CX0 6 fa fd ["_law_script"] (spLaw K) := by
  have e := hfa.symm.trans (PySem.W.mg_of X G a_law)
  cases e
  have FF_BadNumber_init := fun_mk (st := s_BadNumber_init) l_BadNumber_init cc_BadNumber_init kk_BadNumber_init
  have bb_BadNumber_init := FF_BadNumber_init.binds (ps := ["self", "what", "value"]) fun _ _ _ _ _ _ us hl => match us, hl with | [_, _, _], _ => rfl
  have FF_is_number := fun_mk (st := s_is_number) l_is_number cc_is_number kk_is_number
  have bb_is_number := FF_is_number.binds (ps := ["text"]) fun _ _ _ _ _ _ us hl => match us, hl with | [_], _ => rfl
  have FF_read_number := fun_mk (st := s_read_number) l_read_number cc_read_number kk_read_number
  have bb_read_number := FF_read_number.binds (ps := ["text"]) fun _ _ _ _ _ _ us hl => match us, hl with | [_], _ => rfl
  have FF_l_start := fun_mk (st := s_l_start) l_l_start cc_l_start kk_l_start
  have bb_l_start := FF_l_start.binds (ps := ["_law_script"]) fun _ _ _ _ _ _ us hl => match us, hl with | [_], _ => rfl
  have FF_l_draw := fun_mk (st := s_l_draw) l_l_draw cc_l_draw kk_l_draw
  have bb_l_draw := FF_l_draw.binds (ps := ["_law_script", "_law_state", "_law_limit"]) fun _ _ _ _ _ _ us hl => match us, hl with | [_, _, _], _ => rfl
  have FF_l_is_integer := fun_mk (st := s_l_is_integer) l_l_is_integer cc_l_is_integer kk_l_is_integer
  have bb_l_is_integer := FF_l_is_integer.binds (ps := ["_law_actual"]) fun _ _ _ _ _ _ us hl => match us, hl with | [_], _ => rfl
  have FF_l_due := fun_mk (st := s_l_due) l_l_due cc_l_due kk_l_due
  have bb_l_due := FF_l_due.binds (ps := ["_law_text"]) fun _ _ _ _ _ _ us hl => match us, hl with | [_], _ => rfl
  have FF_l_holds := fun_mk (st := s_l_holds) l_l_holds cc_l_holds kk_l_holds
  have bb_l_holds := FF_l_holds.binds (ps := ["_law_text"]) fun _ _ _ _ _ _ us hl => match us, hl with | [_], _ => rfl
  have FF_law := fun_mk (st := s_law) l_law cc_law kk_law
  have bb_law := FF_law.binds (ps := ["_law_script"]) fun _ _ _ _ _ _ us hl => match us, hl with | [_], _ => rfl
  exact ⟨PySem.W.fnOf "law" "law" (defArgs s_law) (defBody s_law) (defScope s_law) .none kV_law dc_law pm_law an_law cd_law ct_law, fun s v => .of_eq rfl, fun base _ _ => ok_law (T := {
    c_VoteError := ca_VoteError,
    gc_VoteError := PySem.W.mg_of X G aC_VoteError,
    c_BadNumber := ca_BadNumber,
    gc_BadNumber := PySem.W.mg_of X G aC_BadNumber,
    c_BadLot := ca_BadLot,
    gc_BadLot := PySem.W.mg_of X G aC_BadLot,
    f_BadNumber_init := fa_BadNumber_init,
    fd_BadNumber_init := _,
    F_BadNumber_init := FF_BadNumber_init,
    b_BadNumber_init := bb_BadNumber_init,
    f_is_number := fa_is_number,
    fd_is_number := _,
    F_is_number := FF_is_number,
    b_is_number := bb_is_number,
    g_is_number := PySem.W.mg_of X G a_is_number,
    f_read_number := fa_read_number,
    fd_read_number := _,
    F_read_number := FF_read_number,
    b_read_number := bb_read_number,
    g_read_number := PySem.W.mg_of X G a_read_number,
    f_l_start := fa_l_start,
    fd_l_start := _,
    F_l_start := FF_l_start,
    b_l_start := bb_l_start,
    g_l_start := PySem.W.mg_of X G a_l_start,
    f_l_draw := fa_l_draw,
    fd_l_draw := _,
    F_l_draw := FF_l_draw,
    b_l_draw := bb_l_draw,
    g_l_draw := PySem.W.mg_of X G a_l_draw,
    f_l_is_integer := fa_l_is_integer,
    fd_l_is_integer := _,
    F_l_is_integer := FF_l_is_integer,
    b_l_is_integer := bb_l_is_integer,
    g_l_is_integer := PySem.W.mg_of X G a_l_is_integer,
    f_l_due := fa_l_due,
    fd_l_due := _,
    F_l_due := FF_l_due,
    b_l_due := bb_l_due,
    g_l_due := PySem.W.mg_of X G a_l_due,
    f_l_holds := fa_l_holds,
    fd_l_holds := _,
    F_l_holds := FF_l_holds,
    b_l_holds := bb_l_holds,
    g_l_holds := PySem.W.mg_of X G a_l_holds,
    f_law := fa,
    fd_law := _,
    F_law := FF_law,
    b_law := bb_law,
    g_law := PySem.W.mg_of X G a_law,
    ox_BadNumber := ⟨⟨_, _, _, _, _, _, _, _, _, _, _, _, _, _, _, xL_BadNumber, bm_ok_BadNumber⟩, sa_BadNumber, eC_BadNumber, tC_BadNumber, kC_BadNumber⟩,
    xn_BadNumber := a_BadNumber_init,
    xt_BadNumber := tI_BadNumber,
    xf_BadNumber := ⟨ga_BadNumber, gg_BadNumber, eC_BadNumber, hd_BadNumber⟩,
    xi_BadNumber := ⟨ic_BadNumber, ga_BadNumber, gg_BadNumber, eC_BadNumber, cc_BadNumber, cn_, ct_, cm_BadNumber⟩,
    n_BadNumber_what := n_BadNumber_what,
    n_BadNumber_value := n_BadNumber_value,
    ki_BadNumber_BadLot := ki_BadNumber_BadLot,
    ex_BadNumber_BadNumber := exm_own eC_BadNumber ic_BadNumber tC_BadNumber sb_BadNumber_BadNumber,
    gt_MOST_DIGITS := gt_MOST_DIGITS,
    gk_MOST_DIGITS := PySem.W.mg_of X G gk_MOST_DIGITS,
    m_abs := PySem.W.mg_none_of X G mb_abs,
    m_bool := PySem.W.mg_none_of X G mb_bool,
    m_int := PySem.W.mg_none_of X G mb_int,
    m_isinstance := PySem.W.mg_none_of X G mb_isinstance,
    m_len := PySem.W.mg_none_of X G mb_len,
    m_range := PySem.W.mg_none_of X G mb_range,
    m_str := PySem.W.mg_none_of X G mb_str })⟩
theorem walk {l : PySem.W.OpenLaw} {q : Program} {loose : List Str} {XP : (Str → Option Value) → Heap → Prop} {YP : World → Heap → Prop} {d : DefRec} {K : Params → PySem.W.Frag} (hn : l.most = some 63) (hdf : d.params.defaults = [])
    (hY : ∀ (w : World) (h : Heap), YP w h → (K w.params).In h)
    (F : ∀ (w : World) (mg : Str → Option Value) (fa : Addr) (h : Heap), (K w.params).In h → h.Ns mainGlobals mg → mg d.name = some (.ref fa) →
      ∃ fd : FuncData, (∀ (s : Shared) (u : Value), BindsTo s fd ⟨[u], []⟩ [("_law_script", u)]) ∧ ∀ base : Heap, (K w.params).In base → base.Ns mainGlobals mg → FnOk l.prog w (K w.params) mg base CX0 6 fa fd ["_law_script"] (spLaw (K w.params))) :
    PySem.W.WalkO q loose XP YP l.row.toRowW d [] (fun f vs => PySem.call f vs) :=
  L2.walk_of (n := 63) (k := 6) (x := "_law_script") (CX := fun _ => CX0) (sp := fun w => spLaw (K w.params)) hn (by decide) hdf ⟨rfl, by decide, by decide⟩ hY F (fun _ _ a ns hl _ hS => ⟨a, ns, rfl, hS, hl, fun _ => rfl⟩) fun _ _ _ _ _ z => z
end Cv
open PySem PySem.W PyProof.Rows
set_option maxRecDepth 100000 in
set_option maxHeartbeats 0 in
theorem PySem.Challenge.cw_copyvotes_k02_read_number_holds : PySem.Challenge.rw_copyvotes_k02_read_number.Holds := by
  w_on; o_law; k_head; (case hw => w_witness2)
  k_fill
  refine Cv.walk (l := PySem.Challenge.rw_copyvotes_k02_read_number) rfl rfl (fun w h Y => PySem.W.kIn_of Y) ?F
  case F =>
    intro w mg fa h KX G hmg
    refine' Cv.all_mk KX G hmg ?aC_VoteError ?aC_BadNumber ?aC_BadLot ?a_BadNumber_init ?l_BadNumber_init ?cc_BadNumber_init ?kk_BadNumber_init ?a_is_number ?l_is_number ?cc_is_number ?kk_is_number ?a_read_number ?l_read_number ?cc_read_number ?kk_read_number ?a_l_start ?l_l_start ?cc_l_start ?kk_l_start ?a_l_draw ?l_l_draw ?cc_l_draw ?kk_l_draw ?a_l_is_integer ?l_l_is_integer ?cc_l_is_integer ?kk_l_is_integer ?a_l_due ?l_l_due ?cc_l_due ?kk_l_due ?a_l_holds ?l_l_holds ?cc_l_holds ?kk_l_holds ?a_law ?l_law ?cc_law ?kk_law ?xL_BadNumber ?bm_ok_BadNumber ?sa_BadNumber ?eC_BadNumber ?tC_BadNumber ?kC_BadNumber ?tI_BadNumber ?ga_BadNumber ?gg_BadNumber ?hd_BadNumber ?ic_BadNumber ?cc_BadNumber ?cm_BadNumber ?n_BadNumber_what ?n_BadNumber_value ?cn_ ?ct_ ?ki_BadNumber_BadLot ?sb_BadNumber_BadNumber ?gk_MOST_DIGITS ?mb_abs ?mb_bool ?mb_int ?mb_isinstance ?mb_len ?mb_range ?mb_str
    (case aC_VoteError => k_is)
    (case aC_BadNumber => k_is)
    (case aC_BadLot => k_is)
    (case a_BadNumber_init => k_is)
    (case l_BadNumber_init => k_is)
    (case cc_BadNumber_init => k_is)
    (case kk_BadNumber_init => k_is)
    (case a_is_number => k_is)
    (case l_is_number => k_is)
    (case cc_is_number => k_is)
    (case kk_is_number => k_is)
    (case a_read_number => k_is)
    (case l_read_number => k_is)
    (case cc_read_number => k_is)
    (case kk_read_number => k_is)
    (case a_l_start => k_is)
    (case l_l_start => k_is)
    (case cc_l_start => k_is)
    (case kk_l_start => k_is)
    (case a_l_draw => k_is)
    (case l_l_draw => k_is)
    (case cc_l_draw => k_is)
    (case kk_l_draw => k_is)
    (case a_l_is_integer => k_is)
    (case l_l_is_integer => k_is)
    (case cc_l_is_integer => k_is)
    (case kk_l_is_integer => k_is)
    (case a_l_due => k_is)
    (case l_l_due => k_is)
    (case cc_l_due => k_is)
    (case kk_l_due => k_is)
    (case a_l_holds => k_is)
    (case l_l_holds => k_is)
    (case cc_l_holds => k_is)
    (case kk_l_holds => k_is)
    (case a_law => k_is)
    (case l_law => k_is)
    (case cc_law => k_is)
    (case kk_law => k_is)
    (case xL_BadNumber => k_is)
    (case bm_ok_BadNumber => decide +kernel)
    (case sa_BadNumber => k_is)
    (case eC_BadNumber => k_is)
    (case tC_BadNumber => k_is)
    (case kC_BadNumber => k_is)
    (case tI_BadNumber => k_is)
    (case ga_BadNumber => k_is)
    (case gg_BadNumber => k_is)
    (case hd_BadNumber => k_is)
    (case ic_BadNumber => k_is)
    (case cc_BadNumber => k_is)
    (case cm_BadNumber => k_is)
    (case n_BadNumber_what => k_is)
    (case n_BadNumber_value => k_is)
    (case cn_ => k_is)
    (case ct_ => k_is)
    (case ki_BadNumber_BadLot => kit_is)
    (case sb_BadNumber_BadNumber => k_is)
    (case gk_MOST_DIGITS => k_is)
    (case mb_abs => k_is)
    (case mb_bool => k_is)
    (case mb_int => k_is)
    (case mb_isinstance => k_is)
    (case mb_len => k_is)
    (case mb_range => k_is)
    (case mb_str => k_is)

import PyProof.Rows.All
import Wide.All
import OpenK.AllK
import Wide.FinOn
import HandS.ForMost
import HandS.Walk
import HandS.Wide
import HandS.IsInst
import KE.GoesMore
import KE.GoesEnum
import HandS.Codes
import HandS.Lambda
import HandS.StrMore
import HandS.TryOnly
import HandS.Style
import PyProof.Rows.SetFrom
import HandS.ForExc
import HandS.Defaults
import HandS.EndTab
import HandS.EndOwn
import HandS.TryMany
import HandS.ExcInit
import KE.KExcSuper
import HandS.ExcIs
import KE.KExcIs
import HandS.ExcValue
import HandS.Sort
import PyProof.CollectStr
import PyProof.Rows.SortShellAny
import HandS.MakeKw
import HandS.MakeKwOnly
import HandS.FStr
import KE.KCallOwn
import HandS.OwnEq
import HandS.SortKw
import HandS.NamedTupGet
import KE.DatumOrd
import KE.KDictCopyH
import HandS.Comp
import HandS.SetBool
import HandS.Strs
import HandS.SortInts
import HandS.Conv
import HandS.Dict
import HandS.DictComp
import HandS.ListItems
import PyProof.ZipIter
import KE.KItemsList
import HandS.Text
import HandS.Flow
import HandS.Set
import HandS.SortRule
import HandS.CallLocal
import PySem.Challenge.RW_markseam_k14_marks_in_order
set_option Elab.async false
set_option linter.all false
set_option maxRecDepth 100000
/-! Own rules: zip of two texts, of a text and a list; enumerate of a text. -/
namespace Ms
open PySem PySem.Spec PyProof.Rows L2
/-- the five new cells of a zip, over two one-cell iterators -/
theorem five {c n : Nat} (h : c ∈ [n + 4, n + 2, n + 3, n, n + 1]) : n ≤ c := by
  have q : c = n + 4 ∨ c = n + 2 ∨ c = n + 3 ∨ c = n ∨ c = n + 1 := by simpa using h
  omega
/-- signs of two texts in new pairs -/
def Jss (x y : Str) : It :=
  ⟨fun i _ => i < x.cps.size ∧ i < y.cps.size,
   fun i H v H' => ∃ T c d, v = .ref T ∧ H T = none ∧ H' = upd H T (.tup [.str ⟨#[c]⟩, .str ⟨#[d]⟩]) ∧ x.cps[i]? = some c ∧ y.cps[i]? = some d,
   fun i _ => i ≤ x.cps.size ∧ i ≤ y.cps.size ∧ (i = x.cps.size ∨ i = y.cps.size)⟩
theorem ltn {a n : Nat} (h : a < n) (i : Nat) : a ≠ n + i := by omega
/-- how the cells of such a zip lie -/
structure Apt (z TI TO i1 i2 : Addr) : Prop where
  e1 : TI ≠ z
  e2 : TO ≠ z
  e3 : i1 ≠ z
  e4 : i2 ≠ z
  e5 : TI ≠ TO
  e6 : TI ≠ i1
  e7 : TI ≠ i2
  e8 : TO ≠ i1
  e9 : TO ≠ i2
  e0 : i1 ≠ i2
theorem apt (n : Nat) : Apt (n + 4) (n + 2) (n + 3) n (n + 1) := by constructor <;> (show ¬ (@Eq Nat _ _); omega)
theorem Apt.ss {z TI TO i1 i2 : Addr} (D : Apt z TI TO i1 i2) : ZipSep2 z TI TO i1 i2 [i1] [i2] where
  TIz := D.e1
  TOz := D.e2
  TITO := D.e5
  TIi1 := D.e6
  mem1 := List.mem_singleton.mpr rfl
  zf1 := fun h => D.e3 (List.mem_singleton.mp h).symm
  Tf1 := fun h => D.e8 (List.mem_singleton.mp h)
  TIi2 := D.e7
  mem2 := List.mem_singleton.mpr rfl
  zf2 := fun h => D.e4 (List.mem_singleton.mp h).symm
  Tf2 := fun h => D.e9 (List.mem_singleton.mp h)
  sep1_2 := fun h => D.e0 (List.mem_singleton.mp h)
  sep2_1 := fun h => D.e0 (List.mem_singleton.mp h).symm
theorem Apt.sl {z TI TO i1 i2 l : Addr} (D : Apt z TI TO i1 i2) (h1 : l ≠ z) (h2 : l ≠ TO) (h3 : l ≠ i1) : ZipSep2 z TI TO i1 i2 [i1] [i2, l] where
  TIz := D.e1
  TOz := D.e2
  TITO := D.e5
  TIi1 := D.e6
  mem1 := List.mem_singleton.mpr rfl
  zf1 := fun h => D.e3 (List.mem_singleton.mp h).symm
  Tf1 := fun h => D.e8 (List.mem_singleton.mp h)
  TIi2 := D.e7
  mem2 := List.mem_cons_self ..
  zf2 := fun h => (List.mem_cons.mp h).elim (fun q => D.e4 q.symm) fun q => h1 (List.mem_singleton.mp q).symm
  Tf2 := fun h => (List.mem_cons.mp h).elim D.e9 fun q => h2 (List.mem_singleton.mp q).symm
  sep1_2 := fun h => (List.mem_cons.mp h).elim D.e0 fun q => h3 (List.mem_singleton.mp q).symm
  sep2_1 := fun h => D.e0 (List.mem_singleton.mp h).symm
theorem lt5 {h : Heap} {z TI TO i1 i2 : Addr} (l1 : ∃ o, h.get? z = some o) (l2 : ∃ o, h.get? TI = some o) (l3 : ∃ o, h.get? TO = some o) (l4 : ∃ o, h.get? i1 = some o) (l5 : ∃ o, h.get? i2 = some o) :
    ∀ c ∈ [z, TI, TO, i1, i2], c < h.objs.size := fun c hc => by
  have q : c = z ∨ c = TI ∨ c = TO ∨ c = i1 ∨ c = i2 := by simpa using hc
  have lt : ∀ {a : Addr}, (∃ o, h.get? a = some o) → a < h.objs.size := fun ⟨_, e⟩ => Heap.lt_size e
  rcases q with q | q | q | q | q
  all_goals rw [q]
  · exact lt l1
  · exact lt l2
  · exact lt l3
  · exact lt l4
  · exact lt l5
theorem turn_ss {P : Program} {w : World} {K : PySem.W.Frag} {elts : List Expr} {kk : Nat} {tpos : Pos} {x y : Str} {t u : Tok} {z TI TO i1 i2 : Addr} (D : Apt z TI TO i1 i2) :
    Turn P w K (.Tuple elts kk tpos) (Jss x y) [z, TI, TO, i1, i2] z
      (fun i h => IsZip h z TI TO .none ∧ IsTupOf2 h TI (.ref i1) (.ref i2) ∧ (∃ a b, IsTupOf2 h TO a b) ∧ h.IsStrIter i1 (strIterType x) x t i ∧ h.IsStrIter i2 (strIterType y) y u i) where
  mem := by simp
  obj := fun i h st c hc => by
    obtain ⟨hz, hTI, ⟨a, b, hTO⟩, ⟨o1, m1, _, d1⟩, ⟨o2, m2, _, d2⟩⟩ := st
    have q : c = z ∨ c = TI ∨ c = TO ∨ c = i1 ∨ c = i2 := by simpa using hc
    rcases q with q | q | q | q | q
    all_goals rw [q]
    · exact ⟨_, hz, fun v q => nomatch q⟩
    · exact ⟨_, hTI, fun v q => nomatch q⟩
    · exact ⟨_, hTO, fun v q => nomatch q⟩
    · exact ⟨o1, m1, fun v q => by rw [d1] at q; cases q⟩
    · exact ⟨o2, m2, fun v q => by rw [d2] at q; cases q⟩
  keep := fun i h h' st k => by
    obtain ⟨hz, hTI, ⟨a, b, hTO⟩, ⟨o1, m1, r1⟩, ⟨o2, m2, r2⟩⟩ := st
    exact ⟨k z (by simp) _ hz, k TI (by simp) _ hTI, ⟨a, b, k TO (by simp) _ hTO⟩, ⟨o1, k i1 (by simp) _ m1, r1⟩, ⟨o2, k i2 (by simp) _ m2, r2⟩⟩
  item := by
    intro X hP hw hK hc i pins s σ H E I hf st hg
    subst hP hw hK
    obtain ⟨hz, hTI, ⟨a0, b0, hTO⟩, h1, h2⟩ := st
    obtain ⟨g1, g2⟩ := hg
    have lv := lt5 ⟨_, hz⟩ ⟨_, hTI⟩ ⟨_, hTO⟩ (let ⟨o, e, _⟩ := h1; ⟨o, e⟩) (let ⟨o, e, _⟩ := h2; ⟨o, e⟩)
    have hh : X.A.in1.handled = none := I.ok.hd hc
    refine wpAny_pyNext_zipD2_item D.ss (Draws.text hh i1 x t) (Draws.text hh i2 y u) hz hTI hTO h1 h2 g1 g2 fun v1 v2 h' tk y1 y2 z' TO' h1' h2' hT hsz hk => ?_
    obtain ⟨c, u1, ec, rfl⟩ := y1
    obtain ⟨d, u2, ed, rfl⟩ := y2
    refine ⟨_, rfl, wpAny_letOwnedTupleGo_zip (s := { s with heap := h', toks := tk }) z' fun h'' z'' sb => ?_⟩
    have nz : z ≠ s.heap.objs.size := Nat.ne_of_lt (lv z (by simp))
    have hT2 : h''.get? s.heap.objs.size = some { cls := .type "tuple", data := .seq #[.str ⟨#[c]⟩ u1, .str ⟨#[d]⟩ u2] } := (sb.2 _ nz.symm).trans hT
    have new : ObjOk X.prog X.w (upd H s.heap.objs.size (.tup [.str ⟨#[c]⟩, .str ⟨#[d]⟩])) h'' s.heap.objs.size (.tup [.str ⟨#[c]⟩, .str ⟨#[d]⟩]) :=
      ⟨by show 2 ≤ sizeLine; decide, _, .cons ⟨u1, rfl⟩ (.cons ⟨u2, rfl⟩ .nil), ⟨_, hT2, rfl, _, rfl⟩⟩
    have I1 : Inv X pins σ (upd H s.heap.objs.size (.tup [.str ⟨#[c]⟩, .str ⟨#[d]⟩])) { s with heap := h'', toks := tk } :=
      I.turnedNew (ch := [z, TI, TO, i1, i2]) (fun b o hb q => (sb.2 b fun e => hb (by simp [e])).trans (hk b o (fun e => hb (by simp [e])) (fun e => hb (by simp [e])) (fun e => hb (by simp [e])) (fun e => hb (by simp [e])) q)) hf (Nat.le_refl _) new
    refine ⟨.ref s.heap.objs.size, _, I1, rfl, ⟨_, c, d, rfl, I.hok.fresh (Nat.le_refl _), rfl, ec, ed⟩, ⟨z'', ?_, ⟨_, _, (sb.2 _ D.e2).trans TO'⟩, ?_, ?_⟩, fun b hb => ?_⟩
    · exact (sb.2 _ D.e1).trans (hk _ _ D.e1 D.e5 D.e6 D.e7 hTI)
    · obtain ⟨o, e, r⟩ := h1'
      exact ⟨o, (sb.2 _ D.e3).trans e, r⟩
    · obtain ⟨o, e, r⟩ := h2'
      exact ⟨o, (sb.2 _ D.e4).trans e, r⟩
    · rw [upd_ne (Nat.ne_of_lt (lv b hb))]
      exact (hf b hb).1
  done := by
    intro X hP hw hK hc i pins s σ H E I hf st hg
    subst hP hw hK
    obtain ⟨hz, hTI, ⟨a0, b0, hTO⟩, h1, h2⟩ := st
    have hh : X.A.in1.handled = none := I.ok.hd hc
    exact wpAny_pyNext_zipD2_end D.ss (Draws.text hh i1 x t) (Draws.text hh i2 y u) hz hTI hTO h1 h2 hg.1 hg.2.1 hg.2.2 fun h' tk hk => ⟨rfl, I.turnedL (t' := tk) (ch := [z, TI, TO, i1, i2]) (fun b o hb q =>
      hk b o (fun e => hb (by simp [e])) (fun e => hb (by simp [e])) (fun e => hb (by simp [e])) (fun e => hb (by simp [e])) q) hf⟩
  self := fun A i s Q E st h => wpAny_pyIter_zip st.1 h
/-- signs of a text, items of the list at a as it stands at each turn, in new pairs -/
def Jsl (K : PySem.W.Frag) (x : Str) (a : Addr) : It :=
  ⟨fun i H => i < x.cps.size ∧ ∃ ys v, SqL K H a ys ∧ ys[i]? = some v,
   fun i H v H' => ∃ T c y, v = .ref T ∧ H T = none ∧ H' = upd H T (.tup [.str ⟨#[c]⟩, y]) ∧ x.cps[i]? = some c ∧ ∀ ys, SqL K H a ys → ys[i]? = some y,
   fun i H => ∃ ys, SqL K H a ys ∧ i ≤ x.cps.size ∧ i ≤ ys.length ∧ (i = x.cps.size ∨ i = ys.length)⟩
theorem turn_sl {P : Program} {w : World} {K : PySem.W.Frag} {elts : List Expr} {kk : Nat} {tpos : Pos} {x : Str} {a : Addr} {t : Tok} {z TI TO i1 i2 : Addr} (D : Apt z TI TO i1 i2) (n1 : a ≠ z) (n2 : a ≠ TO) (n3 : a ≠ i1) (n4 : a ≠ i2) :
    Turn P w K (.Tuple elts kk tpos) (Jsl K x a) [z, TI, TO, i1, i2] z
      (fun i h => IsZip h z TI TO .none ∧ IsTupOf2 h TI (.ref i1) (.ref i2) ∧ (∃ a b, IsTupOf2 h TO a b) ∧ h.IsStrIter i1 (strIterType x) x t i ∧ h.IsListIter i2 a i) where
  mem := by simp
  obj := fun i h st c hc => by
    obtain ⟨hz, hTI, ⟨a, b, hTO⟩, ⟨o1, m1, _, d1⟩, ⟨o2, m2, _, d2⟩⟩ := st
    have q : c = z ∨ c = TI ∨ c = TO ∨ c = i1 ∨ c = i2 := by simpa using hc
    rcases q with q | q | q | q | q
    all_goals rw [q]
    · exact ⟨_, hz, fun v q => nomatch q⟩
    · exact ⟨_, hTI, fun v q => nomatch q⟩
    · exact ⟨_, hTO, fun v q => nomatch q⟩
    · exact ⟨o1, m1, fun v q => by rw [d1] at q; cases q⟩
    · exact ⟨o2, m2, fun v q => by rw [d2] at q; cases q⟩
  keep := fun i h h' st k => by
    obtain ⟨hz, hTI, ⟨a, b, hTO⟩, ⟨o1, m1, r1⟩, ⟨o2, m2, r2⟩⟩ := st
    exact ⟨k z (by simp) _ hz, k TI (by simp) _ hTI, ⟨a, b, k TO (by simp) _ hTO⟩, ⟨o1, k i1 (by simp) _ m1, r1⟩, ⟨o2, k i2 (by simp) _ m2, r2⟩⟩
  item := by
    intro X hP hw hK hc i pins s σ H E I hf st hg
    subst hP hw hK
    obtain ⟨hz, hTI, ⟨a0, b0, hTO⟩, h1, h2⟩ := st
    obtain ⟨g1, ys, v, hys, hv⟩ := hg
    obtain ⟨its, rv, p, _⟩ := I.list hys
    obtain ⟨uv, huv, ruv⟩ := rv.get hv
    have lv := lt5 ⟨_, hz⟩ ⟨_, hTI⟩ ⟨_, hTO⟩ (let ⟨o, e, _⟩ := h1; ⟨o, e⟩) (let ⟨o, e, _⟩ := h2; ⟨o, e⟩)
    have hh : X.A.in1.handled = none := I.ok.hd hc
    have g2 : i < its.toArray.size := by
      have q := (List.getElem?_eq_some_iff.mp huv).1
      simpa using q
    refine wpAny_pyNext_zipD2_item (D.sl n1 n2 n3) (Draws.text hh i1 x t) (Draws.list hh i2 a n4 its.toArray) hz hTI hTO h1 ⟨h2, p.isList⟩ g1 g2 fun v1 v2 h' tk y1 y2 z' TO' h1' h2' hT hsz hk => ?_
    obtain ⟨c, u1, ec, rfl⟩ := y1
    have ev : v2 = uv := by
      have q : its[i]? = some v2 := by simpa using y2
      rw [huv] at q
      exact (Option.some.inj q).symm
    subst ev
    refine ⟨_, rfl, wpAny_letOwnedTupleGo_zip (s := { s with heap := h', toks := tk }) z' fun h'' z'' sb => ?_⟩
    have nz : z ≠ s.heap.objs.size := Nat.ne_of_lt (lv z (by simp))
    have hT2 : h''.get? s.heap.objs.size = some { cls := .type "tuple", data := .seq #[.str ⟨#[c]⟩ u1, v2] } := (sb.2 _ nz.symm).trans hT
    have new : ObjOk X.prog X.w (upd H s.heap.objs.size (.tup [.str ⟨#[c]⟩, v])) h'' s.heap.objs.size (.tup [.str ⟨#[c]⟩, v]) :=
      ⟨by show 2 ≤ sizeLine; decide, _, .cons ⟨u1, rfl⟩ (.cons ruv .nil), ⟨_, hT2, rfl, _, rfl⟩⟩
    have I1 : Inv X pins σ (upd H s.heap.objs.size (.tup [.str ⟨#[c]⟩, v])) { s with heap := h'', toks := tk } :=
      I.turnedNew (ch := [z, TI, TO, i1, i2]) (fun b o hb q => (sb.2 b fun e => hb (by simp [e])).trans (hk b o (fun e => hb (by simp [e])) (fun e => hb (by simp [e])) (fun e => hb (by simp [e])) (fun e => hb (by simp [e])) q)) hf (Nat.le_refl _) new
    refine ⟨.ref s.heap.objs.size, _, I1, rfl, ⟨_, c, v, rfl, I.hok.fresh (Nat.le_refl _), rfl, ec, fun l hl => by rw [I.list_inj hl hys]; exact hv⟩, ⟨z'', ?_, ⟨_, _, (sb.2 _ D.e2).trans TO'⟩, ?_, ?_⟩, fun b hb => ?_⟩
    · exact (sb.2 _ D.e1).trans (hk _ _ D.e1 D.e5 D.e6 D.e7 hTI)
    · obtain ⟨o, e, r⟩ := h1'
      exact ⟨o, (sb.2 _ D.e3).trans e, r⟩
    · obtain ⟨⟨o, e, r⟩, _⟩ := h2'
      exact ⟨o, (sb.2 _ D.e4).trans e, r⟩
    · rw [upd_ne (Nat.ne_of_lt (lv b hb))]
      exact (hf b hb).1
  done := by
    intro X hP hw hK hc i pins s σ H E I hf st hg
    subst hP hw hK
    obtain ⟨hz, hTI, ⟨a0, b0, hTO⟩, h1, h2⟩ := st
    obtain ⟨ys, hys, g1, g2, g3⟩ := hg
    obtain ⟨its, rv, p, _⟩ := I.list hys
    have hl := rv.length
    have hh : X.A.in1.handled = none := I.ok.hd hc
    exact wpAny_pyNext_zipD2_end (D.sl n1 n2 n3) (Draws.text hh i1 x t) (Draws.list hh i2 a n4 its.toArray) hz hTI hTO h1 ⟨h2, p.isList⟩ g1 (by simp; omega) (by simp; omega) fun h' tk hk => ⟨rfl, I.turnedL (t' := tk) (ch := [z, TI, TO, i1, i2]) (fun b o hb q =>
      hk b o (fun e => hb (by simp [e])) (fun e => hb (by simp [e])) (fun e => hb (by simp [e])) (fun e => hb (by simp [e])) q) hf⟩
  self := fun A i s Q E st h => wpAny_pyIter_zip st.1 h
/-- zip(text, text | list) -/
def iZs (K : PySem.W.Frag) (ta : TA) : TI := fun σ H R => ta σ H fun vs H1 => ∃ (x : Str) (v : V), vs = [.str x, v] ∧ ((∃ y, v = .str y ∧ R (Jss x y) H1) ∨ ∃ a ys, v = .ref a ∧ SqL K H1 a ys ∧ R (Jsl K x a) H1)
theorem pi_zs {X : Cx} {e e2 : Expr} {ta : TA} {p pos tpos : Pos} {elts : List Expr} {kk : Nat} (hg : Gl X "zip") (hm : X.mg "zip" = none) (ha : PA X [e, e2] ta)
    (hs : starEach [e, e2] X.env = (false, eval e X.env) :: starEach [e2] X.env := by rfl) (hpl : (backTo pos (starEach [e2] X.env)).any (·.1) = false := by rfl) :
    PI X (.Tuple elts kk tpos) (.Call (.Name "zip" p) [e, e2] [] pos) (iZs X.K ta) := by
  refine ⟨fun pins s σ H R I h => Call_ (ld_blt I hg hm PyProof.Rows.boot_zip (PyProof.Rows.callWith_type1 (thn (ha.run pos pins s σ H _ I h) fun us s1 ⟨vs, H1, I1, r1, q1⟩ => ?_) hs hpl))⟩
  obtain ⟨x, v, rfl, q1⟩ := q1
  cases r1 with
  | cons r rr =>
    cases rr with
    | cons r' rr =>
      cases rr
      obtain ⟨t, rfl⟩ := r
      rcases q1 with ⟨y, rfl, q⟩ | ⟨a, ys, rfl, hq, q⟩
      · obtain ⟨u, rfl⟩ := r'
        refine zip_begins2 (begins_text x t) (begins_text y u) trivial trivial fun h' hz hTI hTO h1 h2 hsz hk => wpAny_pyIter_zip hz ?_
        have I2 : Inv X pins σ H1 { s1 with heap := h' } := I1.kept (t' := s1.toks) hk
        exact ⟨s1.heap.objs.size + 4, [s1.heap.objs.size + 4, s1.heap.objs.size + 2, s1.heap.objs.size + 3, s1.heap.objs.size, s1.heap.objs.size + 1], _, _, H1, rfl, I2, turn_ss (t := t) (u := u) (apt _), ⟨hz, hTI, ⟨_, _, hTO⟩, ⟨_, h1, rfl, rfl⟩, ⟨_, h2, rfl, rfl⟩⟩,
          fun c hc => I1.fpOk (five hc) (I1.hok.fresh (five hc)), q⟩
      · obtain rfl : _ = Value.ref a := r'
        obtain ⟨its, rv, p1, _⟩ := I1.list hq
        have la : a < s1.heap.objs.size := p1.lt
        refine zip_begins2 (begins_text x t) (begins_list a its.toArray) trivial p1.isList fun h' hz hTI hTO h1 h2 hsz hk => wpAny_pyIter_zip hz ?_
        have I2 : Inv X pins σ H1 { s1 with heap := h' } := I1.kept (t' := s1.toks) hk
        exact ⟨s1.heap.objs.size + 4, [s1.heap.objs.size + 4, s1.heap.objs.size + 2, s1.heap.objs.size + 3, s1.heap.objs.size, s1.heap.objs.size + 1], _, _, H1, rfl, I2,
          turn_sl (t := t) (apt _) (ltn la 4) (ltn la 3) (ltn la 0) (ltn la 1), ⟨hz, hTI, ⟨_, _, hTO⟩, ⟨_, h1, rfl, rfl⟩, ⟨_, h2, rfl, rfl⟩⟩,
          fun c hc => I1.fpOk (five hc) (I1.hok.fresh (five hc)), q⟩
/-- enumerate(text): each sign with its place in a new pair -/
def Jes (x : Str) : It :=
  ⟨fun i _ => i < x.cps.size, fun i H v H' => ∃ T c, v = .ref T ∧ H T = none ∧ H' = upd H T (.tup [.int (i : Nat), .str ⟨#[c]⟩]) ∧ x.cps[i]? = some c, fun i _ => i = x.cps.size⟩
theorem turn_es {P : Program} {w : World} {K : PySem.W.Frag} {elts : List Expr} {kk : Nat} {tpos : Pos} (x : Str) (t : Tok) (e it : Addr) (hne : e ≠ it) :
    Turn P w K (.Tuple elts kk tpos) (Jes x) [e, it] e (fun i h => (∃ old, IsEnum h e it ((i : Nat) : Int) old) ∧ h.IsStrIter it (strIterType x) x t i) where
  mem := by simp
  obj := fun i h st b hb => by
    obtain ⟨⟨old, he⟩, ⟨o, ho, hc, hd⟩⟩ := st
    have q : b = e ∨ b = it := by simpa using hb
    rcases q with q | q
    all_goals rw [q]
    · exact ⟨_, he, fun v q => nomatch q⟩
    · exact ⟨o, ho, fun v q => by rw [hd] at q; cases q⟩
  keep := fun i h h' st k => let ⟨⟨old, he⟩, ⟨o, ho, r⟩⟩ := st; ⟨⟨old, k e (by simp) _ he⟩, ⟨o, k it (by simp) _ ho, r⟩⟩
  item := by
    intro X hP hw hK hc i pins s σ H E I hf st hg
    subst hP hw hK
    obtain ⟨⟨old, he⟩, hit⟩ := st
    have hel : e < s.heap.objs.size := Heap.lt_size he
    have hil : it < s.heap.objs.size := by obtain ⟨_, q, _⟩ := hit; exact Heap.lt_size q
    have hh : X.A.in1.handled = none := I.ok.hd hc
    refine wpAny_pyNext_enum_itemD (Draws.text hh it x t) he hit hg hne (fun q => hne (List.mem_singleton.mp q)) fun v h' tk hv ho hit' hT hsz hk => ?_
    obtain ⟨c, u, ec, rfl⟩ := hv
    refine ⟨_, rfl, wpAny_letOwnedTupleGo_enum (s := { s with heap := h', toks := tk + 1 }) ho fun h'' he' sb => ?_⟩
    have hT2 : h''.get? s.heap.objs.size = some { cls := .type "tuple", data := .seq #[.int i tk, .str ⟨#[c]⟩ u] } := (sb.2 _ (Nat.ne_of_gt hel)).trans hT
    have new : ObjOk X.prog X.w (upd H s.heap.objs.size (.tup [.int (i : Nat), .str ⟨#[c]⟩])) h'' s.heap.objs.size (.tup [.int (i : Nat), .str ⟨#[c]⟩]) :=
      ⟨by show 2 ≤ sizeLine; decide, _, .cons ⟨tk, rfl⟩ (.cons ⟨u, rfl⟩ .nil), ⟨_, hT2, rfl, _, rfl⟩⟩
    have I1 : Inv X pins σ (upd H s.heap.objs.size (.tup [.int (i : Nat), .str ⟨#[c]⟩])) { s with heap := h'', toks := tk + 1 } :=
      I.turnedNew (ch := [e, it]) (fun b ob hb q => (sb.2 b fun z => hb (by simp [z])).trans (hk b ob (fun z => hb (by simp [z])) (fun z => hb (by simp [z])) q)) hf (Nat.le_refl _) new
    refine ⟨.ref s.heap.objs.size, _, I1, rfl, ⟨_, c, rfl, I.hok.fresh (Nat.le_refl _), rfl, ec⟩, ⟨⟨.str ⟨#[c]⟩ u, ?_⟩, ?_⟩, fun b hb => ?_⟩
    · have e1 : ((i + 1 : Nat) : Int) = (i : Int) + 1 := by omega
      rw [e1]; exact he'
    · obtain ⟨o, q, r⟩ := hit'
      exact ⟨o, (sb.2 it hne.symm).trans q, r⟩
    · have hb' : b < s.heap.objs.size := by
        have q : b = e ∨ b = it := by simpa using hb
        rcases q with q | q <;> (rw [q]; assumption)
      rw [upd_ne (Nat.ne_of_lt hb')]
      exact (hf b hb).1
  done := by
    intro X hP hw hK hc i pins s σ H E I hf st hg
    subst hP hw hK
    obtain ⟨⟨old, he⟩, hit⟩ := st
    obtain ⟨f0, f1, f2, f3, f4, f5⟩ := hf it (by simp)
    have hh : X.A.in1.handled = none := I.ok.hd hc
    have hi : i = x.cps.size := hg
    subst hi
    exact wpAny_pyNext_enum_endD (Draws.text hh it x t) he hit fun h' eb => ⟨rfl, I.turned (t' := s.toks) (fun b o hb q => eb b o hb q) f0 f1 f3 f4 f5⟩
  self := fun A i s Q E st h => let ⟨⟨_, he⟩, _⟩ := st; wpAny_pyIter_enum he h
def iEs (ta : TA) : TI := fun σ H R => ta σ H fun vs H1 => ∃ x, vs = [.str x] ∧ R (Jes x) H1
theorem pi_es {X : Cx} {e : Expr} {ta : TA} {p pos tpos : Pos} {elts : List Expr} {kk : Nat} (hg : Gl X "enumerate") (hm : X.mg "enumerate" = none) (ha : PA X [e] ta) (hs : starEach [e] X.env = [(false, eval e X.env)] := by rfl) :
    PI X (.Tuple elts kk tpos) (.Call (.Name "enumerate" p) [e] [] pos) (iEs ta) := by
  refine ⟨fun pins s σ H R I h => Call_ (ld_blt I hg hm boot_enumerate (PyProof.Rows.callWith_type1 (thn (ha.run pos pins s σ H _ I h) fun us s1 ⟨vs, H1, I1, r1, q1⟩ => ?_) hs rfl))⟩
  obtain ⟨x, rfl, q⟩ := q1
  cases r1 with
  | cons r rr =>
    cases rr
    obtain ⟨t, rfl⟩ := r
    refine call_enumerate_str fun h' he hit hsz hk => wpAny_pyIter_enum he ?_
    have I2 : Inv X pins σ H1 { s1 with heap := h' } := I1.kept (t' := s1.toks) hk
    refine ⟨s1.heap.objs.size + 1, [s1.heap.objs.size + 1, s1.heap.objs.size], _, _, H1, rfl, I2, turn_es x t (s1.heap.objs.size + 1) s1.heap.objs.size (Nat.succ_ne_self _), ⟨⟨.none, he⟩, hit⟩, fun b hb => ?_, q⟩
    have hle : s1.heap.objs.size ≤ b := by
      have q : b = s1.heap.objs.size + 1 ∨ b = s1.heap.objs.size := by simpa using hb
      rcases q with q | q
      · rw [q]; exact Nat.le_succ _
      · rw [q]; exact Nat.le_refl _
    exact I1.fpOk hle (I1.hok.fresh hle)
/-- list + list, wherever they stand -/
theorem op_catS {X : Cx} : OpR X (binaryOp .Add) (fun x y H Q => ∃ l b xs zs, x = .ref l ∧ y = .ref b ∧ SqL X.K H l xs ∧ SqL X.K H b zs ∧ xs.length + zs.length ≤ sizeLine ∧ ∀ p, H p = none → Q (.ref p) (upd H p (.lst (xs ++ zs)))) := by
  intro pins s σ H x y v u Q I rx ry h
  obtain ⟨l, b, xs, zs, rfl, rfl, hH, hB, hz, q⟩ := h
  cases rx
  cases ry
  obtain ⟨i1, r1, p1, _⟩ := I.list hH
  obtain ⟨i2, r2, p2, _⟩ := I.list hB
  obtain ⟨⟨c1, a1, t1, s1⟩, ho1, hc1, n1, hd1⟩ := p1.isList
  obtain ⟨⟨c2, a2, t2, s2⟩, ho2, hc2, n2, hd2⟩ := p2.isList
  simp only at hc1 hd1 hc2 hd2
  subst hc1 hd1 hc2 hd2
  have l1 := r1.length
  have l2 := r2.length
  refine concat_meets ⟨_, ho1, rfl⟩ ⟨_, ho2, rfl⟩ noFill_list_add seq_list_add PySem.F.slot_list_add PySem.F.entry_list_add (PySem.F.args_list_add_2 _ _) (list_addW l b i1.toArray i2.toArray n1 n2 a1 a2 s1 s2 (by simp; omega)) ⟨ho1, ho2, ?_⟩
  rw [show i1.toArray ++ i2.toArray = (i1 ++ i2).toArray by simp]
  exact ⟨.ref _, _, I.lnew (t' := s.toks) (r1.append r2) (by rw [List.length_append]; omega), rfl, q _ I.fresh⟩
/-! ### their walks -/
theorem walk_ss {x y : Str} : Walk (Jss x y) (min x.cps.size y.cps.size) (fun _ => True)
    (fun i H v H' => ∃ T c d, v = .ref T ∧ H T = none ∧ H' = upd H T (.tup [.str ⟨#[c]⟩, .str ⟨#[d]⟩]) ∧ x.cps[i]? = some c ∧ y.cps[i]? = some d) :=
  ⟨fun i _ hi _ => ⟨by omega, by omega⟩, fun _ _ => ⟨by omega, by omega, by omega⟩, fun _ _ _ _ _ _ y => y⟩
theorem walk_sl {K : PySem.W.Frag} {x : Str} {a : Addr} {ys : List V} : Walk (Jsl K x a) (min x.cps.size ys.length) (fun H => SqL K H a ys)
    (fun i H v H' => ∃ T c y, v = .ref T ∧ H T = none ∧ H' = upd H T (.tup [.str ⟨#[c]⟩, y]) ∧ x.cps[i]? = some c ∧ ys[i]? = some y) := by
  refine ⟨fun i H hi q => ⟨by omega, ys, ys[i]'(by omega), q, by simp [show i < ys.length by omega]⟩, fun H q => ⟨ys, q, by omega, by omega, by omega⟩, fun i H v H' hi q y => ?_⟩
  obtain ⟨T, c, y, h1, h2, h3, h4, h5⟩ := y
  exact ⟨T, c, y, h1, h2, h3, h4, h5 ys q⟩
theorem walk_es {x : Str} : Walk (Jes x) x.cps.size (fun _ => True) (fun i H v H' => ∃ T c, v = .ref T ∧ H T = none ∧ H' = upd H T (.tup [.int (i : Nat), .str ⟨#[c]⟩]) ∧ x.cps[i]? = some c) :=
  ⟨fun _ _ hi _ => hi, fun _ _ => rfl, fun _ _ _ _ _ _ y => y⟩
end Ms

set_option Elab.async false
set_option linter.all false
set_option maxRecDepth 100000
set_option maxHeartbeats 4000000
/-! set(a text), its size. -/
namespace PySem
namespace St
open PyProof.Rows
def add1 (σ : List Nat) (c : Nat) : List Nat := if c ∈ σ then σ else σ ++ [c]
/-- the signs of a list, each once -/
def once (l : List Nat) : List Nat := l.foldl add1 []
theorem once_next (l : List Nat) (c : Nat) : once (l ++ [c]) = add1 (once l) c := by
  unfold once
  rw [List.foldl_append]
  rfl
theorem mem_add1 {σ : List Nat} {c d : Nat} : d ∈ add1 σ c ↔ d ∈ σ ∨ d = c := by
  unfold add1
  by_cases h : c ∈ σ
  · rw [if_pos h]
    exact ⟨.inl, fun q => q.elim id fun e => e ▸ h⟩
  · rw [if_neg h, List.mem_append, List.mem_singleton]
theorem len_add1 (σ : List Nat) (c : Nat) : (add1 σ c).length = if c ∈ σ then σ.length else σ.length + 1 := by
  unfold add1
  split
  · rfl
  · rw [List.length_append, List.length_singleton]
theorem fold_len : ∀ (l σ : List Nat), (l.foldl add1 σ).length ≤ σ.length + l.length ∧ (σ.Nodup → ((l.foldl add1 σ).length = σ.length + l.length ↔ (σ ++ l).Nodup))
  | [], σ => by simp
  | c :: r, σ => by
    obtain ⟨h1, h2⟩ := fold_len r (add1 σ c)
    show (r.foldl add1 (add1 σ c)).length ≤ σ.length + (r.length + 1) ∧ _
    by_cases h : c ∈ σ
    · have e : add1 σ c = σ := if_pos h
      rw [e] at h1 h2
      refine ⟨by rw [e]; omega, fun nd => ⟨fun q => ?_, fun q => ?_⟩⟩
      · have q' : (r.foldl add1 (add1 σ c)).length = σ.length + (r.length + 1) := q
        rw [e] at q'
        omega
      · exact absurd rfl ((List.nodup_append.mp q).2.2 c h c (List.mem_cons_self ..))
    · have e : add1 σ c = σ ++ [c] := if_neg h
      rw [e] at h1 h2
      rw [List.length_append, List.length_singleton] at h1 h2
      refine ⟨by rw [e]; omega, fun nd => ?_⟩
      have nd2 : (σ ++ [c]).Nodup := List.nodup_append.mpr ⟨nd, List.nodup_cons.mpr ⟨List.not_mem_nil, List.nodup_nil⟩, fun a ha b hb z => h (by rw [List.mem_singleton.mp hb] at z; rw [← z]; exact ha)⟩
      have q := h2 nd2
      rw [List.append_assoc] at q
      show (r.foldl add1 (add1 σ c)).length = σ.length + (r.length + 1) ↔ _
      rw [e, show σ.length + (r.length + 1) = σ.length + 1 + r.length by omega]
      exact q
theorem once_len (l : List Nat) : (once l).length ≤ l.length ∧ ((once l).length = l.length ↔ l.Nodup) := by
  obtain ⟨h1, h2⟩ := fold_len l []
  have q := h2 List.nodup_nil
  rw [List.length_nil, Nat.zero_add] at h1 q
  rw [List.nil_append] at q
  exact ⟨h1, q⟩
def one (c : Nat) : Str := ⟨#[c]⟩
theorem one_inj {c d : Nat} (h : one c = one d) : c = d := by
  have e := congrArg (fun y : Str => y.cps.toList) h
  exact (List.cons.inj e).1
/-- which keys stand in the set behind such signs -/
def has (σ : List Nat) (k : Str) : Bool := σ.any fun c => decide (k = one c)
theorem has_iff {σ : List Nat} {k : Str} : has σ k = true ↔ ∃ c ∈ σ, k = one c := by
  unfold has
  rw [List.any_eq_true]
  exact ⟨fun ⟨c, h, e⟩ => ⟨c, h, of_decide_eq_true e⟩, fun ⟨c, h, e⟩ => ⟨c, h, decide_eq_true e⟩⟩
theorem has_one {σ : List Nat} {c : Nat} : has σ (one c) = decide (c ∈ σ) := by
  rw [Bool.eq_iff_iff, has_iff, decide_eq_true_iff]
  exact ⟨fun ⟨d, h, e⟩ => by rw [one_inj e]; exact h, fun h => ⟨c, h, rfl⟩⟩
theorem has_next (σ : List Nat) (c : Nat) (k : Str) : (has σ k || decide (k = one c)) = has (add1 σ c) k := by
  rw [Bool.eq_iff_iff, Bool.or_eq_true, has_iff, has_iff, decide_eq_true_iff]
  constructor
  · rintro (⟨d, h, e⟩ | e)
    · exact ⟨d, mem_add1.mpr (.inl h), e⟩
    · exact ⟨c, mem_add1.mpr (.inr rfl), e⟩
  · rintro ⟨d, h, e⟩
    rcases mem_add1.mp h with h | h
    · exact .inl ⟨d, h, e⟩
    · rw [h] at e
      exact .inr e
section
variable {prog : Program} {w : World} {A : Around} {R : Result → Shared → Prop}
theorem key_one (c : Nat) (u : Tok) : (strKind prog w).is (one c) (.str (one c) u) = true := by simp [strKind, Value.isStrOf]
/-- the signs of a text from place i on go into the set at S -/
theorem fill_loop {I S : Addr} {x : Str} {T : Nat → Heap → Prop} (W : Walks prog w A.in1 I [I] [I] x.cps.size (SignAt x) T) (hSI : S ≠ I) (hb : x.cps.size + 1 < scanBound) :
    ∀ (m i : Nat) (s : Shared), x.cps.size - i = m → i ≤ x.cps.size → T i s.heap → s.heap.SetOf (strKind prog w) S (has (once (x.cps.toList.take i))) (once (x.cps.toList.take i)).length →
      (∀ h' tk, (∀ b o, b ≠ S → b ≠ I → s.heap.get? b = some o → h'.get? b = some o) → h'.SetOf (strKind prog w) S (has (once x.cps.toList)) (once x.cps.toList).length → R (.ok (.ret .none)) { s with heap := h', toks := tk }) →
      codeAny (model prog w) A (.builtin "set.update.loop" ⟨[.ref S, .ref I], []⟩) R s
  | 0, i, s, hm, hi, hT, hS, hR => by
    have e : i = x.cps.size := by omega
    subst e
    have el : x.cps.toList.take x.cps.size = x.cps.toList := List.take_of_length_le (by simp)
    rw [el] at hS
    refine codeAny_builtin F.entry_set_update_loop ?_
    rw [Around.under_plainId F.plain_set_update_loop _]
    show wpAny _ A.in1 (pyNext (.ref I) >>= _) _ _ s
    refine wpAny_bind (W.done s _ _ hT fun h' tk kp => ?_)
    show wpAny _ A.in1 (ret Value.none) _ _ _
    refine wpAny_pure (hR h' tk (fun b o _ n e => kp b o (fun q => n (List.mem_singleton.mp q)) e) ?_)
    obtain ⟨o, es, ep, t, ho, rest⟩ := hS
    exact ⟨o, es, ep, t, kp S _ (fun q => hSI (List.mem_singleton.mp q)) ho, rest⟩
  | m + 1, i, s, hm, hi, hT, hS, hR => by
    have hlt : i < x.cps.size := by omega
    refine codeAny_builtin F.entry_set_update_loop ?_
    rw [Around.under_plainId F.plain_set_update_loop _]
    show wpAny _ A.in1 (pyNext (.ref I) >>= _) _ _ s
    refine wpAny_bind (W.item i s _ _ hlt hT fun v h' tk hv hT' kp => ?_)
    obtain ⟨c, u, hc, rfl⟩ := hv
    have hS2 : h'.SetOf (strKind prog w) S (has (once (x.cps.toList.take i))) (once (x.cps.toList.take i)).length := by
      obtain ⟨o, es, ep, t, ho, rest⟩ := hS
      exact ⟨o, es, ep, t, kp S _ (fun q => hSI (List.mem_singleton.mp q)) ho, rest⟩
    have hc' : x.cps.toList[i]? = some c := by simpa using hc
    have et : x.cps.toList.take (i + 1) = x.cps.toList.take i ++ [c] := by rw [List.take_add_one, hc']; rfl
    have hroom : (once (x.cps.toList.take i)).length + 1 < scanBound := by
      have q := (once_len (x.cps.toList.take i)).1
      rw [List.length_take] at q
      omega
    show wpAny _ A.in1 (holding [Value.str (one c) u] (setAdd S (.str (one c) u)) >>= _) _ _ _
    refine wpAny_bind (wpAny_holding ?_)
    unfold setAdd
    refine wpAny_holding (wpAny_bind ((strKind prog w).pyHash (k := one c) (key_one c u) ?_))
    refine wpAny_setAddHashed_of (knd := strKind prog w) (s := { s with heap := h', toks := tk + 1 }) (key_one c u) rfl hS2 hroom fun h2 sb hS3 => ?_
    have hS4 : h2.SetOf (strKind prog w) S (has (once (x.cps.toList.take (i + 1)))) (once (x.cps.toList.take (i + 1))).length := by
      have e1 : (fun k' => has (once (x.cps.toList.take i)) k' || decide (k' = one c)) = has (once (x.cps.toList.take (i + 1))) := by
        funext k'
        rw [et, once_next, has_next]
      have e2 : (if has (once (x.cps.toList.take i)) (one c) then (once (x.cps.toList.take i)).length else (once (x.cps.toList.take i)).length + 1) = (once (x.cps.toList.take (i + 1))).length := by
        rw [et, once_next, len_add1, has_one]
        by_cases q : c ∈ once (x.cps.toList.take i)
        · rw [decide_eq_true q, if_pos rfl, if_pos q]
        · rw [decide_eq_false q, if_neg Bool.false_ne_true, if_neg q]
      rw [e1, e2] at hS3
      exact hS3
    refine wpAny_pure ⟨plainId_quiet F.plain_set_update_loop _, fill_loop W hSI hb m (i + 1) _ (by omega) hlt (W.frame _ _ _ hT' fun b hbI o e => ?_) hS4 fun h3 tk3 kp3 hS5 => ?_⟩
    · rw [sb.2 b (fun q => hSI (by rw [← q]; exact List.mem_singleton.mp hbI))]
      exact e
    · refine hR h3 tk3 (fun b o n1 n2 e => kp3 b o n1 n2 ?_) hS5
      rw [sb.2 b n1]
      exact kp b o (fun q => n2 (List.mem_singleton.mp q)) e
end
namespace F2
theorem sub_str_set : isSubtype (.type "str") (.type "set") = pure false := by rw [isSubtype_type]; kernel_rfl
theorem sub_str_frozenset : isSubtype (.type "str") (.type "frozenset") = pure false := by rw [isSubtype_type]; kernel_rfl
end F2
section
variable {prog : Program} {w : World} {A : Around} {E : Value → Shared → Prop} {s : Shared}
theorem call_set_text {x : Str} {t : Tok} {Q : Value → Shared → Prop} (hh : A.handled = none) (hb : x.cps.size + 1 < scanBound)
    (hQ : ∀ (h' : Heap) (tk : Nat), h'.SetOf (strKind prog w) s.heap.objs.size (has (once x.cps.toList)) (once x.cps.toList).length → (∀ b o, s.heap.get? b = some o → h'.get? b = some o) → Q (.ref s.heap.objs.size) { s with heap := h', toks := tk }) :
    wpAny (model prog w) A (call (.type "set") [.str x t]) Q E s := by
  obtain ⟨c, tl, hmro⟩ := F.called_set.mro
  have hmade := F.called_set.made
  have hsub := F.called_set.sub
  refine wpAny_call (codeAny_of_tree ?_)
  show wpAny _ _ (callAny (.type "set") _) _ _ _
  refine wpAny_pure ⟨Code.quiet_builtin _ (by decide +kernel), codeAny_builtin F.entry_type_call ?_⟩
  rw [Around.under_plain (weight_type_call_type "set" [.str x t] []) rfl]
  have k1 := F.called_set.notType
  have k2 := F.called_set.canCreate
  have k3 := F.typeCall_set_1 (.str x t)
  repeat (any_goals (first | assumption | wp_step))
  refine codeAny_mono (code_set_new_1 (.str x t) (E := E) (Q₁ := fun obj s₁ => ∃ led : Bool, obj = .ref s.heap.objs.size ∧ s₁ = { s with heap := s.heap.push { cls := .type "set", dict := none, data := .set #[] 0 (.fresh 0 0 led) } }) fun led => ⟨led, rfl, rfl⟩) fun r s₁ hr => ?_
  cases r with
  | error e => exact hr
  | ok fl =>
    cases fl with
    | ret obj =>
      obtain ⟨led, rfl, rfl⟩ := hr
      generalize hnew : ({ cls := .type "set", dict := none, data := .set #[] 0 (.fresh 0 0 led) } : Obj) = nu
      have hfree : nu.isFreed = false := by rw [← hnew]; rfl
      have hS : (s.heap.push nu).get? s.heap.objs.size = some nu := Heap.get?_push_size _ hfree
      have hT : Shared.TypeIs { s with heap := s.heap.push nu } (.ref s.heap.objs.size) "set" := ⟨_, hS, by rw [← hnew]⟩
      have k4 := F.called_set.init.lookup
      have k5 := F.called_set.init.bind (.ref s.heap.objs.size)
      repeat (any_goals (first | assumption | wp_step))
      refine codeAny_mono (codeAny_call_builtin (R := wants (fun r s₂ => r = .none ∧ ∃ h' tk, s₂ = { s with heap := h', toks := tk } ∧ h'.SetOf (strKind prog w) s.heap.objs.size (has (once x.cps.toList)) (once x.cps.toList).length ∧
          (∀ b o, s.heap.get? b = some o → h'.get? b = some o)) E) F.called_set.init.plain F.entry_set_init (check_set_init_1 hT ?_)) fun r₂ s₂ hr₂ => ?_
      · have k6 := F2.sub_str_set
        have k7 := F2.sub_str_frozenset
        have k8 : (Value.type "str" == Value.type "dict") = false := by decide
        subst hnew
        unfold Builtin.«set.__init__» noKeywords Builtin.Frozenset.updateFrom
        generalize hIt : pyIter = It
        wp_walk
        subst hIt
        refine wpAny_pyIter_str fun o T W h0 => ?_
        refine wpAny_bind (wpAny_runValue ?_)
        have ne : s.heap.objs.size ≠ (s.heap.push { cls := .type "set", dict := none, data := .set #[] 0 (.fresh 0 0 led) }).objs.size := by
          rw [Heap.size_push]
          exact Nat.ne_of_lt (Nat.lt_succ_self _)
        refine fill_loop (W _ (by simp [hh])) ne hb (x.cps.size - 0) 0 _ (by omega) (Nat.zero_le _) h0 ?hS0 ?hR
        case hS0 =>
          have g0 : ((s.heap.push { cls := .type "set", dict := none, data := .set #[] 0 (.fresh 0 0 led) }).push o).get? s.heap.objs.size = some { cls := .type "set", dict := none, data := .set #[] 0 (.fresh 0 0 led) } := Heap.get?_push_of_some _ hS
          exact SetOf_congr ((setObjOf_fresh (knd := strKind prog w) led).setOf g0 (by unfold scanBound; omega)) (fun _ => rfl) rfl
        case hR =>
          intro h' tk' kp hS'
          show wpAny _ _ _ _ _ _
          refine wpAny_pure ?_
          show wpAny _ _ (ret Value.none) _ _ _
          refine wpAny_pure ⟨rfl, h', tk', rfl, hS', fun b o e => ?_⟩
          have lb := Heap.lt_size e
          refine kp b _ (Nat.ne_of_lt lb) ?_ (Heap.get?_push_of_some _ (Heap.get?_push_of_some _ e))
          rw [Heap.size_push]
          exact Nat.ne_of_lt (Nat.lt_succ_of_lt lb)
      · cases r₂ with
        | error e => exact hr₂
        | ok fl₂ =>
          cases fl₂ with
          | ret r =>
            obtain ⟨rfl, h', tk, rfl, hS', hk'⟩ := hr₂
            repeat (any_goals (first | assumption | wp_step))
            exact hQ _ _ hS' hk'
          | _ => exact hr₂.elim
    | _ => exact hr.elim
end
end St
end PySem
namespace Ms
open PySem PySem.Spec PyProof.Rows L2
/-- len(set(text)) -/
def tLst (ta : TE) : TE := fun σ H Q => ta σ H fun x H1 => ∃ z : Str, x = .str z ∧ z.length ≤ 4000 ∧ ∀ m : Nat, m ≤ z.length → (m = z.length ↔ z.cps.toList.Nodup) → Q (.int m) H1
theorem pe_lst_set {X : Cx} {a : Expr} {ta : TE} {p p2 q pos : Pos} (hg : Gl X "len") (hm : X.mg "len" = none) (hg2 : Gl X "set") (hm2 : X.mg "set" = none) (ha : PE X a ta) (hc : X.calm = true := by rfl)
    (na : starEach [a] X.env = (false, eval a X.env) :: starEach [] X.env := by rfl) : PE X (.Call (.Name "len" p) [.Call (.Name "set" p2) [a] [] q] [] pos) (tLst ta) := by
  refine ⟨fun pins s σ H Q I h => Call_ (ld_blt I hg hm boot_len ?_)⟩
  refine PyProof.Rows.callWith_builtin1 (PyProof.Rows.args_cons ?_ rfl) rfl rfl
  refine Call_ (ld_blt I hg2 hm2 boot_set ?_)
  refine PyProof.Rows.callWith_type1 (PyProof.Rows.args_cons (thn (ha.run pins s σ H _ I h) fun v s1 ⟨x, H1, I1, r1, q1⟩ => PyProof.Rows.args_nil ?_) na) na rfl
  obtain ⟨z, rfl, hz, q1⟩ := q1
  obtain ⟨t, rfl⟩ := r1
  have ez : z.cps.size = z.length := rfl
  refine PySem.St.call_set_text (I1.ok.hd hc) (by rw [ez]; unfold scanBound; omega) fun h' tk hS hk => PyProof.Rows.args_nil ?_
  obtain ⟨o, es, ep, tb, ho, hex, hd, _, _, _, hf, hn⟩ := hS
  have I2 : Inv X pins σ H1 { s1 with heap := h', toks := tk } := I1.kept hk
  obtain ⟨l1, l2⟩ := PySem.St.once_len z.cps.toList
  have el : z.cps.toList.length = z.length := by simp [Str.length]
  rw [el] at l1 l2
  exact call_len_set ho hex hd hf (by rw [hn]; omega) ⟨.int (PySem.St.once z.cps.toList).length, H1, I2.tok _, ⟨_, by rw [hn]⟩, q1 _ l1 l2⟩
end Ms

set_option Elab.async false
set_option linter.all false
set_option maxRecDepth 100000
set_option maxHeartbeats 4000000
/-! An own exception whose __init__ says super().__init__(a text) and then keeps its one field. -/
namespace PySem
namespace Sx
open PySem.W PySem.Calls PyProof.Rows PySem.HandSPX
def iA (fld : Str) (p1 p2 : Pos) : Arguments := { posonlyargs := [], args := [{ arg := "self", annotation := none, pos := p1 }, { arg := fld, annotation := none, pos := p2 }], vararg := none, kwonlyargs := [], kw_defaults := [], kwarg := none, defaults := [] }
def iB (fld msg : Str) (p0 p1 p2 p3 p4 p5 q1 q2 q3 q4 : Pos) (j : Nat) : List Stmt :=
  [.Expr (.Call (.Attribute (.Call (.Name "super" p0) [] [] p1) "__init__" p2) [.Constant (.str msg) j p3] [] p4) p5, .Assign [.Attribute (.Name "self" q1) fld q2] (.Name fld q3) q4]
def iS (fld : Str) : Scope := { kind := .function, names := [(PySem.Str.ofString "self", .local), (fld, .local), (PySem.Str.ofString "__class__", .free), (PySem.Str.ofString "super", .globalImplicit)], isGenerator := false, isCoroutine := false, more := [] }
abbrev iF (fld msg qual : Str) (p1 p2 : Pos) (c0 c1 c2 c3 c4 c5 q1 q2 q3 q4 : Pos) (j : Nat) (doc pm : Value) (an : Option Addr) (cda : Addr) (ct : Value) (cc : Addr) : FuncData :=
  ksFn "__init__" qual (iA fld p1 p2) (iB fld msg c0 c1 c2 c3 c4 c5 q1 q2 q3 q4 j) (iS fld) .none .none doc pm an (.ref cda) ct cc
/-- what the written part says of the class nm, at C, and of its __init__, at fI -/
structure Txt (prog : Program) (K : Frag) (mg : Str → Option Value) (nm fld : Str) (C fI : Addr) : Prop where
  gC : mg nm = some (.ref C)
  cls : ∃ nm q N bs bm sn sub ab col dd k0 k1 k2 k3 k5, K.lookup C = some (excClassObj nm q C N bs bm true sn sub ab col dd k0 k1 k2 k3 k5 "ValueError.__new__") ∧ refsVE bm = true ∧ alongIn K "__init__" bm = some (some (.builtin "ValueError.__init__"))
  sa : findIn K (.ref C) "__setattr__" = some (some (.builtin "object.__setattr__"))
  ga : findIn K (.ref C) "__getattribute__" = some (some (.builtin "BaseException.__getattribute__"))
  gg : findIn K (.ref C) "__getattr__" = some none
  noN : findIn K (.ref C) fld = some none
  iC : findIn K (.ref C) "__init__" = some (some (.ref fI))
  tC : typeIn K (.ref fI) = some (.type "function")
  kC : keepIn K (.ref C) = true
  exC : subIn K (.ref C) (.type "BaseException") = some true
  vaC : subIn K (.ref C) (.type "ValueError") = some true
  meC : mroIn K C (.ref C) = some true
  tyC : typeIn K (.ref C) = some (.type "type")
  hdC : hasDictIn K C = true
  te : exmOne K (.ref C) (.ref C) = some true
  opq : nsIn K cStatics "thirdparty.any" = some none
  sup : mg "super" = none
  top : (prog.main.scope.names.lookup ("super" : Str)).isSome = false
  fne : (("self" : Str) == fld) = false
  fks : (iS fld).names.lookup ("super" : Str) = some .globalImplicit
  fkc : (iS fld).names.lookup ("__class__" : Str) = some .free
  fdb : (fld == ("__debug__" : Str)) = false
  fn : ∃ (qual msg : Str) (oc : Value) (od : Option Addr) (doc pm : Value) (an : Option Addr) (ct : Value) (osl : Array (Option Value)) (p1 p2 c0 c1 c2 c3 c4 c5 q1 q2 q3 q4 : Pos) (j : Nat) (cda cc : Addr) (ccl : Value) (cdd : Option Addr) (vs : Array Value) (ccs : Array (Option Value))
      (cl : Value) (cld : Option Addr) (csl : Array (Option Value)) (file : Str) (tf : Tok),
    K.lookup fI = some ⟨oc, od, .func (iF fld msg qual p1 p2 c0 c1 c2 c3 c4 c5 q1 q2 q3 q4 j doc pm an cda ct cc), osl⟩ ∧ codeIn K (.ref cda) qual = true ∧
    K.lookup cda = some ⟨ccl, cdd, .fields vs, ccs⟩ ∧ vs[2]? = some (.str file tf) ∧ ((prog.main.file : Str) == file) = true ∧ K.lookup cc = some ⟨cl, cld, .cell (some (.ref C)), csl⟩ ∧
    (∀ (s : Shared) (x v : Value), BindsTo s (iF fld msg qual p1 p2 c0 c1 c2 c3 c4 c5 q1 q2 q3 q4 j doc pm an cda ct cc) ⟨[x, v], []⟩ [("self", x), (fld, v)]) ∧
    ∃ pl : Sem Bool, ∀ L : Addr, eval (.Call (.Attribute (.Call (.Name "super" c0) [] [] c1) "__init__" c2) [.Constant (.str msg) j c3] [] c4) (callEnv (iF fld msg qual p1 p2 c0 c1 c2 c3 c4 c5 q1 q2 q3 q4 j doc pm an cda ct cc) L fI) = (do
      let ov ← attributeBase (.Call (.Name "super" c0) [] [] c1) "__init__" (callEnv (iF fld msg qual p1 p2 c0 c1 c2 c3 c4 c5 q1 q2 q3 q4 j doc pm an cda ct cc) L fI) (eval (.Call (.Name "super" c0) [] [] c1) (callEnv (iF fld msg qual p1 p2 c0 c1 c2 c3 c4 c5 q1 q2 q3 q4 j doc pm an cda ct cc) L fI))
      standAt c2.atName
      let (f, first) ← holding [ov] (getMethod ov "__init__" pl)
      callWith c4 f first (backTo c4 (starEach [.Constant (.str msg) j c3] (callEnv (iF fld msg qual p1 p2 c0 c1 c2 c3 c4 c5 q1 q2 q3 q4 j doc pm an cda ct cc) L fI))) [])
/-- what __init__ leaves of a fresh exception at x -/
structure End (fld : Str) (h h' : Heap) (x C dx t1 : Addr) (v : Value) : Prop where
  keep : ∀ b o, b ≠ x → h.get? b = some o → h'.get? b = some o
  obj : h'.get? x = some { cls := .ref C, dict := some dx, data := .fields #[.ref t1, .none, .none, .none, .bool false, .none] }
  dbig : h.objs.size ≤ dx
  dne : dx ≠ x
  ns : h'.Ns1 dx (fun y => if y = fld then some v else none)
theorem iS_lk {fld : Str} (h : (("self" : Str) == fld) = false) : (iS fld).names.lookup fld = some .local := by
  have h2 : (fld == ("self" : Str)) = false := by rw [BEq.comm]; exact h
  show List.lookup fld _ = _
  simp [iS, List.lookup, h2]
section
variable {prog : Program} {w : World} {A : Around} {E : Value → Shared → Prop} {R : Result → Shared → Prop} {s : Shared} {K : Frag} {mg mb : Str → Option Value} {nm fld : Str} {C fI : Addr}
theorem ex_init (T : Txt prog K mg nm fld C fI) {x t0 : Addr} {v : Value} (X : K.In s.heap) (hg : s.heap.Ns mainGlobals mg) (hb : s.heap.Ns builtinsNs mb) (hbs : mb "super" = some (.type "super")) (hlim : s.heap.NoLimit) (hx : s.heap.get? x = some (excO C t0)) (hxN : K.lookup x = none) (hroom : A.depth < recursionLimit)
    (hq : ∀ h' tk dx t1, End fld s.heap h' x C dx t1 v → R (.ok (.ret .none)) { s with heap := h', toks := tk }) :
    codeAny (model prog w) A (.call (.ref fI) ⟨[.ref x, v], []⟩) R s := by
  obtain ⟨qual, msg, oc, od, doc, pm, an, ct, osl, p1, p2, c0, c1, c2, c3, c4, c5, q1, q2, q3, q4, j, cda, cc, ccl, cdd, vs, ccs, cl, cld, csl, file, tf, ho, hcd, hco, hvs, hfile, hcell, hbind, pl, hev⟩ := T.fn
  obtain ⟨nm', q, N, bs, bm, sn, sub, ab, col, dd, k0, k1, k2, k3, k5, hC, hbm, hal⟩ := T.cls
  have hcl : clsIn K C = some { name := nm', bases := bs, mro := .ref C :: bm, ns := N, qualname := q, hasDict := true, slotNames := sn, subclasses := sub, abstract := ab, collection := col, hasDel := false } := by unfold clsIn; rw [hC] <;> rfl
  have fl := iS_lk T.fne
  have hxC : x ≠ C := fun e => by
    have z := X _ _ hC
    rw [← e, hx] at z
    cases z
  refine ks_codeAny_call_defAt (fd := iF fld msg qual p1 p2 c0 c1 c2 c3 c4 c5 q1 q2 q3 q4 j doc pm an cda ct cc) (binds := [("self", .ref x), (fld, v)]) hroom (X _ _ ho) rfl hlim (codeRec_of X hcd) rfl (hbind _ _ _) ?_ ?_ (fun h₁ hns k => ?_) rfl rfl rfl
  · intro y hy
    have hy' : y = (PySem.Str.ofString "self", NameKind.local) ∨ y = (fld, NameKind.local) ∨ y = (PySem.Str.ofString "__class__", NameKind.free) ∨ y = (PySem.Str.ofString "super", NameKind.globalImplicit) := by simpa [iS] using hy
    rcases hy' with rfl | rfl | rfl | rfl <;> exact fun z => nomatch z
  · intro y hy
    have hy' : y = (("self" : Str), Value.ref x) ∨ y = (fld, v) := by simpa using hy
    rcases hy' with rfl | rfl
    · rfl
    · exact fl
  have X₁ : K.In h₁ := X.keeps k
  have hx₁ := k _ _ hx
  have hD : h₁.get? C = some (excClassObj nm' q C N bs bm true sn sub ab col dd k0 k1 k2 k3 k5 "ValueError.__new__") := X₁ _ _ hC
  have ms : (fun y => ([(("self" : Str), Value.ref x), (fld, v)] : List (Str × Value)).reverse.lookup y) "self" = some (.ref x) := by
    show List.lookup ("self" : Str) [(fld, v), (("self" : Str), Value.ref x)] = _
    simp [List.lookup, T.fne]
  have mf : (fun y => ([(("self" : Str), Value.ref x), (fld, v)] : List (Str × Value)).reverse.lookup y) fld = some v := by
    show List.lookup fld [(fld, v), (("self" : Str), Value.ref x)] = _
    simp [List.lookup]
  obtain ⟨hh, g, d, tk, os⟩ := s
  -- super().__init__(..)
  refine ks_wpAt_execs_cons (ks_wpAt_Expr_any (ks_wpAt_MethodCall ?_ (hev _)))
  refine ks_wpAt_super_base T.fks T.fkc rfl rfl (X₁ _ _ ho) rfl rfl rfl (X₁ _ _ hco) rfl hvs hfile T.top ?_
  refine ks_loadName_global rfl T.fks (loadGlobal_builtin (hg.keeps k) T.sup (hb.keeps k) hbs ⟨rfl, ?_⟩)
  refine wpAny_loadName_free rfl T.fkc rfl ⟨_, X₁ _ _ hcell, rfl⟩ ?_
  refine wpAny_loadName_local rfl rfl hns ms ?_
  refine ks_wpAny_isType_cls hD rfl ⟨rfl, ?_⟩
  refine ks_wpAny_call_super hD rfl hx₁ rfl (fun c z => nomatch z) (looks_mroIn X₁ T.meC) (fun h₂ e₂ k₂ => ?_)
  have X₂ : K.In h₂ := X₁.keeps k₂
  have hx₂ := k₂ _ _ hx₁
  have J₂ : InstAt h₂ x (excO C t0) C none := ⟨hx₂, rfl, rfl, trivial⟩
  refine kxs_getMethod kxs_ValueError e₂ (looks_opaque X₂ T.opq) (l₀ := .ref C :: bm) (fun A Q E s k q => wpAny_bind ((looks_clsIn X₂ hcl) A _ E s k (wpAny_pure q))) (l := bm) ?_ X₂ hal (J₂.type.andThen (looks_subIn X₂ T.vaC)) hxC (by decide) ?_
  · simp [List.dropWhile_cons]
  have eu : (h₂.push (kxs_mw "ValueError.__init__" x)).get? h₂.objs.size = some (kxs_mw "ValueError.__init__" x) := Heap.get?_push_at rfl rfl
  have kp : ∀ b o, h₂.get? b = some o → (h₂.push (kxs_mw "ValueError.__init__" x)).get? b = some o := fun b o e => Heap.get?_push_of_some _ e
  refine kxs_callWith (i := "ValueError.__init__") (x := x) rfl (evalArgs_plain (spliced_cons ?_))
  refine @Calls.Constant_str _ _ _ _ _ _ j c3 _ (wpAny_pure ⟨eu, ?_⟩)
  generalize h₂.objs.size = u at eu
  generalize h₂.push (kxs_mw "ValueError.__init__" x) = h₃ at eu kp
  have X₃ : K.In h₃ := X₂.keeps kp
  refine wpAny_call (codeAny_of_tree ?_)
  show wpAny _ _ (callAny (.ref u) ⟨_, []⟩) _ _ _
  simp only [callAny]
  refine wpAny_bind (wpAny_load eu ?_)
  simp only [kxs_mw, show (Value.type "method-wrapper" == Value.type "method" || Value.type "method-wrapper" == Value.type "builtin_function_or_method" || Value.type "method-wrapper" == Value.type "method-wrapper") = true by decide, if_true]
  refine KFB.if_so (by decide) ?_
  refine wpAny_bind (check_bound_init F.excBase_ValueError.toExcCallFacts (X₃ _ _ hC) (kp _ _ hx₂) rfl ?_)
  refine wpAny_bind (wpAny_pure (wpAny_pure ?_))
  refine ⟨plainId_quiet F.excBase_ValueError.init.plain _, codeAny_builtin F.excBase_ValueError.initEntry ?_⟩
  refine exc_init_tree (cls := .ref C) (t0 := t0) (dv := none) (c2 := .none) (c3 := .none) (b4 := .bool false) (kp _ _ hx₂) (by show 1 ≤ sizeLine; decide) fun h₄ k₄ hx₄ _ => ?_
  generalize h₃.objs.size = t1 at hx₄
  -- self.fld = fld
  have old : ∀ b o, b ≠ x → h₁.get? b = some o → h₄.get? b = some o := fun b o n e => k₄ b o n (kp _ _ (k₂ _ _ e))
  have hL : hh.objs.size ≠ x := Nat.ne_of_gt (Heap.lt_size hx)
  have X₄ : K.In h₄ := fun a o e => k₄ a o (fun z => by rw [z, hxN] at e; cases e) (X₃ _ _ e)
  have nsX : h₄.Ns hh.objs.size (fun y => ([(("self" : Str), Value.ref x), (fld, v)] : List (Str × Value)).reverse.lookup y) := by
    obtain ⟨oL, es, ep, e, r⟩ := hns
    exact ⟨oL, es, ep, old _ _ hL e, r⟩
  refine ks_wpAt_execs_cons (ks_wpAt_Assign_Attr (wpAt_of_wpAny (wpAny_Name (wpAny_loadName_local rfl fl nsX mf ?_) T.fdb)))
  refine wpAny_Name (wpAny_loadName_local rfl rfl nsX ms ?_) (by decide)
  refine set_plain X₄ (ox := excO C t1) (od := none) ⟨hx₄, rfl, rfl, trivial⟩ T.sa ?_
  refine exc_osa X₄ hx₄ hcl (show refsVE (.ref C :: bm) = true from hbm) rfl T.noN (fun h₅ tk₅ dx k₅ dn dne hx₅ hn₅ => ?_)
  have lz : hh.objs.size < h₄.objs.size := by
    obtain ⟨oL, es, ep, e, r⟩ := nsX
    exact Heap.lt_size e
  exact wpAt_of_wpAny (wpAny_execs_nil (hq h₅ tk₅ dx t1 ⟨fun b o n e => k₅ b o n (old b o n (k b o e)), hx₅, Nat.le_of_lt (Nat.lt_of_lt_of_le lz dn), dne, hn₅⟩))
/-- a made one -/
structure Made (fld : Str) (h h' : Heap) (e C d : Addr) (v : Value) : Prop where
  keep : ∀ b o, h.get? b = some o → h'.get? b = some o
  new : h.objs.size ≤ e
  obj : ∃ t1 : Addr, h'.get? e = some { cls := .ref C, dict := some d, data := .fields #[.ref t1, .none, .none, .none, .bool false, .none] }
  dbig : h.objs.size ≤ d
  dne : d ≠ e
  ns : h'.Ns1 d (fun y => if y = fld then some v else none)
theorem ex_made (T : Txt prog K mg nm fld C fI) {v : Value} (X : K.In s.heap) (hg : s.heap.Ns mainGlobals mg) (hb : s.heap.Ns builtinsNs mb) (hbs : mb "super" = some (.type "super")) (hlim : s.heap.NoLimit) (hroom : A.depth + 1 < recursionLimit)
    (hq : ∀ h' tk e d, Made fld s.heap h' e C d v → R (.ok (.ret (.ref e))) { s with heap := h', toks := tk }) :
    codeAny (model prog w) A (.call (.ref C) ⟨[v], []⟩) R s := by
  obtain ⟨nm', q, N, bs, bm, sn, sub, ab, col, dd, k0, k1, k2, k3, k5, hC, hbm, hal⟩ := T.cls
  obtain ⟨hp, g, dr, tk, os⟩ := s
  have k : ∀ b o, hp.get? b = some o → ((hp.push (kdv_tup [v])).push (excO C hp.objs.size)).get? b = some o := fun b o e => Heap.get?_push_of_some _ (Heap.get?_push_of_some _ e)
  have hget : ((hp.push (kdv_tup [v])).push (excO C hp.objs.size)).get? (hp.objs.size + 1) = some (excO C hp.objs.size) := by heap_get
  have hnx : K.lookup (hp.objs.size + 1) = none := by
    cases e : K.lookup (hp.objs.size + 1) with
    | none => rfl
    | some o => exact absurd (Nat.lt_of_succ_lt (Heap.lt_size (X _ _ e))) (Nat.lt_irrefl _)
  refine call_own F.excBase_ValueError (fun X => refsVE_contains X bm hbm) (X _ _ hC) (looks_findIn X T.iC) (fun self => bind_fn X self T.tC) (by show 1 ≤ sizeLine; decide) ?_
  refine ex_init (s := ⟨(hp.push (kdv_tup [v])).push (excO C hp.objs.size), g, dr, tk, os⟩) T (X.keeps k) (hg.keeps k) (hb.keeps k) hbs (hlim.keeps k) hget hnx hroom fun h' tk' dx t1 M => ?_
  have old : ∀ b o, hp.get? b = some o → h'.get? b = some o := fun b o e => M.keep b o (Nat.ne_of_lt (Nat.lt_succ_of_lt (Heap.lt_size e))) (k b o e)
  have z : hp.objs.size ≤ dx := by
    have q := M.dbig
    rw [Heap.size_push, Heap.size_push] at q
    exact Nat.le_trans (Nat.le_trans (Nat.le_succ _) (Nat.le_succ _)) q
  exact ⟨rfl, hq h' tk' (hp.objs.size + 1) dx ⟨old, Nat.le_succ _, ⟨t1, M.obj⟩, z, M.dne, M.ns⟩⟩
end
end Sx
end PySem
namespace Ms
open PySem PySem.Spec PyProof.Rows L2
theorem relO_one {fld : Str} {v : V} {u : Value} (r : RelV v u) (f : Str) : RelO (List.lookup f [(fld, v)]) (if f = fld then some u else none) := relO_put (fs := []) (mA := fun _ => none) r (fun _ => True.intro) f
section
variable {X : Cx} {C fI : Addr} {nm fld : Str}
/-- nm(e) as an exception that is being made -/
def tMkS (fld : Str) (C : Addr) (ta : TA) : L2.St → Hp → XK → Prop := fun σ H Q => ta σ H fun vs H1 => ∃ v, vs = [v] ∧ ∀ d, H1 d = none → Q (.ref C) (some d) (upd H1 d (.xd [(fld, v)]))
theorem pmk_s {a : Expr} {ta : TA} {p pos : Pos} {k : Nat} (T : Sx.Txt X.prog X.K X.mg nm fld C fI) (hr : Room k X.A) (ha : PA X [a] ta) (hg : Gl X nm := by rfl) (hdb : (nm == ("__debug__" : Str)) = false := by decide)
    (he : starEach (a :: []) X.env = (false, eval a X.env) :: starEach [] X.env := by rfl) (hpl : (backTo pos (starEach [] X.env)).any (·.1) = false := by rfl) :
    PMk X (.Call (.Name nm p) [a] [] pos) (tMkS fld C ta) := by
  intro pins s σ H Q I h
  refine wpAny_Call_Name_kw (ld_glob I hg T.gC ?_ hdb)
  refine PySem.W.callWith_K (h₀ := X.base) I.ok.mod.kin T.kC (thn (ha.run pos pins s σ H _ I h) fun us s1 hh => ?_) he hpl
  obtain ⟨vs, H1, I1, r1, v, rfl, q1⟩ := hh
  refine ⟨I1.kIn, ?_⟩
  cases r1 with
  | @cons _ u' _ us' rv rn =>
    cases rn
    show wpAny _ _ (call (.ref C) [u']) _ _ _
    have hlim := I1.nolimit
    obtain ⟨mb, hb1, hb2⟩ := I1.mod.blt
    have hg1 := I1.mod.glob.keeps I1.bk
    have hb := hb1.keeps I1.bk
    have hbs : mb "super" = some (.type "super") := (hb2 _ (by decide)).trans (by decide +kernel)
    obtain ⟨hp, g, dr, tk, os⟩ := s1
    refine wpAny_call (Sx.ex_made T I1.kIn hg1 hb hbs hlim (by have := hr.dp; omega) fun h' tk' e d M => ?_)
    show MkP X pins σ Q (.ref e) ⟨h', g, dr, tk', os⟩
    obtain ⟨t1, hoe⟩ := M.obj
    have hns := M.ns
    obtain ⟨G', g1, g2⟩ := restrict h' fun b => decide (b ≠ e)
    have gk : ∀ b, b ≠ e → G'.get? b = h'.get? b := fun b hb => g1 b (decide_eq_true hb)
    have ge : G'.get? e = none := g2 e (by simp)
    have old : ∀ b o, hp.get? b = some o → G'.get? b = some o := fun b o q => (gk b (Nat.ne_of_lt (Nat.lt_of_lt_of_le (Heap.lt_size q) M.new))).trans (M.keep b o q)
    have ob : ObjOk X.prog X.w (upd H1 d (.xd [(fld, v)])) G' d (.xd [(fld, v)]) := ⟨_, hns.at (fun o q => (gk d M.dne).trans q), fun f => relO_one rv f⟩
    have J : Inv X pins σ (upd H1 d (.xd [(fld, v)])) ⟨G', g, dr, tk', os⟩ := I1.laid (t' := tk') old M.dbig ob
    refine ⟨e, _, _, ⟨G', g, dr, tk', os⟩, _, .ref C, some d, rfl, J, fun b o q => ?_, ge, hoe, ⟨rfl, rfl⟩, rfl, rfl, ?_, rfl, I1.bare, raises_own T.exC T.tyC, q1 d (I1.hok.fresh M.dbig)⟩
    · by_cases hb : b = e
      · have q' : G'.get? b = some o := q
        rw [hb, ge] at q'; cases q'
      · exact (gk b hb).symm.trans q
    · rw [upd_ne (Ne.symm M.dne)]
      exact I1.hok.fresh M.new
/-- raise nm(e) -/
def tRaiseS (fld : Str) (C : Addr) (W : WX) (ta : TA) : TS := fun _ σ H => tMkS fld C ta σ H fun cls d H' => W cls d σ H'
theorem ps_raiseS {a : Expr} {ta : TA} {W : WX} {p pos pos2 : Pos} {k : Nat} (hc : X.calm = true) (T : Sx.Txt X.prog X.K X.mg nm fld C fI) (hr : Room k X.A) (tk : Takes X W) (ha : PA X [a] ta) (hg : Gl X nm := by rfl) (hdb : (nm == ("__debug__" : Str)) = false := by decide)
    (he : starEach (a :: []) X.env = (false, eval a X.env) :: starEach [] X.env := by rfl) (hpl : (backTo pos (starEach [] X.env)).any (·.1) = false := by rfl) :
    PS X (.Raise (some (.Call (.Name nm p) [a] [] pos)) none pos2) (tRaiseS fld C W ta) := ps_raise hc tk (pmk_s T hr ha hg hdb he hpl)
/-- n.fld, n the exception that the suite holds (at a; its class cls, its dict d) -/
def tByS (fld : Str) (C : Addr) (a : Addr) (cls : Value) (d : Option Addr) (te : TE) : TE := fun σ H Q => te σ H fun x H1 => x = .ref a ∧ cls = .ref C ∧ ∃ (dd : Addr) (v : V), d = some dd ∧ H1 dd = some (.xd [(fld, v)]) ∧ Q v H1
theorem pe_byS {a : Addr} {oe : Obj} {cls : Value} {d : Option Addr} {pn : List (Addr × Obj)} {e : Expr} {te : TE} {pos : Pos} (T : Sx.Txt X.prog X.K X.mg nm fld C fI) (hz : Zc cls d oe) (hf : ∃ vs, oe.data = .fields vs) (he : PE (X.suite a ((a, oe) :: pn)) e te)
    (hb : attributeBase e fld X.env (eval e X.env) = eval e X.env := by rfl) :
    PE (X.suite a ((a, oe) :: pn)) (.Attribute e fld pos) (tByS fld C a cls d te) := by
  refine ⟨fun pins s σ H Q I h => attr_of hb (thn (he.run pins s σ H _ I h) fun u s1 hh => ?_)⟩
  obtain ⟨x, H1, I1, rx, rfl, rfl, dd, v, rfl, ea, q⟩ := hh
  obtain rfl : u = Value.ref a := rx
  obtain ⟨ha, _⟩ := I1.pin (a, oe) (List.mem_append_left _ List.mem_cons_self)
  obtain ⟨vs, hd⟩ := hf
  have hx : ObjOk X.prog X.w H1 s1.heap dd (.xd [(fld, v)]) := I1.hok dd _ ea
  obtain ⟨mA, hns, hr⟩ := hx
  obtain ⟨od, ho, hl⟩ := lookIn_ns hns
  have l : List.lookup fld [(fld, v)] = some v := by simp [List.lookup]
  obtain ⟨u, hu, ru⟩ := RelO.some_of (v := v) (o := mA fld) (by rw [← l]; exact hr fld)
  have J : PySem.W.InstAt s1.heap a oe C (some od) := ⟨ha, hz.1, by unfold PySem.W.notCls; rw [hd] <;> rfl, by rw [hz.2]; exact ho⟩
  exact HandSPX.exc_get I1.kIn J T.ga T.gg T.exC (PySem.W.findObj_own T.hdC T.noN rfl (by rw [hl, hu])) (handed_of ru) ⟨v, H1, I1.tok _, ru, q⟩
end
end Ms

set_option Elab.async false
set_option linter.all false
set_option maxRecDepth 100000
set_option maxHeartbeats 4000000
/-! try with several clauses, each with a name. -/
namespace Ms
open PySem PySem.Spec PyProof.Rows L2
/-- the ends of a suite whose name, in slot i, goes behind it -/
def offEnds (i : Nat) (D : Ends) : Ends := { nx := fun σ H => D.nx (σ.set i none) H, rt := D.rt, bk := fun σ H => D.bk (σ.set i none) H, ct := fun σ H => D.ct (σ.set i none) H }
abbrev Cl := Value × Nat × (Addr → Value → Option Addr → TS)
def wAll (K : PySem.W.Frag) (n : Nat) (Wo : WX) (D : Ends) : List Cl → WX
  | [] => Wo
  | (c, i, ts) :: r => fun cls d σ H => ∃ b, PySem.W.exmOne K cls c = some b ∧ (b = true → ∀ a, H a = none → σ.length = n → ts a cls d (offEnds i D) (σ.set i (some (.ref a))) H) ∧ (b = false → wAll K n Wo D r cls d σ H)
inductive Clauses (X : Cx) : List ExceptHandler → List Cl → Prop
  | nil : Clauses X [] []
  | cons {x n : Str} {c : Value} {i : Nat} {ts : Addr → Value → Option Addr → TS} {b₀ : Stmt} {su : List Stmt} {np pp : Pos} {hs : List ExceptHandler} {l : List Cl} (nc : Names X x c) (ni : X.N[i]? = some n) (nl : X.env.kindOf n = some .local)
      (sr : ∀ (a : Addr) (oe : Obj) (cls : Value) (d : Option Addr) (pn : List (Addr × Obj)), Zc cls d oe → (∃ vs, oe.data = .fields vs) → PSs (X.suite a ((a, oe) :: pn)) (b₀ :: su) (ts a cls d)) (r : Clauses X hs l) :
      Clauses X (.ExceptHandler (some (.Name x np)) (some n) (b₀ :: su) pp :: hs) ((c, i, ts) :: l)
section
variable {X : Cx} {pins : List (Addr × Obj)} {σ : L2.St} {H : Hp} {sI s : Shared} {B : Heap} {a : Addr} {cls : Value} {d : Option Addr} {D : Ends} {Wo : WX}
/-- an exception that has landed: it may be asked for its class, and flies on where no clause is its own -/
structure Landed (X : Cx) (pins : List (Addr × Obj)) (σ : L2.St) (H : Hp) (sI s : Shared) (B : Heap) (a : Addr) (cls : Value) (d : Option Addr) : Prop where
  inv : Inv X pins σ H sI
  nb : ∀ b o, sI.heap.get? b = some o → b ∉ frs X.stack → B.get? b = some o
  up : sI.heap.UpToSlots s.heap
  fly : HandSPX.FlyingZ B (X.env :: X.outer) a (Zc cls d) s.heap
  na : H a = none
  os : s.os = sI.os
  ag : AllBare s.gens
  nL : a ≠ X.env.locals
  nF : a ∉ X.fs
theorem Landed.here (F : Landed X pins σ H sI s B a cls d) : Inv X pins σ H s := F.inv.landed F.nb F.fly.1 F.up F.os F.ag
theorem clauses_run (hst : X.stack = X.env :: X.outer) (hfr : X.env.frame = some X.env.locals) (hN : X.N.Nodup) (tk : Takes X Wo) {hs : List ExceptHandler} {l : List Cl} (C : Clauses X hs l) :
    ∀ {s : Shared}, Landed X pins σ H sI s B a cls d → wAll X.K X.N.length Wo D l cls d σ H → wpAny (model X.prog X.w) X.A (handleBy (.ref a) X.env hs) (SP X pins D) X.xe s := by
  induction C with
  | nil =>
    intro s F q
    have fly := F.fly
    obtain ⟨_, _, _, oe, vs, T, _, _, he, _, hd, h1, _⟩ := id fly
    refine wpAny_handleBy_nil ?_
    unfold PySem.passOn
    refine wpAny_bind (wpAny_field he hd h1 ?_)
    rw [if_neg (show ¬ ((Value.ref T == Value.none) = true) by simp)]
    have go : wpAny (model X.prog X.w) X.A (setFlight (.ref a) X.env.frame) (fun _ s4 => wpAny (model X.prog X.w) X.A (throw (.ref a) : Sem Flow) (SP X pins D) X.xe s4) X.xe s := by
      rw [hfr]
      exact HandSPX.setFlight_upZ fly fun h4 y4 u4 => wpAny_throw (tk _ _ ⟨a, B, sI, pins, σ, H, cls, d, rfl, F.inv, F.nb, F.up.trans u4, .inr (.inr (by rw [hst]; exact y4)), F.na, F.os, F.ag, q⟩)
    first
      | exact wpAny_bind (wpAny_pure (wpAny_bind go))
      | exact wpAny_bind go
  | @cons x n c i ts b₀ su np pp hs l nc ni nl sr r ih =>
    intro s F q
    obtain ⟨hp, g, dr, tk0, os0⟩ := s
    obtain ⟨b, eb, yes, no⟩ := q
    have J := F.here
    obtain ⟨oe, vs, he, hz, hd⟩ := F.fly.there
    have S := J.suite he hd F.na F.nL F.nF
    have lt : PySem.W.Looks (model X.prog X.w) hp (typeOf (.ref a)) cls := fun A Q E s k y => wpAny_typeOf_ref (k _ _ he) (by rw [hz.1]; exact y)
    have lm := PySem.W.exm_one (M := model X.prog X.w) J.kIn lt eb
    have asked : ∀ {Q : Value → Shared → Prop} {E : Value → Shared → Prop}, Q c ⟨hp, g, dr, tk0, os0⟩ → wpAny (model X.prog X.w) (X.A.mark (some (.ref a))) (eval (.Name x np) X.env) Q E ⟨hp, g, dr, tk0, os0⟩ := fun {Q E} y => by
      obtain ⟨k1, k2, k3 | ⟨k3, k4, k5⟩⟩ := nc
      · exact ld_glob (X := X.suite a ((a, oe) :: (X.pn ++ pins))) S k1 k3 y k2
      · exact ld_blt (X := X.suite a ((a, oe) :: (X.pn ++ pins))) S k1 k3 k4 y k5 k2
    refine wpAny_handleBy_cons (codeAny_handlers_test ?_) (by intro z; cases z)
    refine asked (lm.here ?_)
    cases b with
    | false => exact ih F (no rfl)
    | true =>
      refine codeAny_handlers_suite_as (HandSPX.lands_againZ F.fly fun h4 f4 u4 => ?_)
      have F4 : Landed X pins σ H sI ⟨h4, g, dr, tk0, os0⟩ B a cls d := ⟨F.inv, F.nb, F.up.trans u4, f4, F.na, F.os, F.ag, F.nL, F.nF⟩
      obtain ⟨oe4, vs4, he4, hz4, hd4⟩ := F4.fly.there
      have S4 := F4.here.suite he4 hd4 F.na F.nL F.nF
      refine store_ok (X := X.suite a ((a, oe4) :: (X.pn ++ pins))) (v := .ref a) S4 hN ni (.inl nl) rfl (fun s5 S5 => ?_) (.inr nl)
      refine wpAny_mono ((sr a oe4 cls d (X.pn ++ pins) hz4 ⟨_, hd4⟩).run [] s5 _ H _ S5 (yes rfl a F.na F.inv.len)) (fun f s6 y => ?_) (fun _ _ z => z.elim)
      have off : ∀ {τ : L2.St} {H6 : Hp} {Q : Shared → Prop}, Inv (X.suite a ((a, oe4) :: (X.pn ++ pins))) [] τ H6 s6 → (∀ s7, Inv X pins (τ.set i none) H6 s7 → Q s7) →
          wpAny (model X.prog X.w) X.A (do bindName X.env n .none; unbindBehindTheSuite X.env n pp) (fun _ s7 => Q s7) X.xe s6 := fun {τ H6 Q} S6 k => gone_ok (S6.unsuite J.ok) hN ni nl k
      cases f with
      | ret u =>
        obtain ⟨v6, τ, H6, S6, r6, q6⟩ := y
        exact off S6 fun s7 J7 => ⟨_, _, _, J7, r6, q6⟩
      | next =>
        obtain ⟨τ, H6, S6, q6⟩ := y
        exact off S6 fun s7 J7 => ⟨_, _, J7, q6⟩
      | brk =>
        obtain ⟨τ, H6, S6, q6⟩ := y
        exact off S6 fun s7 J7 => ⟨_, _, J7, q6⟩
      | cont =>
        obtain ⟨τ, H6, S6, q6⟩ := y
        exact off S6 fun s7 J7 => ⟨_, _, J7, q6⟩
/-- try: body, except x as n: suite, except y as m: suite, .. -/
theorem ps_try_all {body : List Stmt} {h₀ : ExceptHandler} {hs : List ExceptHandler} {l : List Cl} {pos : Pos} {tb : WX → TS} (hst : X.stack = X.env :: X.outer) (hfr : X.env.frame = some X.env.locals) (hN : X.N.Nodup) (tk : Takes X Wo)
    (hb : ∀ (W : WX) (pn : List (Addr × Obj)) (xe : Value → Shared → Prop), Takes (X.tr pn xe) W → PassesOwn (model X.prog X.w) X.A X.env xe → PSs (X.tr pn xe) body (tb W)) (C : Clauses X (h₀ :: hs) l) :
    PS X (.Try body (h₀ :: hs) [] [] pos) (fun D σ H => tb (wAll X.K X.N.length Wo D l) D σ H) := by
  refine ⟨fun pins s σ H D I h => ?_⟩
  have ok := I.ok
  have frm : X.A.frames = some (X.env :: X.outer) := by rw [ok.frames, hst]
  refine wpAny_Try_except (wpAny_mono ((hb (wAll X.K X.N.length Wo D l) (X.pn ++ pins) _ (fun u s' y => ?_) PassesOwn.looking).run [] s σ H D (I.toTry _) h) (fun f s1 y => ?_) (fun _ _ z => z))
  · obtain ⟨a, B, sI, pins', σ', H', cls, d, rfl, J', nb, up, sky, na, os, ag, q⟩ := y
    show wpAny (model X.prog X.w) X.A (noteFrame (.ref a) X.env) _ _ _
    refine Sky.land Zc.steady frm hfr (by rw [← hst]; exact sky) fun h3 f3 u3 => ?_
    obtain ⟨oe, vs, he, hz, hd⟩ := f3.there
    have out : a ∉ frs (X.env :: X.outer) := fun hm => by
      obtain ⟨_, o', e', nf⟩ := f3.2.2.1.mem hm
      rw [he] at e'
      cases e'
      exact nf _ hd
    refine clauses_run hst hfr hN tk C (s := { s' with heap := h3 }) ⟨J'.ofTry ok, nb, up.trans u3, f3, na, os, ag, fun z => out (List.mem_filterMap.mpr ⟨X.env, List.mem_cons_self, by rw [hfr, z]⟩), fun hm => ?_⟩ q
    obtain ⟨e, he2, q2⟩ := List.mem_filterMap.mp hm
    exact out (List.mem_filterMap.mpr ⟨e, List.mem_cons_of_mem _ he2, q2⟩)
  · cases f with
    | next =>
      obtain ⟨σ', H', J', q⟩ := y
      exact wpAny_execs_nil ⟨σ', H', J'.ofTry ok, q⟩
    | ret u =>
      obtain ⟨v, σ', H', J', r, q⟩ := y
      exact ⟨v, σ', H', J'.ofTry ok, r, q⟩
    | brk =>
      obtain ⟨σ', H', J', q⟩ := y
      exact ⟨σ', H', J'.ofTry ok, q⟩
    | cont =>
      obtain ⟨σ', H', J', q⟩ := y
      exact ⟨σ', H', J'.ofTry ok, q⟩
end
end Ms

set_option Elab.async false
set_option linter.all false
set_option maxRecDepth 100000
set_option maxHeartbeats 4000000
/-! Defs with their code objects and defaults; tables; a lambda handed to a def that tries it; the end. -/
namespace Ms
open PySem PySem.Spec PyProof.Rows L2 LamX
/-- a def of the top: dvs its defaults, c its code object -/
structure FunC (K : PySem.W.Frag) (x qual : Str) (st : Stmt) (dvs : List V) (f : Addr) (fd : FuncData) (c : Addr) : Prop where
  ex : ∃ (oc : Value) (od : Option Addr) (dV kV doc pm : Value) (an : Option Addr) (ct : Value) (osl : Array (Option Value)),
    fd = PySem.W.fnOf x qual (defArgs st) (defBody st) (defScope st) dV kV doc pm an (.ref c) ct ∧ K.lookup f = some ⟨oc, od, .func fd, osl⟩ ∧ PySem.W.codeIn K (.ref c) qual = true ∧ DflV K dV dvs
  kp : PySem.W.keepIn K (.ref f) = true
section
variable {P : Program} {w : World} {K : PySem.W.Frag} {mg : Str → Option Value} {base : Heap} {x qual : Str} {st : Stmt} {dvs : List V} {f : Addr} {fd : FuncData} {c : Addr} {N ps : List Str} {k : Nat} {sp : Sp}
theorem FunC.toD (F : FunC K x qual st dvs f fd c) : FunD K x qual (defArgs st) (defBody st) (defScope st) dvs [] f fd := by
  obtain ⟨oc, od, dV, kV, doc, pm, an, ct, osl, h1, h2, h3, h4⟩ := F.ex
  exact ⟨⟨oc, od, dV, kV, doc, pm, an, .ref c, ct, osl, h1, h2, h3, h4, .inl rfl⟩, F.kp⟩
/-- a def that may let out what CX says -/
theorem FunC.okX {CX : CXT} (F : FunC K x qual st dvs f fd c) (S : FnScope N ps (defScope st)) (len : ∀ vs H Q E, sp vs H Q E → vs.length = ps.length)
    (hbody : ∀ (A : Around) (outer : List Env) (s : Shared) (H : Hp) (vs : List V) (Q : VK) (E : XK), Room k (A.deeper (envOfC qual (defScope st) s.heap.objs.size f (.ref c))) → sp vs H Q E →
      ∃ t, PSs (cxOf CX P w K mg base N qual (defScope st) f (.ref c) A outer s H E) (defBody st) t ∧ t { nx := fun _ H' => Q .non H', rt := Q } (start N vs) H) : FnOk P w K mg base CX (k + 1) f fd ps sp := by
  obtain ⟨oc, od, dV, kV, doc, pm, an, ct, osl, rfl, lk, hcd, _⟩ := F.ex
  exact fn_of lk hcd S len fun A outer s H vs Q E hr hsp => hbody A outer s H vs Q E hr hsp
/-- a def that lets nothing out -/
theorem FunC.ok (F : FunC K x qual st dvs f fd c) (S : FnScope N ps (defScope st)) (len : ∀ vs H Q E, sp vs H Q E → vs.length = ps.length)
    (hbody : ∀ (A : Around) (outer : List Env) (s : Shared) (H : Hp) (vs : List V) (Q : VK) (E : XK), Room k (A.deeper (envOfC qual (defScope st) s.heap.objs.size f (.ref c))) → sp vs H Q E →
      ∃ t, PSs (cxOf CX0 P w K mg base N qual (defScope st) f (.ref c) A outer s H E).nox (defBody st) t ∧ t { nx := fun _ H' => Q .non H', rt := Q } (start N vs) H) : FnOk P w K mg base CX0 (k + 1) f fd ps sp :=
  F.okX S len fun A outer s H vs Q E hr h => let ⟨t, a, b⟩ := hbody A outer s H vs Q E hr h; ⟨t, a.nox, b⟩
theorem FunC.binds (F : FunC K x qual st [] f fd c) (h : ∀ (kV doc pm : Value) (an : Option Addr) (ct : Value) (us : List Value), us.length = ps.length → bindArgs (PySem.W.fnOf x qual (defArgs st) (defBody st) (defScope st) .none kV doc pm an (.ref c) ct) ⟨us, []⟩ = pure (ps.zip us)) : Binds K fd ps [] := by
  obtain ⟨oc, od, dV, kV, doc, pm, an, ct, osl, rfl, lk, hcd, hd⟩ := F.ex
  rcases hd with ⟨_, rfl⟩ | ⟨z, _⟩
  · exact .all (h kV doc pm an ct)
  · exact absurd rfl z
theorem func_mk {oc : Value} {od an : Option Addr} {osl : Array (Option Value)} {dV kV doc pm ct : Value} (l : K.lookup f = some ⟨oc, od, .func (PySem.W.fnOf x qual (defArgs st) (defBody st) (defScope st) dV kV doc pm an (.ref c) ct), osl⟩)
    (hc : PySem.W.codeIn K (.ref c) qual = true) (hk : PySem.W.keepIn K (.ref f) = true) (hd : DflV K dV dvs) : FunC K x qual st dvs f (PySem.W.fnOf x qual (defArgs st) (defBody st) (defScope st) dV kV doc pm an (.ref c) ct) c :=
  ⟨⟨oc, od, dV, kV, doc, pm, an, ct, osl, rfl, l, hc, hd⟩, hk⟩
theorem dfl_one {t : Addr} {cl : Value} {dd : Option Addr} {n : Nat} {sl : Array (Option Value)} {v : V} {u : Value} (h : K.lookup t = some ⟨cl, dd, .seq #[u] n, sl⟩) (r : RelV v u) : DflV K (.ref t) [v] :=
  .inr ⟨List.cons_ne_nil _ _, t, _, [u], n, rfl, h, rfl, .cons r .nil⟩
end
/-! ### tables -/
/-- all but a and the tables is as it was -/
def Ext (a : Addr) (H H' : Hp) : Prop := ∀ b o, b ≠ a → H b = some o → (∀ ps, o ≠ .tbl ps) → H' b = some o
theorem tabs_at {T : List (Addr × Str)} {a : Addr} {H H' : Hp} {xs : List V} (t : Tabs T H) (ha : H a = some (.lst xs)) (k : ∀ b o, b ≠ a → H b = some o → H' b = some o) : Tabs T H' := fun p hp => by
  obtain ⟨ps, h1, h2, h3⟩ := t p hp
  refine ⟨ps, k _ _ (fun z => by rw [z, ha] at h1; cases h1) h1, h2, fun pos cv hc => ?_⟩
  obtain ⟨c, e1, e2⟩ := h3 pos cv hc
  exact ⟨c, e1, k _ _ (fun z => by rw [z, ha] at e2; cases e2) e2⟩
theorem Tabs.same {T : List (Addr × Str)} {H H' : Hp} (t : Tabs T H) (s : Same H H') : Tabs T H' := t.ext fun b o e => s b o e
theorem ExtN.lst {H H' : Hp} {a : Addr} {xs : List V} (e : ExtN H H') (h : H a = some (.lst xs)) : H' a = some (.lst xs) := e _ _ h fun _ z => by cases z
theorem ExtN.tup {H H' : Hp} {a : Addr} {xs : List V} (e : ExtN H H') (h : H a = some (.tup xs)) : H' a = some (.tup xs) := e _ _ h fun _ z => by cases z
theorem ExtN.same {H H1 H2 : Hp} (e : ExtN H H1) (s : Same H1 H2) : ExtN H H2 := e.trans (.of fun b o q => s b o q)
theorem Same.extN {H H1 H2 : Hp} (s : Same H H1) (e : ExtN H1 H2) : ExtN H H2 := (ExtN.of fun b o q => s b o q).trans e
theorem ExtN.seq {K : PySem.W.Frag} {H H' : Hp} {a : Addr} {xs : List V} (e : ExtN H H') (h : SqL K H a xs) : SqL K H' a xs := by
  rcases h with (h | ⟨o, h⟩) | h
  · exact .inl (.inl (e _ _ h fun _ z => by cases z))
  · exact .inl (.inr ⟨o, e _ _ h fun _ z => by cases z⟩)
  · exact .inr h
/-! ### a def tries what it got -/
/-- x = a() within a try: what is let out goes by Ech -/
def tAct (i : Nat) (f c' : Addr) (q : Str) (tl : XK → Hp → VK → Prop) (W : WX) : TS := fun D σ H => ∃ Ech : XK, (∀ cls d σ' H', Ech cls d H' → W cls d σ' H') ∧ σ[0]? = some (some (.ref f)) ∧ H c' = some (CodeO c' q) ∧ tl Ech H fun v H' => D.nx (σ.set i (some v)) H'
/-- a() within a try -/
def tActE (f c' : Addr) (q : Str) (tl : XK → Hp → VK → Prop) (W : WX) : TS := fun D σ H => ∃ Ech : XK, (∀ cls d σ' H', Ech cls d H' → W cls d σ' H') ∧ σ[0]? = some (some (.ref f)) ∧ H c' = some (CodeO c' q) ∧ tl Ech H fun _ H' => D.nx σ H'
theorem pss_act {Z : Cx} {i : Nat} {f c' : Addr} {q a x : Str} {tl : XK → Hp → VK → Prop} {W : WX} {px p1 p2 p3 : Pos}
    (act : ∀ (E : XK) (p1 p2 : Pos), (∀ cls d σ' H', E cls d H' → W cls d σ' H') → PE Z (.Call (.Name a p1) [] [] p2) (fun σZ HZ Q => σZ[0]? = some (some (.ref f)) ∧ HZ c' = some (CodeO c' q) ∧ tl E HZ Q))
    (nd : Z.N.Nodup) (hi : Z.N[i]? = some x) (hx : Loc Z.env.scope x) (hf : Z.fn x = true ∨ Z.env.scope.names.lookup x = some .local := by first | exact .inl rfl | exact .inr rfl)
    (hs : swapsWith (.Call (.Name a p1) [] [] p2) (some (.Name x px)) p3.line Z.env = pure false := by rfl) : PSs Z [.Assign [.Name x px] (.Call (.Name a p1) [] [] p2) p3] (tAct i f c' q tl W) := by
  refine ⟨fun pins s σ H D I h => ?_⟩
  obtain ⟨Ech, hW, h1, h2, h3⟩ := h
  exact (pss_one (ps_asg (act Ech p1 p2 hW) (pg_name nd hi hx hf) hs)).run pins s σ H D I ⟨h1, h2, h3⟩
/-! ### the end -/
/-- the tables of the named defs are empty -/
def OwnTabs (K : PySem.W.Frag) (mg : Str → Option Value) (q : Program) (h : Heap) : Prop := ∀ (x : Str) (fb : Addr), ((recsOf q).any fun e => e.name == x) = true → mg x = some (.ref fb) → OwnTab K fb h
theorem walk_tabs {l : PySem.W.OpenLaw} {n k : Nat} {q : Program} {loose : List Str} {XP : (Str → Option Value) → Heap → Prop} {YP : World → Heap → Prop} {d : DefRec} {K : Params → PySem.W.Frag} {CX : World → CXT} {x : Str}
    (hn : l.most = some n) (hn2 : n ≤ sizeLine) (hdf : d.params.defaults = []) (hr : Room k callerA) (hY : ∀ (w : World) (h : Heap), YP w h → (K w.params).In h)
    (F : ∀ (w : World) (mg : Str → Option Value) (fa : Addr) (h : Heap), (K w.params).In h → h.Ns mainGlobals mg → mg d.name = some (.ref fa) → OwnTabs (K w.params) mg q h → LawAtS l w (K w.params) (CX w) k n x mg fa h)
    (hCX : ∀ (w : World) (H : Hp) (s : Shared) (e : Value) (s' : Shared), CX w [] H s (fun _ _ _ => False) e s' → False) :
    PySem.W.WalkO q loose XP YP l.row.toRowW d [] (fun f vs => PySem.call f vs) := by
  refine Att.attach_callB hn hdf fun w s₀ s₁ mg mb fa o pm cd doc a vs ns G Y ho hd hcd hmg hobj hints hlen hbits hg => ?_
  have KX := hY w _ Y
  have own : OwnTabs (K w.params) mg q s₁.heap := fun x fb hx hb c P o1 fd1 e dd vs1 sl k1 k2 k3 k4 k5 => by
    obtain ⟨dL, hm, hn1⟩ := List.any_eq_true.mp hx
    obtain ⟨a', o', fd', c', P', h1, h2, h3, h4, _, ⟨⟨oc, vc, e1, _, e3, e4⟩, hP⟩⟩ := G.T.tab dL hm
    rw [beq_iff_eq.mp hn1, hb] at h1
    cases h1
    rw [KX _ _ k1] at h2
    cases h2
    rw [k2] at h3
    cases h3
    rw [k3] at h4
    cases h4
    rw [KX _ _ k4] at e1
    cases e1
    cases e3
    rw [k5] at e4
    cases e4
    exact hP
  obtain ⟨fd, cs, sp, hT, nT, C, hb, hsp, hF⟩ := F w mg fa _ KX G.T.g hmg own
  exact law_callTs KX G.T.g G.T.b G.T.builtins G.T.nolimit hg hT nT C G.T.bmain hobj hints (Nat.le_trans hlen hn2) hr hF hb (fun H hH hS => hsp H a ns hlen hbits hH hS) fun H e s' => hCX w H s₁ e s'
end Ms

set_option Elab.async false
set_option linter.all false
set_option maxRecDepth 100000
set_option maxHeartbeats 4000000
/-! An own exception's facts, from what is written; tables at the end. -/
namespace PySem
namespace Sx
open PySem.W PySem.Calls PyProof.Rows PySem.HandSPX
theorem Txt.of {prog : Program} {K : Frag} {h : Heap} {mg : Str → Option Value} {nm fld : Str} {C fI : Addr} (X : K.In h) (G : h.Ns mainGlobals mg)
    {nm' q : Str} {N : Addr} {bs bm : List Value} {sn sub ab col dd k0 k1 k2 k3 k5}
    {qual msg : Str} {oc : Value} {od : Option Addr} {doc pm : Value} {an : Option Addr} {ct : Value} {osl : Array (Option Value)} {p1 p2 c0 c1 c2 c3 c4 c5 q1 q2 q3 q4 : Pos} {j : Nat} {cda cc : Addr} {ccl : Value} {cdd : Option Addr} {vs : Array Value} {ccs : Array (Option Value)}
    {cl : Value} {cld : Option Addr} {csl : Array (Option Value)} {file : Str} {tf : Tok}
    (gC : nsIn K mainGlobals nm = some (some (.ref C)))
    (cls1 : K.lookup C = some (excClassObj nm' q C N bs bm true sn sub ab col dd k0 k1 k2 k3 k5 "ValueError.__new__")) (cls2 : refsVE bm = true) (cls3 : alongIn K "__init__" bm = some (some (.builtin "ValueError.__init__")))
    (sa : findIn K (.ref C) "__setattr__" = some (some (.builtin "object.__setattr__")))
    (ga : findIn K (.ref C) "__getattribute__" = some (some (.builtin "BaseException.__getattribute__")))
    (gg : findIn K (.ref C) "__getattr__" = some none)
    (noN : findIn K (.ref C) fld = some none)
    (iC : findIn K (.ref C) "__init__" = some (some (.ref fI)))
    (tC : typeIn K (.ref fI) = some (.type "function"))
    (kC : keepIn K (.ref C) = true)
    (exC : subIn K (.ref C) (.type "BaseException") = some true)
    (vaC : subIn K (.ref C) (.type "ValueError") = some true)
    (meC : mroIn K C (.ref C) = some true)
    (tyC : typeIn K (.ref C) = some (.type "type"))
    (isC : isClsIn K C = true)
    (hdC : hasDictIn K C = true)
    (opq : nsIn K cStatics "thirdparty.any" = some none)
    (sup : nsIn K mainGlobals "super" = some none)
    (l1 : K.lookup fI = some ⟨oc, od, .func (iF fld msg qual p1 p2 c0 c1 c2 c3 c4 c5 q1 q2 q3 q4 j doc pm an cda ct cc), osl⟩) (l2 : codeIn K (.ref cda) qual = true)
    (l3 : K.lookup cda = some ⟨ccl, cdd, .fields vs, ccs⟩) (l4 : vs[2]? = some (.str file tf)) (l5 : ((prog.main.file : Str) == file) = true) (l6 : K.lookup cc = some ⟨cl, cld, .cell (some (.ref C)), csl⟩)
    (top : (prog.main.scope.names.lookup ("super" : Str)).isSome = false)
    (fne : (("self" : Str) == fld) = false)
    (fks : (iS fld).names.lookup ("super" : Str) = some .globalImplicit)
    (fkc : (iS fld).names.lookup ("__class__" : Str) = some .free)
    (fdb : (fld == ("__debug__" : Str)) = false)
    (te : exmOne K (.ref C) (.ref C) = some true)
    (bnd : ∀ (s : Shared) (x v : Value), BindsTo s (iF fld msg qual p1 p2 c0 c1 c2 c3 c4 c5 q1 q2 q3 q4 j doc pm an cda ct cc) ⟨[x, v], []⟩ [("self", x), (fld, v)])
    (ev : ∃ pl : Sem Bool, ∀ L : Addr, eval (.Call (.Attribute (.Call (.Name "super" c0) [] [] c1) "__init__" c2) [.Constant (.str msg) j c3] [] c4) (callEnv (iF fld msg qual p1 p2 c0 c1 c2 c3 c4 c5 q1 q2 q3 q4 j doc pm an cda ct cc) L fI) = (do
      let ov ← attributeBase (.Call (.Name "super" c0) [] [] c1) "__init__" (callEnv (iF fld msg qual p1 p2 c0 c1 c2 c3 c4 c5 q1 q2 q3 q4 j doc pm an cda ct cc) L fI) (eval (.Call (.Name "super" c0) [] [] c1) (callEnv (iF fld msg qual p1 p2 c0 c1 c2 c3 c4 c5 q1 q2 q3 q4 j doc pm an cda ct cc) L fI))
      standAt c2.atName
      let (f, first) ← holding [ov] (getMethod ov "__init__" pl)
      callWith c4 f first (backTo c4 (starEach [.Constant (.str msg) j c3] (callEnv (iF fld msg qual p1 p2 c0 c1 c2 c3 c4 c5 q1 q2 q3 q4 j doc pm an cda ct cc) L fI))) [])) :
    Txt prog K mg nm fld C fI :=
  { gC := mg_of X G gC, cls := ⟨_, _, _, _, _, _, _, _, _, _, _, _, _, _, _, cls1, cls2, cls3⟩, sa := sa, ga := ga, gg := gg, noN := noN, iC := iC, tC := tC, kC := kC, exC := exC, vaC := vaC, meC := meC, tyC := tyC, hdC := hdC, te := te, opq := opq, sup := mg_none_of X G sup, top := top, fne := fne, fks := fks, fkc := fkc, fdb := fdb,
    fn := ⟨_, _, _, _, _, _, _, _, _, _, _, _, _, _, _, _, _, _, _, _, _, _, _, _, _, _, _, _, _, _, _, _, _, l1, l2, l3, l4, l5, l6, bnd, ev⟩ }
end Sx
end PySem

set_option Elab.async false
set_option linter.all false
set_option maxRecDepth 100000
set_option maxHeartbeats 4000000
/-! isinstance(e, ValueError) of an own exception: True. -/
namespace Ms
open PySem PySem.Spec PyProof.Rows L2 LamX PySem.W
theorem isi_sub {prog : Program} {w : World} {A : Around} {E : Value → Shared → Prop} {s : Shared} {K : PySem.W.Frag} {a C : Addr} {Q : Value → Shared → Prop} (X : K.In s.heap)
    (ty : PySem.W.Looks (model prog w) s.heap (typeOf (.ref a)) (.ref C)) (sb : subIn K (.ref C) (.type "ValueError") = some true) (hq : Q (.bool true) s) : wpAny (model prog w) A (call (.builtin "isinstance") [.ref a, .type "ValueError"]) Q E s := by
  refine call_isinstance_of ?_
  show wpAny _ _ (typeOf (.ref a) >>= fun t => if (t == Value.type "ValueError") = true then _ else _) _ _ _
  refine wpAny_bind (ty _ _ _ s (fun _ _ e => e) ?_)
  rw [if_neg (by simp)]
  rw [show typeOf (Value.type "ValueError") = pure (Value.type "type") from rfl]
  refine wpAny_bind (wpAny_pure ?_)
  rw [if_pos (by decide)]
  refine wpAny_bind ?_
  show wpAny _ _ (PySem.isType (.type "ValueError") >>= fun r => if (!r) = true then _ else _) _ _ _
  rw [show PySem.isType (Value.type "ValueError") = pure true from rfl]
  refine wpAny_bind (wpAny_pure ?_)
  rw [if_neg (by decide)]
  show wpAny _ _ (PySem.isInstance (.ref a) (.type "ValueError") >>= fun r => if r = true then pure true else _) _ _ _
  refine wpAny_bind ?_
  show wpAny _ _ (typeOf (.ref a) >>= fun t => isSubtype t (.type "ValueError")) _ _ _
  refine wpAny_bind (ty _ _ _ s (fun _ _ e => e) ?_)
  refine (looks_subIn X sb) _ _ _ s (fun _ _ e => e) ?_
  rw [if_pos rfl]
  exact wpAny_pure (wpAny_pure hq)
/-- isinstance(n, ValueError), n the exception that the suite holds -/
theorem call_isV {X : Cx} {a : Addr} {oe : Obj} {cls : Value} {d : Option Addr} {pn : List (Addr × Obj)} (hz : Zc cls d oe) (hf : ∃ vs, oe.data = .fields vs) :
    CallR (X.suite a ((a, oe) :: pn)) (.builtin "isinstance") (fun xs H Q => ∃ C, xs = [.ref a, .ty "ValueError"] ∧ cls = .ref C ∧ subIn X.K (.ref C) (.type "ValueError") = some true ∧ Q (.bl true) H) := by
  rintro pins s σ H xs us Q I r ⟨C, rfl, rfl, sb, q⟩
  cases r with
  | @cons _ u _ us rx rr =>
    cases rr with
    | @cons _ u2 _ us2 rt rr =>
      cases rr
      obtain rfl : u = Value.ref a := rx
      obtain rfl : u2 = Value.type "ValueError" := rt
      obtain ⟨ha, _⟩ := I.pin (a, oe) (List.mem_append_left _ List.mem_cons_self)
      obtain ⟨vs, hd⟩ := hf
      refine isi_sub I.kIn (fun A Q E s k y => wpAny_typeOf_ref (k _ _ ha) (by rw [hz.1]; exact y)) sb ?_
      exact ⟨.bl true, H, I, rfl, q⟩
end Ms

set_option Elab.async false
set_option linter.all false
set_option maxRecDepth 100000
set_option maxHeartbeats 4000000
/-! a text times a number -/
namespace Ms
open PySem PySem.Spec PyProof.Rows L2
theorem op_mulS {X : Cx} : OpR X (binaryOp .Mult) (fun x y H Q => ∃ z n, x = .str z ∧ y = .int n ∧ MulOk z n ∧ Q (.str (Txt.mul z n)) H) := by
  intro pins s σ H x y v u Q I rx ry h
  obtain ⟨z, n, rfl, rfl, hm, q⟩ := h
  obtain ⟨t, rfl⟩ := rx
  obtain ⟨t2, rfl⟩ := ry
  exact SB.mul hm fun t' k => ⟨.str _, H, I.tok _, ⟨t', rfl⟩, q⟩
end Ms

set_option Elab.async false
set_option linter.all false
set_option maxRecDepth 100000
set_option maxHeartbeats 4000000
/-! a tuple of a number and a list of numbers, less than another. -/
namespace Ms
open PySem PySem.Spec PyProof.Rows L2
theorem ints_at {xs : List Value} {ns : List Int} (h : IntsAre xs ns) : ∀ (i : Nat), (xs[i]? = none ∧ ns[i]? = none) ∨ ∃ n t, xs[i]? = some (.int n t) ∧ ns[i]? = some n := by
  induction h with
  | nil => intro i; exact .inl ⟨rfl, rfl⟩
  | cons n t _ ih =>
    intro i
    cases i with
    | zero => exact .inr ⟨n, t, rfl, rfl⟩
    | succ i => exact ih i
theorem ints_len {xs : List Value} {ns : List Int} (h : IntsAre xs ns) : xs.length = ns.length := by
  induction h with
  | nil => rfl
  | cons n t _ ih => rw [List.length_cons, List.length_cons, ih]
theorem drop_at {ns : List Int} {i : Nat} {n : Int} (h : ns[i]? = some n) : ns.drop i = n :: ns.drop (i + 1) := by
  obtain ⟨hl, e⟩ := List.getElem?_eq_some_iff.mp h
  rw [List.drop_eq_getElem_cons hl, e]
theorem drop_no {ns : List Int} {i : Nat} (h : ns[i]? = none) : ns.drop i = [] := List.drop_eq_nil_of_le (List.getElem?_eq_none_iff.mp h)
theorem ll_loop {prog : Program} {w : World} {la lb : Addr} {xs ys : Array Value} {ns ms : List Int} (hx : IntsAre xs.toList ns) (hy : IntsAre ys.toList ms) :
    ∀ (k i : Nat), ns.length - i = k → i ≤ ns.length → i ≤ ms.length → ∀ {A : Around} {R : Result → Shared → Prop} {s : Shared}, s.heap.IsList la xs → s.heap.IsList lb ys → R (.ok (.ret (.bool (HT.lexLt (ns.drop i) (ms.drop i))))) s →
      codeAny (model prog w) A (.builtin "list.__eq__.loop" ⟨[.ref la, .ref lb, rawInt (i : Nat), rawInt (0 : Nat)], []⟩) R s := by
  have l1 : xs.size = ns.length := by rw [← ints_len hx]; simp
  have l2 : ys.size = ms.length := by rw [← ints_len hy]; simp
  have ex0 : ∀ i, ns[i]? = none → xs[((i : Nat) : Int).toNat]? = none := fun i e => by
    rcases ints_at hx i with ⟨a, b⟩ | ⟨n, t, a, b⟩
    · simpa using a
    · rw [e] at b; cases b
  have ey0 : ∀ i, ms[i]? = none → ys[((i : Nat) : Int).toNat]? = none := fun i e => by
    rcases ints_at hy i with ⟨a, b⟩ | ⟨n, t, a, b⟩
    · simpa using a
    · rw [e] at b; cases b
  have ex1 : ∀ i n, ns[i]? = some n → ∃ t, xs[((i : Nat) : Int).toNat]? = some (.int n t) := fun i n e => by
    rcases ints_at hx i with ⟨a, b⟩ | ⟨n', t, a, b⟩
    · rw [e] at b; cases b
    · rw [e] at b; cases b
      exact ⟨t, by simpa using a⟩
  have ey1 : ∀ i n, ms[i]? = some n → ∃ t, ys[((i : Nat) : Int).toNat]? = some (.int n t) := fun i n e => by
    rcases ints_at hy i with ⟨a, b⟩ | ⟨n', t, a, b⟩
    · rw [e] at b; cases b
    · rw [e] at b; cases b
      exact ⟨t, by simpa using a⟩
  intro k
  induction k with
  | zero =>
    intro i hk hi1 hi2 A R s h1 h2 hq
    obtain ⟨o1, g1, c1, n1, d1⟩ := h1
    obtain ⟨o2, g2, c2, n2, d2⟩ := h2
    refine codeAny_builtin MeetsSeq3.entry_eq_loop ?_
    refine wpAny_bind (wpAny_listItems g1 d1 ?_)
    refine wpAny_bind (wpAny_listItems g2 d2 ?_)
    have e1 : ns[i]? = none := List.getElem?_eq_none_iff.mpr (by omega)
    rw [ex0 i e1]
    refine wpAny_bind (wpAny_listItems g1 d1 ?_)
    refine wpAny_bind (wpAny_listItems g2 d2 ?_)
    refine wpAny_pure ?_
    show R (.ok (.ret (.bool (decide (xs.size < ys.size))))) s
    rw [drop_no e1] at hq
    cases e2 : ms[i]? with
    | none =>
      rw [drop_no e2, HT.lexLt_nil_nil] at hq
      have := List.getElem?_eq_none_iff.mp e2
      rw [decide_eq_false (by omega)]
      exact hq
    | some m =>
      rw [drop_at e2, HT.lexLt_nil_cons] at hq
      have := (List.getElem?_eq_some_iff.mp e2).1
      rw [decide_eq_true (by omega)]
      exact hq
  | succ k ih =>
    intro i hk hi1 hi2 A R s h1 h2 hq
    have h1' := h1
    have h2' := h2
    obtain ⟨o1, g1, c1, n1, d1⟩ := h1
    obtain ⟨o2, g2, c2, n2, d2⟩ := h2
    refine codeAny_builtin MeetsSeq3.entry_eq_loop ?_
    refine wpAny_bind (wpAny_listItems g1 d1 ?_)
    refine wpAny_bind (wpAny_listItems g2 d2 ?_)
    have hl : i < ns.length := by omega
    have e1 : ns[i]? = some ns[i] := List.getElem?_eq_getElem hl
    obtain ⟨t, ex⟩ := ex1 i _ e1
    rw [ex]
    rw [drop_at e1] at hq
    cases e2 : ms[i]? with
    | none =>
      rw [ey0 i e2]
      refine wpAny_bind (wpAny_listItems g1 d1 ?_)
      refine wpAny_bind (wpAny_listItems g2 d2 ?_)
      refine wpAny_pure ?_
      show R (.ok (.ret (.bool (decide (xs.size < ys.size))))) s
      rw [drop_no e2, HT.lexLt_cons_nil] at hq
      have := List.getElem?_eq_none_iff.mp e2
      rw [decide_eq_false (by omega)]
      exact hq
    | some m =>
      obtain ⟨u, ey⟩ := ey1 i m e2
      rw [ey]
      rw [drop_at e2, HT.lexLt_cons] at hq
      refine wpAny_bind (wpAny_eqBool_int ?_)
      by_cases h : ns[i] = m
      · rw [if_pos h] at hq
        rw [if_pos (by simpa using h)]
        refine wpAny_pure ⟨plainId_quiet MeetsSeq3.plain_eq_loop _, ?_⟩
        exact ih (i + 1) (by omega) (by omega) (by have := (List.getElem?_eq_some_iff.mp e2).1; omega) h1' h2' hq
      · rw [if_neg h] at hq
        rw [if_neg (by simpa using h)]
        refine wpAny_bind (wpAny_listItems g1 d1 ?_)
        refine wpAny_bind (wpAny_listItems g2 d2 ?_)
        rw [ex, ey]
        refine wpAny_bind (HT.rcLt_int _ _ _ _ _ _ _ _ _ _ ?_)
        exact wpAny_pure hq
/-- two lists of numbers, the one less than the other -/
theorem ll_lt {prog : Program} {w : World} {A : Around} {E : Value → Shared → Prop} {s : Shared} {la lb : Addr} {xs ys : Array Value} {ns ms : List Int} {Q : Value → Shared → Prop} (h1 : s.heap.IsList la xs) (h2 : s.heap.IsList lb ys) (hx : IntsAre xs.toList ns) (hy : IntsAre ys.toList ms)
    (hu : A.units < cLine) (hq : Q (.bool (HT.lexLt ns ms)) s) : wpAny (model prog w) A (richCompare .Lt (.ref la) (.ref lb)) Q E s := by
  have m : Meets (Builtin.«list.__lt__» ⟨[.ref la, .ref lb], []⟩) (fun A R s => s.heap.IsList la xs ∧ s.heap.IsList lb ys ∧ R (.ok (.ret (.bool (HT.lexLt ns ms)))) s) := by
    rintro prog w A R s ⟨h1, h2, hr⟩
    obtain ⟨o1, g1, c1, n1, d1⟩ := id h1
    obtain ⟨o2, g2, c2, n2, d2⟩ := id h2
    refine wpAny_bind ?_
    refine wpAny_pure ?_
    refine wpAny_bind ?_
    show wpAny _ _ (typeOf (.ref lb) >>= fun t => isSubtype t (Value.type "list")) _ _ _
    refine wpAny_bind (wpAny_typeOf_ref g2 ?_)
    rw [c2]
    rw [show isSubtype (Value.type "list") (Value.type "list") = pure true from rfl]
    refine wpAny_pure ?_
    rw [if_neg (by decide)]
    refine wpAny_pure ⟨plainId_quiet MeetsSeq3.plain_eq_loop _, ?_⟩
    exact ll_loop hx hy _ 0 rfl (Nat.zero_le _) (Nat.zero_le _) h1 h2 hr
  obtain ⟨o1, g1, c1, n1, d1⟩ := id h1
  obtain ⟨o2, g2, c2, n2, d2⟩ := id h2
  exact richCompare_meets_room (T := "list") ⟨_, g1, c1⟩ ⟨_, g2, c2⟩ F.slot_list_lt F.entry_list_lt (F.args_list_lt_2 _ _) m ⟨h1, h2, (fun z => by cases z), hq⟩ hu
theorem eqv_ints : ∀ ns ms : List Int, PyData.eqvAll (ns.map PyData.int) (ms.map PyData.int) = decide (ns = ms)
  | [], [] => by rw [List.map_nil, PyData.eqvAll]; rfl
  | [], m :: ms => by rw [List.map_nil, List.map_cons, PyData.eqvAll]; simp
  | n :: ns, [] => by rw [List.map_nil, List.map_cons, PyData.eqvAll]; simp
  | n :: ns, m :: ms => by
    rw [List.map_cons, List.map_cons, PyData.eqvAll, eqv_ints ns ms, PyData.eqv]
    by_cases h : n = m
    · subst h; simp
    · simp [h]
theorem lay_ints : ∀ ns : List Int, PyData.canLayAll0 (ns.map PyData.int) = true
  | [] => by rw [List.map_nil, PyData.canLayAll0]
  | n :: ns => by rw [List.map_cons, PyData.canLayAll0, PyData.canLay0, lay_ints ns]; rfl
theorem depth_ints : ∀ ns : List Int, PyData.depthAll (ns.map PyData.int) ≤ 1
  | [] => by rw [List.map_nil, PyData.depthAll]; omega
  | n :: ns => by
    have := depth_ints ns
    rw [List.map_cons, PyData.depthAll, PyData.depth]
    omega
theorem lex_irr : ∀ ns : List Int, HT.lexLt ns ns = false
  | [] => HT.lexLt_nil_nil
  | n :: ns => by rw [HT.lexLt_cons, if_pos rfl, lex_irr ns]
theorem tl_lt {prog : Program} {w : World} {A : Around} {E : Value → Shared → Prop} {s : Shared} {p q la lb : Addr} {xs ys : Array Value} {ns ms as bs : _} {m k : Int} {t u : Tok} {Q : Value → Shared → Prop}
    (hp : IsTup s.heap p #[.int m t, .ref la]) (hq : IsTup s.heap q #[.int k u, .ref lb]) (h1 : s.heap.IsList la xs) (h2 : s.heap.IsList lb ys) (hx : IntsAre xs.toList ns) (hy : IntsAre ys.toList ms)
    (r1 : Reads s.heap (.ref la) (.list (ns.map PyData.int)) as) (r2 : Reads s.heap (.ref lb) (.list (ms.map PyData.int)) bs)
    (hu : A.units + 64 < cLine) (hQ : Q (.bool (if m = k then HT.lexLt ns ms else decide (m < k))) s) : wpAny (model prog w) A (compareOp .Lt (.ref p) (.ref q)) Q E s := by
  have me : Meets (Builtin.«tuple.__lt__» ⟨[.ref p, .ref q], []⟩) (fun A R s => (IsTup s.heap p #[.int m t, .ref la] ∧ IsTup s.heap q #[.int k u, .ref lb] ∧ s.heap.IsList la xs ∧ s.heap.IsList lb ys ∧ Reads s.heap (.ref la) (.list (ns.map PyData.int)) as ∧ Reads s.heap (.ref lb) (.list (ms.map PyData.int)) bs ∧ A.units + 64 < cLine) ∧ R (.ok (.ret (.bool (if m = k then HT.lexLt ns ms else decide (m < k))))) s) := by
    rintro prog w A R s ⟨⟨hp, hq, h1, h2, r1, r2, hu⟩, hr⟩
    obtain ⟨o2, g2, c2, n2, d2⟩ := id hq
    refine wpAny_bind ?_
    refine wpAny_pure ?_
    refine wpAny_bind ?_
    show wpAny _ _ (typeOf (.ref q) >>= fun t => isSubtype t (Value.type "tuple")) _ _ _
    refine wpAny_bind (wpAny_typeOf_ref g2 ?_)
    rw [c2]
    rw [show isSubtype (Value.type "tuple") (Value.type "tuple") = pure true from rfl]
    refine wpAny_pure ?_
    rw [if_neg (by decide)]
    refine wpAny_bind (tupleItemsOf_ hp ?_)
    refine wpAny_bind (tupleItemsOf_ hq ?_)
    refine wpAny_bind ?_
    refine wpAny_bind ?_
    refine wpAny_bind (wpAny_eqBool_int ?_)
    by_cases h : m = k
    · rw [if_pos h] at hr
      rw [if_neg (by simp [h])]
      refine wpAny_pure ?_
      refine wpAny_bind ?_
      refine wpAny_bind ?_
      have ea := SeqAt.eqAt_reads _ _ A.in1 s _ _ _ _ r1 r2 (by rw [PyData.canLay0]; exact lay_ints ns) (by rw [PyData.canLay0]; exact lay_ints ms) (by
        have d1 := depth_ints ns
        have e1 : (PyData.list (ns.map PyData.int)).depth = PyData.depthAll (ns.map PyData.int) + 1 := by rw [PyData.depth]
        have e2 : A.in1.units ≤ A.units + 1 := by first | exact Nat.le_refl _ | exact Nat.le_succ _ | (simp [Around.in1]; done)
        omega)
      rw [PyData.eqv, eqv_ints] at ea
      refine ea prog w _ _ ?_
      by_cases h2' : ns = ms
      · rw [if_neg (by simp [h2'])]
        refine wpAny_pure ?_
        refine wpAny_pure ?_
        refine wpAny_pure ?_
        rw [h2', lex_irr] at hr
        exact hr
      · rw [if_pos (by simp [h2'])]
        refine wpAny_bind (wpAny_rule ?_)
        refine wpAny_bind (ll_lt h1 h2 hx hy (by
          have e2 : A.in1.units ≤ A.units + 1 := by first | exact Nat.le_refl _ | exact Nat.le_succ _ | (simp [Around.in1]; done)
          omega) ?_)
        refine wpAny_bind (wpAny_pure ?_)
        refine wpAny_pure ?_
        refine wpAny_pure ?_
        refine wpAny_pure ?_
        exact hr
    · rw [if_neg h] at hr
      rw [if_pos (by simpa using h)]
      refine wpAny_bind (wpAny_rule ?_)
      refine wpAny_bind (HT.rcLt_int _ _ _ _ _ _ _ _ _ _ ?_)
      refine wpAny_bind (wpAny_pure ?_)
      refine wpAny_pure ?_
      refine wpAny_pure ?_
      refine wpAny_pure ?_
      exact hr
  obtain ⟨o1, g1, c1, n1, d1⟩ := id hp
  obtain ⟨o2, g2, c2, n2, d2⟩ := id hq
  show wpAny _ _ (richCompare .Lt (.ref p) (.ref q)) _ _ _
  exact richCompare_meets_room (T := "tuple") ⟨_, g1, c1⟩ ⟨_, g2, c2⟩ F.slot_tuple_lt F.entry_tuple_lt (F.args_tuple_lt_2 _ _) me ⟨⟨hp, hq, h1, h2, r1, r2, hu⟩, (fun z => by cases z), hQ⟩ (by omega)
theorem dp_ints {K : PySem.W.Frag} {H : Hp} : ∀ ns : List Int, DpAll K H (ns.map V.int) (ns.map PyData.int)
  | [] => .nil
  | n :: ns => .cons (.int n) (dp_ints ns)
theorem op_ltTL {X : Cx} (hu : X.A.units + 64 < cLine) : OpR X (compareOp .Lt) (fun x y H Q => ∃ p q m k la lb ns ms, x = .ref p ∧ y = .ref q ∧ H p = some (.tup [.int m, .ref la]) ∧ H q = some (.tup [.int k, .ref lb]) ∧
    SqL X.K H la (ns.map V.int) ∧ SqL X.K H lb (ms.map V.int) ∧ Q (.bl (if m = k then HT.lexLt ns ms else decide (m < k))) H) := by
  intro pins s σ H x y v u Q I rx ry h
  obtain ⟨p, q, m, k, la, lb, ns, ms, rfl, rfl, hp, hq, h1, h2, hQ⟩ := h
  cases rx
  cases ry
  obtain ⟨i1, v1, t1, _⟩ := I.tuple (SqT.of hp)
  obtain ⟨i2, v2, t2, _⟩ := I.tuple (SqT.of hq)
  obtain ⟨i3, v3, p3, _⟩ := I.list h1
  obtain ⟨i4, v4, p4, _⟩ := I.list h2
  obtain ⟨as, r1⟩ := Dp.reads I (.list (ns.map PyData.int)) (.ref la) (.ref la) (.lst h1 (dp_ints ns)) rfl
  obtain ⟨bs, r2⟩ := Dp.reads I (.list (ms.map PyData.int)) (.ref lb) (.ref lb) (.lst h2 (dp_ints ms)) rfl
  cases v1 with
  | cons a1 b1 =>
  cases b1 with
  | cons a2 b2 =>
  cases b2
  cases v2 with
  | cons a3 b3 =>
  cases b3 with
  | cons a4 b4 =>
  cases b4
  obtain ⟨tm, rfl⟩ := a1
  obtain ⟨tk, rfl⟩ := a3
  cases a2
  cases a4
  exact tl_lt t1 t2 p3.isList p4.isList (by simpa using L2.intsAre_of v3) (by simpa using L2.intsAre_of v4) r1 r2 hu ⟨.bl _, H, I, rfl, hQ⟩
end Ms

set_option Elab.async false
set_option linter.all false
set_option maxRecDepth 100000
set_option maxHeartbeats 4000000
/-! a text from behind -/
namespace Ms
open PySem PySem.Spec PyProof.Rows L2
def pickedS (z : Str) : Str := ⟨(List.filterMap (fun i => z.cps[i]?) (slicePicked z none none (some (-1, 0)))).toArray⟩
theorem picked_len (z : Str) : (pickedS z).length ≤ z.length := by
  show (List.filterMap _ _).toArray.size ≤ _
  rw [List.size_toArray]
  refine Nat.le_trans (List.length_filterMap_le _ _) ?_
  show (sliceRange ((z.length : Int) - 1) (-1) (-1)).length ≤ z.length
  exact sliceRange_length_le _ _ _ _ (fun h => absurd h (by decide)) (fun _ => ⟨Int.le_refl _, Int.le_refl _⟩)
theorem picked_mem (z : Str) : ∀ c ∈ (pickedS z).cps.toList, c ∈ z.cps.toList := by
  intro c hc
  have hc : c ∈ List.filterMap (fun i => z.cps[i]?) (slicePicked z none none (some (-1, 0))) := hc
  obtain ⟨i, _, e⟩ := List.mem_filterMap.mp hc
  have := Array.mem_of_getElem? e
  exact Array.mem_toList_iff.mpr this
def tRevS (te : TE) : TE := fun σ H Q => te σ H fun x H1 => ∃ z, x = .str z ∧ z.length ≤ sizeLine ∧ Q (.str (pickedS z)) H1
theorem pe_revS {X : Cx} {e : Expr} {te : TE} {k : Nat} {p1 p2 p3 pos : Pos} (he : PE X e te) : PE X (e.Subscript (.Slice none none (some (.UnaryOp .USub (.Constant (.int 1) k p1) p2)) p3) pos) (tRevS te) := by
  refine ⟨fun pins s σ H Q I h => ?_⟩
  refine Subscript_ (thn (he.run pins s σ H _ I h) fun v s1 ⟨x, H1, I1, r1, q1⟩ => ?_)
  obtain ⟨z, rfl, hz, q⟩ := q1
  obtain ⟨t, rfl⟩ := r1
  refine wpAny_Slice ?_
  refine thn (po_none.run pins s1 σ H1 (fun o H2 => o = none ∧ H2 = H1) I1 ⟨rfl, rfl⟩) fun l s2 ⟨o, H2, I2, pl, el, eh⟩ => ?_
  subst el eh
  refine thn (po_none.run pins s2 σ _ (fun o H2 => o = none ∧ H2 = _) I2 ⟨rfl, rfl⟩) fun u s3 ⟨o, H3, I3, pu, eu, eh⟩ => ?_
  subst eu eh
  refine thn ((po_some (pe_un un_neg pe_int)).run pins s3 σ _ (fun o H2 => o = some (-1) ∧ H2 = _) I3 ⟨1, rfl, -1, rfl, rfl, rfl⟩) fun st s4 ⟨o, H4, I4, ps, es, eh⟩ => ?_
  subst es eh
  cases pl
  cases pu
  cases ps with
  | int i t2 =>
  have I5 := I4.kept (h' := s4.heap.push { cls := .type "slice", data := .fields #[.none, .none, .int (-1) t2] }) (t' := s4.toks) (fun b o e => Heap.get?_push_of_some _ e)
  refine tail_any (T := "str") (ops := [.ref s4.heap.objs.size, .str z t]) rfl (by first | exact PySem.F.slot_str_getitem.lookup | exact Slot.lookup PySem.F.slot_str_getitem | exact PyProof.Rows.slot_str_getitem.lookup | exact L2.slot_str_getitem.lookup) ?_ (by rfl)
  refine wpAny_getItem_str_slice (l := none) (u := none) (st := some (-1, t2)) ⟨_, Heap.get?_push_at rfl rfl, rfl, rfl⟩ (by rfl) ?_
  show Made.post (if ((-1 : Int) == 1 && _) = true then _ else _) _ _
  rw [if_neg (by simp)]
  exact ⟨Nat.le_trans (picked_len z) hz, .str _, _, I5.tok _, ⟨_, rfl⟩, q⟩
end Ms

set_option Elab.async false
set_option linter.all false
set_option maxRecDepth 100000
set_option maxHeartbeats 4000000
/-! isinstance(e, C) of an own exception that has a dict: both answers. -/
namespace Ms
open PySem PySem.Spec PyProof.Rows L2 LamX PySem.W
theorem cls_at {K : PySem.W.Frag} {D : Addr} (hd : hasDictIn K D = true) : ∃ oc od cd sl, K.lookup D = some ⟨oc, od, .cls cd, sl⟩ := by
  obtain ⟨c, e, _⟩ := any_some hd
  unfold clsIn at e
  split at e
  · rename_i a b c2 d ho; exact ⟨_, _, _, _, ho⟩
  · cases e
theorem kitx_excD {K : PySem.W.Frag} {x D : Addr} (C : ExcC K D) : KitX K (.ref x) (.ref D) (fun h => ∃ ox od, InstAt h x ox D od) where
  ty := by
    rintro M h _ ⟨ox, od, I⟩
    exact I.type
  it := by
    intro M h X _
    obtain ⟨oc, od, cd, sl, ho⟩ := cls_at C.hd
    exact fun A' Q' E' s' k q => by unfold isType loadHead; exact wpAny_bind (wpAny_loadPart (k _ _ (X _ _ ho)) (wpAny_pure q))
  ne := by
    intro h tp dd its n sl X htp
    obtain ⟨oc, od, cd, sl2, ho⟩ := cls_at C.hd
    refine Bool.eq_false_iff.mpr (fun q => ?_)
    have e : D = tp := by simpa using q
    rw [← e, X _ _ ho] at htp
    cases htp
  ca := by
    rintro prog w A E Q s X ⟨ox, od, I⟩ k
    exact kx_classE X I C.hg C.hk C.hs (findObj_dataE (by obtain ⟨oc, od', cd, sl, ho⟩ := cls_at C.hd; unfold clsIn; rw [ho]; rfl) C.ha C.hn C.ht) C.hm k
/-- isinstance(n, c), n the exception that the suite holds -/
theorem call_isC {X : Cx} {a : Addr} {oe : Obj} {cls : Value} {d : Option Addr} {pn : List (Addr × Obj)} (hz : Zc cls d oe) (hf : ∃ vs, oe.data = .fields vs) :
    CallR (X.suite a ((a, oe) :: pn)) (.builtin "isinstance") (fun xs H Q => ∃ C C2 b dd, xs = [.ref a, .ref C2] ∧ cls = .ref C ∧ d = some dd ∧ (∃ fs, H dd = some (.xd fs)) ∧ ExcC X.K C ∧ kitOne X.K (.ref C) (.ref C2) = some b ∧ Q (.bl b) H) := by
  rintro pins s σ H xs us Q I r ⟨C, C2, b, dd, rfl, rfl, rfl, ⟨fs, hx⟩, ec, e, q⟩
  cases r with
  | @cons _ u _ us rx rr =>
    cases rr with
    | @cons _ u2 _ us2 rt rr =>
      cases rr
      obtain rfl : u = Value.ref a := rx
      obtain rfl : u2 = Value.ref C2 := rt
      obtain ⟨ha, _⟩ := I.pin (a, oe) (List.mem_append_left _ List.mem_cons_self)
      obtain ⟨vs, hd⟩ := hf
      have hx : ObjOk X.prog X.w H s.heap dd (.xd fs) := I.hok dd _ hx
      obtain ⟨mA, hns, hr⟩ := hx
      obtain ⟨od, ho, hl⟩ := lookIn_ns hns
      have J : PySem.W.InstAt s.heap a oe C (some od) := ⟨ha, hz.1, by unfold PySem.W.notCls; rw [hd] <;> rfl, by rw [hz.2]; exact ho⟩
      exact kia_one (kitx_excD ec) I.kIn ⟨_, _, J⟩ e (fun z => nomatch z) fun tk => ⟨.bl b, H, I.kept (t' := tk) fun _ _ z => z, rfl, q⟩
end Ms

set_option Elab.async false
set_option linter.all false
set_option maxRecDepth 100000
set_option maxHeartbeats 4000000
/-! An own exception that has a dict, as a value: made, its field read, isinstance. -/
namespace Ms
open PySem PySem.Spec PyProof.Rows L2 LamX PySem.W
/-- an exception object of the class C with the dict d, not raised, at a -/
def ExS (C d a : Addr) : HO := .ext fun h => ∃ (oe : Obj) (vs : Array Value), h.get? a = some oe ∧ Zc (.ref C) (some d) oe ∧ oe.data = .fields vs
theorem exS_ok {P : Program} {w : World} {H : Hp} {h : Heap} {a C d : Addr} {oe : Obj} {vs : Array Value} (e : h.get? a = some oe) (z : Zc (.ref C) (some d) oe) (q : oe.data = .fields vs) : ObjOk P w H h a (ExS C d a) :=
  ⟨⟨oe, vs, e, z, q⟩, ⟨oe, e⟩, fun _ _ ⟨o, v, r, t⟩ k => ⟨o, v, k o r, t⟩⟩
section
variable {X : Cx} {C fI : Addr} {nm fld : Str}
/-- nm(e) as a value -/
def tMkV (fld : Str) (C : Addr) (ta : TA) : TE := fun σ H Q => ta σ H fun vs H1 => ∃ v, vs = [v] ∧ ∀ d a, H1 d = none → H1 a = none → d ≠ a → Q (.ref a) (upd (upd H1 d (.xd [(fld, v)])) a (ExS C d a))
theorem pe_mkS {a : Expr} {ta : TA} {p pos : Pos} {k : Nat} (T : Sx.Txt X.prog X.K X.mg nm fld C fI) (hr : Room k X.A) (ha : PA X [a] ta) (hg : Gl X nm := by rfl) (hdb : (nm == ("__debug__" : Str)) = false := by decide)
    (he : starEach (a :: []) X.env = (false, eval a X.env) :: starEach [] X.env := by rfl) (hpl : (backTo pos (starEach [] X.env)).any (·.1) = false := by rfl) :
    PE X (.Call (.Name nm p) [a] [] pos) (tMkV fld C ta) := by
  refine ⟨fun pins s σ H Q I h => ?_⟩
  refine wpAny_Call_Name_kw (ld_glob I hg T.gC ?_ hdb)
  refine PySem.W.callWith_K (h₀ := X.base) I.ok.mod.kin T.kC (thn (ha.run pos pins s σ H _ I h) fun us s1 hh => ?_) he hpl
  obtain ⟨vs, H1, I1, r1, v, rfl, q1⟩ := hh
  refine ⟨I1.kIn, ?_⟩
  cases r1 with
  | @cons _ u' _ us' rv rn =>
    cases rn
    show wpAny _ _ (call (.ref C) [u']) _ _ _
    have hlim := I1.nolimit
    obtain ⟨mb, hb1, hb2⟩ := I1.mod.blt
    have hbs : mb "super" = some (.type "super") := (hb2 _ (by decide)).trans (by decide +kernel)
    have hg1 := I1.mod.glob.keeps I1.bk
    have hb := hb1.keeps I1.bk
    obtain ⟨hp, g, dr, tk, os⟩ := s1
    refine wpAny_call (Sx.ex_made T I1.kIn hg1 hb hbs hlim (by have := hr.dp; omega) fun h' tk' e d M => ?_)
    obtain ⟨t1, hoe⟩ := M.obj
    have ob : ObjOk X.prog X.w (upd H1 d (.xd [(fld, v)])) h' d (.xd [(fld, v)]) := ⟨_, M.ns, fun f => relO_one rv f⟩
    have hd : H1 d = none := I1.hok.fresh M.dbig
    have ha : H1 e = none := I1.hok.fresh M.new
    obtain ⟨G', g1, g2⟩ := restrict h' fun b => decide (b ≠ e)
    have gk : ∀ b, b ≠ e → G'.get? b = h'.get? b := fun b hb => g1 b (decide_eq_true hb)
    have ge : G'.get? e = none := g2 e (by simp)
    have old : ∀ b o, hp.get? b = some o → G'.get? b = some o := fun b o q => (gk b (Nat.ne_of_lt (Nat.lt_of_lt_of_le (Heap.lt_size q) M.new))).trans (M.keep b o q)
    have obG : ObjOk X.prog X.w (upd H1 d (.xd [(fld, v)])) G' d (.xd [(fld, v)]) := ⟨_, M.ns.at (fun o q => (gk d M.dne).trans q), fun f => relO_one rv f⟩
    have J : Inv X pins σ (upd H1 d (.xd [(fld, v)])) ⟨G', g, dr, tk', os⟩ := I1.laid (t' := tk') old M.dbig obG
    have he2 : upd H1 d (.xd [(fld, v)]) e = none := by rw [upd_ne (Ne.symm M.dne)]; exact ha
    have J2 := J.laidN (h' := h') (t' := tk') (a := e) (o := ExS C d e) (fun b o q => by
      by_cases hb : b = e
      · have q' : G'.get? b = some o := q
        rw [hb, ge] at q'; cases q'
      · exact (gk b hb).symm.trans q) ge he2 (exS_ok hoe ⟨rfl, rfl⟩ rfl)
    exact ⟨.ref e, _, J2, rfl, q1 d e hd ha M.dne⟩
/-- e.fld of such a value -/
def tAtS (X : Cx) (fld : Str) (te : TE) : TE := fun σ H Q => te σ H fun x H1 => ∃ (a C d fI : Addr) (nm : Str) (v : V), x = .ref a ∧ Sx.Txt X.prog X.K X.mg nm fld C fI ∧ H1 a = some (ExS C d a) ∧ H1 d = some (.xd [(fld, v)]) ∧ Q v H1
theorem pe_atS {e : Expr} {te : TE} {pos : Pos} (he : PE X e te) (hb : attributeBase e fld X.env (eval e X.env) = eval e X.env := by rfl) : PE X (.Attribute e fld pos) (tAtS X fld te) := by
  refine ⟨fun pins s σ H Q I h => attr_of hb (thn (he.run pins s σ H _ I h) fun u s1 hh => ?_)⟩
  obtain ⟨x, H1, I1, rx, a, C, d, fI, nm, v, rfl, T, ha, ea, q⟩ := hh
  obtain rfl : u = Value.ref a := rx
  obtain ⟨⟨oe, vs, hget, hz, hd⟩, _, _⟩ := I1.hok a _ ha
  have hx : ObjOk X.prog X.w H1 s1.heap d (.xd [(fld, v)]) := I1.hok d _ ea
  obtain ⟨mA, hns, hr⟩ := hx
  obtain ⟨od, ho, hl⟩ := lookIn_ns hns
  have l : List.lookup fld [(fld, v)] = some v := by simp [List.lookup]
  obtain ⟨u, hu, ru⟩ := RelO.some_of (v := v) (o := mA fld) (by rw [← l]; exact hr fld)
  have J : PySem.W.InstAt s1.heap a oe C (some od) := ⟨hget, hz.1, by unfold PySem.W.notCls; rw [hd] <;> rfl, by rw [hz.2]; exact ho⟩
  exact HandSPX.exc_get I1.kIn J T.ga T.gg T.exC (PySem.W.findObj_own T.hdC T.noN rfl (by rw [hl, hu])) (handed_of ru) ⟨v, H1, I1.tok _, ru, q⟩
/-- isinstance(e, c) of such a value -/
def rIsX (K : PySem.W.Frag) : List V → Hp → VK → Prop := fun xs H Q => ∃ (a C d : Addr) (c : V) (cv : Value) (b : Bool) (fs : List (Str × V)), xs = [.ref a, c] ∧ H a = some (ExS C d a) ∧ H d = some (.xd fs) ∧ ExcC K C ∧ ClsV c cv ∧ kitOne K (.ref C) cv = some b ∧ Q (.bl b) H
theorem call_isX : CallR X (.builtin "isinstance") (rIsX X.K) := by
  rintro pins s σ H xs us Q I r ⟨a, C, d, c, cv, b, fs, rfl, ha, hx, ec, k, e, q⟩
  obtain ⟨u1, u2, rfl, r1, r2⟩ := vals2 r
  have e2 := k.eq r2
  subst e2
  obtain rfl : u1 = Value.ref a := r1
  obtain ⟨⟨oe, vs, hget, hz, hd⟩, _, _⟩ := I.hok a _ ha
  have hx : ObjOk X.prog X.w H s.heap d (.xd fs) := I.hok d _ hx
  obtain ⟨mA, hns, hr⟩ := hx
  obtain ⟨od, ho, hl⟩ := lookIn_ns hns
  have J : PySem.W.InstAt s.heap a oe C (some od) := ⟨hget, hz.1, by unfold PySem.W.notCls; rw [hd] <;> rfl, by rw [hz.2]; exact ho⟩
  exact kia_one (kitx_excD ec) I.kIn ⟨_, _, J⟩ e (fun z => nomatch z) fun tk => ⟨.bl b, H, I.kept (t' := tk) fun _ _ z => z, rfl, q⟩
end
theorem ifN {p A B : Prop} [Decidable p] (h : ¬ p) (b : B) : if decide p = true then A else B := by
  rw [decide_eq_false h]
  exact b
theorem ifY {p A B : Prop} [Decidable p] (h : p) (a : A) : if decide p = true then A else B := by
  rw [decide_eq_true h]
  exact a
end Ms

set_option Elab.async false
set_option linter.all false
set_option maxRecDepth 100000
set_option maxHeartbeats 4000000
/-! sorted(a text): its signs, one by one, risen. -/
namespace Ms
open PySem PySem.Spec PyProof.Rows L2 LamX PySem.W
theorem strsAre_of : ∀ (vs : List Value) (xs : List Str), vs.length = xs.length → (∀ (i : Nat) (v : Value), vs[i]? = some v → ∃ (y : Str) (u : Tok), xs[i]? = some y ∧ v = Value.str y u) → StrsAre vs xs
  | [], [], _, _ => .nil
  | [], y :: xs, e, _ => by cases e
  | v :: vs, [], e, _ => by cases e
  | v :: vs, y :: xs, e, h => by
    obtain ⟨y', u, e1, rfl⟩ := h 0 v rfl
    have e1 : some y = some y' := e1
    cases e1
    exact .cons y u (strsAre_of vs xs (by simpa using e) fun i w hw => h (i + 1) w hw)
theorem sorted_text {prog : Program} {w : World} {A : Around} {E : Value → Shared → Prop} {s : Shared} {x : Str} {t : Tok} {Q : Value → Shared → Prop} (hh : A.handled = none) (hL : x.cps.size ≤ sizeLine)
    (hq : ∀ (h' : Heap) (tk : Nat) (p : Addr) (out : Array Value) (e : Nat) (ss : List Str), (∀ b o, s.heap.get? b = some o → h'.get? b = some o) → s.heap.get? p = none → h'.get? p = some (seqObj "list" out e) → StrsAre out.toList ss → ss.Perm (x.cps.toList.map fun c => ⟨#[c]⟩) → sortedS ss = true → Q (.ref p) { s with heap := h', toks := tk }) :
    wpAny (model prog w) A (call (.builtin "sorted") [.str x t]) Q E s := by
  refine Calls.call_function_entry kind_sorted plain_sorted entry_sorted (args_sorted1 _) (by
    unfold Builtin.«sorted»
    refine wpAny_bind (m := checkCount "sorted" 1 1 _) (wpAny_pure (wpAny_bind (wpAny_collect_str (by exact hh) x t (fun s' acc k g d o it => ?_) hL)))
    have hacc : StrsAre acc.toList (x.cps.toList.map fun c => ⟨#[c]⟩) := by
      refine strsAre_of _ _ (by rw [Array.length_toList, it.1, List.length_map, Array.length_toList]) fun i v hv => ?_
      rw [Array.getElem?_toList] at hv
      obtain ⟨c, u, hc, rfl⟩ := it.2 i v hv
      exact ⟨⟨#[c]⟩, u, by rw [List.getElem?_map, Array.getElem?_toList, hc]; rfl, rfl⟩
    obtain ⟨hp, g', d', tk, os⟩ := s'
    obtain ⟨hp0, g0, d0, tk0, os0⟩ := s
    obtain rfl : g' = g0 := g
    obtain rfl : d' = d0 := d
    obtain rfl : os = os0 := o
    refine wpAny_bind (wpAny_newList ?_)
    have hoL : (hp.push (seqObj "list" acc.toList.toArray 0)).get? hp.objs.size = some (seqObj "list" acc.toList.toArray 0) := Heap.get?_push_size _ rfl
    have hl : acc.toList.length ≤ sizeLine := by rw [Array.length_toList, it.1]; exact hL
    refine wpAny_bind (wpAny_holding (wpAny_call_entry slot_list_sort ⟨_, hoL, rfl⟩ entry_list_sort (list_sort_treeKAny strKind_oneLt hoL hacc.keysOf (fun v₁ v₂ rest e => keyKind_strs (by rw [← e]; exact hacc)) hl fun st' h1 h2 => ⟨_, rfl, wpAny_pure ⟨_, rfl, ?_⟩⟩) (args_list_sort _)))
    obtain ⟨ss, a1, a2, a3⟩ := sorted_out_str hacc h1 h2
    obtain ⟨e, he⟩ := sortedHeap_at (out := (arrOf st').map (·.2)) hoL
    refine hq _ _ _ _ e ss (fun b o q => ?_) ?_ he a1 a2 a3
    · have hb := k b o q
      have hlt : b < hp.objs.size := Heap.lt_size hb
      rw [sortedHeap_old (Nat.ne_of_lt hlt) (by rw [Heap.size_push]; exact Nat.lt_succ_of_lt hlt)]
      exact Heap.get?_push_of_some _ hb
    · cases q : hp0.get? hp.objs.size with
      | none => rfl
      | some o => exact absurd (Heap.lt_size (k _ _ q)) (Nat.lt_irrefl _))
/-- sorted(a text) -/
theorem cr_sortedT {X : Cx} (hc : X.calm = true) : CallR X (.builtin "sorted") (fun vs H Q => ∃ z : Str, vs = [V.str z] ∧ z.length ≤ sizeLine ∧ ∀ (ys : List Str) (p : Addr), ys.Perm (z.cps.toList.map fun c => ⟨#[c]⟩) → sortedS ys = true → H p = none → Q (.ref p) (upd H p (.lst (ys.map V.str)))) := by
  intro pins s σ H vs us Q I r h
  obtain ⟨z, rfl, hz, q⟩ := h
  cases r with
  | @cons _ u _ us rx rr =>
    cases rr
    obtain ⟨t, rfl⟩ := rx
    refine sorted_text (I.ok.hd hc) hz fun h' tk p out e ss k hp hg a1 a2 a3 => ?_
    have hn : H p = none := I.hok.gone hp
    have hlen : (ss.map V.str).length ≤ sizeLine := by
      rw [List.length_map, a2.length_eq, List.length_map]
      exact hz
    exact ⟨.ref p, upd H p (.lst (ss.map V.str)), I.laidN (h' := h') (t' := tk) k hp hn ⟨hlen, out.toList, e, vals_of_strs a1, by simpa using hg⟩, rfl, q ss p a2 a3 hn⟩
end Ms

set_option Elab.async false
set_option linter.all false
set_option maxRecDepth 100000
set_option maxHeartbeats 4000000
/-! two, four defaults -/
namespace Ms
open PySem PySem.Spec PyProof.Rows L2 LamX
theorem dfl_two {K : PySem.W.Frag} {t : Addr} {cl : Value} {dd : Option Addr} {n : Nat} {sl : Array (Option Value)} {v1 v2 : V} {u1 u2 : Value} (h : K.lookup t = some ⟨cl, dd, .seq #[u1, u2] n, sl⟩) (r1 : RelV v1 u1) (r2 : RelV v2 u2) : DflV K (.ref t) [v1, v2] :=
  .inr ⟨List.cons_ne_nil _ _, t, _, [u1, u2], n, rfl, h, rfl, .cons r1 (.cons r2 .nil)⟩
theorem dfl_four {K : PySem.W.Frag} {t : Addr} {cl : Value} {dd : Option Addr} {n : Nat} {sl : Array (Option Value)} {v1 v2 v3 v4 : V} {u1 u2 u3 u4 : Value} (h : K.lookup t = some ⟨cl, dd, .seq #[u1, u2, u3, u4] n, sl⟩) (r1 : RelV v1 u1) (r2 : RelV v2 u2) (r3 : RelV v3 u3) (r4 : RelV v4 u4) : DflV K (.ref t) [v1, v2, v3, v4] :=
  .inr ⟨List.cons_ne_nil _ _, t, _, [u1, u2, u3, u4], n, rfl, h, rfl, .cons r1 (.cons r2 (.cons r3 (.cons r4 .nil)))⟩
end Ms

set_option Elab.async false
set_option linter.all false
set_option maxRecDepth 100000
set_option maxHeartbeats 4000000
/-! rules within a comprehension: the written part by its own name -/
namespace Ms
open PySem PySem.Spec PyProof.Rows L2 LamX
section
variable {X : Cx} {K : PySem.W.Frag} (hK : X.K = K)
include hK
theorem pe_joinK {o e : Expr} {to te : TE} {apos pos : Pos} (ho : PE X o to) (he : PE X e te) (hs : starEach [e] X.env = [(false, eval e X.env)] := by rfl) (hbase : attributeBase o "join" X.env (eval o X.env) = eval o X.env := by rfl) (hline : (apos.endLine == pos.line) = true := by rfl) : PE X (.Call (.Attribute o "join" apos) [e] [] pos)
    (tM1 (fun x xs H Q => ∃ a p, ∃ ys : List Str, x = .str a ∧ xs = [.ref p] ∧ (SqL K H p (ys.map V.str) ∨ SqT K H p (ys.map V.str)) ∧ (ys.map (·.length)).sum + ys.length * a.length ≤ 16777216 ∧ Q (.str (Txt.join a ys)) H) to te) := by
  subst hK
  exact pe_join ho he hs hbase hline
theorem pe_ixLK {a b : Expr} {ta tb : TE} {pos : Pos} (ha : PE X a ta) (hb : PE X b tb) (hs : PlainIx b) : PE X (.Subscript a b pos) (tOp (rIxL K) ta tb) := by
  subst hK
  exact pe_ix ix_list ha hb hs
theorem pe_ixTK {a b : Expr} {ta tb : TE} {pos : Pos} (ha : PE X a ta) (hb : PE X b tb) (hs : PlainIx b) : PE X (.Subscript a b pos) (tOp (rIxT K) ta tb) := by
  subst hK
  exact pe_ix ix_tup ha hb hs
theorem call_len_seqK : CallR X (.builtin "len") (fun xs H Q => ∃ p ys, xs = [.ref p] ∧ (SqL K H p ys ∨ SqT K H p ys) ∧ Q (.int ys.length) H) := by
  subst hK
  exact call_len_seq
theorem isiK : CallR X (.builtin "isinstance") (rIsi K) := by
  subst hK
  exact call_isi
theorem isXK : CallR X (.builtin "isinstance") (rIsX K) := by
  subst hK
  exact call_isX
theorem sl_listK : SlR X (rSlL K) := by
  subst hK
  exact sl_list
theorem pe_fldK {e : Expr} {ta : TE} {f : Str} {pos : Pos} (he : PE X e ta) (hb : attributeBase e f X.env (eval e X.env) = eval e X.env) : PE X (.Attribute e f pos) (tFld K ta f) := by
  subst hK
  exact pe_fld he hb
theorem op_in_seqK : OpR X (compareOp .In) (rIn K false) := by
  subst hK
  exact op_in_seq
theorem op_notIn_seqK : OpR X (compareOp .NotIn) (rIn K true) := by
  subst hK
  exact op_notIn_seq
theorem op_eqDK (hu : X.A.units + 64 < cLine) : OpR X (compareOp .Eq) (rEqD K) := by
  subst hK
  exact op_eqD hu
theorem op_neDK (hu : X.A.units + 64 < cLine) : OpR X (compareOp .NotEq) (rNeD K) := by
  subst hK
  exact op_neD hu
theorem pg_tupK {es : List Expr} {k : Nat} {t : TGs} {n : Nat} {pos : Pos} (hc : X.calm = true) (h : PGs X es t)
    (hn : (assignEach es X.env).length = n := by rfl) (hst : (assignEach es X.env).findIdx? (·.1) = none := by rfl) : PG X (.Tuple es k pos) (gTup K n t) := by subst hK; exact pg_tup hc h hn hst
theorem op_catK : OpR X (binaryOp .Add) rCat := op_cat
end
end Ms

set_option Elab.async false
set_option linter.all false
set_option maxRecDepth 100000
set_option maxHeartbeats 4000000
/-! a rule told by names -/
namespace Ms
open PySem PySem.Spec PyProof.Rows L2 LamX
def perm4 {α : Type} (us _ds : List α) : List α → List α
  | [a, x, b, e] => us ++ [x, e, b, a]
  | _ => us
theorem perm4_rel {vs ds zs : List V} {us its ws : List Value} (h1 : Vals vs us) (_ : Vals ds its) (h3 : Vals zs ws) : Vals (perm4 vs ds zs) (perm4 us its ws) := by
  cases h3 with
  | nil => exact h1
  | cons ra t => cases t with
    | nil => exact h1
    | cons rx t => cases t with
      | nil => exact h1
      | cons rb t => cases t with
        | nil => exact h1
        | cons re t => cases t with
          | nil => exact h1.append (.cons rx (.cons re (.cons rb (.cons ra .nil))))
          | cons _ _ => exact h1
end Ms

set_option Elab.async false
set_option linter.all false
set_option maxRecDepth 100000
set_option maxHeartbeats 4000000
/-! try whose first clauses have names; what stands behind them is never reached -/
namespace Mu
open PySem PySem.Spec PyProof.Rows L2 Ms
def wUpto (K : PySem.W.Frag) (n : Nat) (Wo : WX) (D : Ends) : List Cl → WX
  | [] => fun _ _ _ _ => False
  | (c, i, ts) :: r => fun cls d σ H => ∃ b, PySem.W.exmOne K cls c = some b ∧ (b = true → ∀ a, H a = none → σ.length = n → ts a cls d (offEnds i D) (σ.set i (some (.ref a))) H) ∧ (b = false → wUpto K n Wo D r cls d σ H)
inductive Upto (X : Cx) : List ExceptHandler → List Cl → Prop
  | nil {hs : List ExceptHandler} : Upto X hs []
  | cons {x n : Str} {c : Value} {i : Nat} {ts : Addr → Value → Option Addr → TS} {b₀ : Stmt} {su : List Stmt} {np pp : Pos} {hs : List ExceptHandler} {l : List Cl} (nc : Names X x c) (ni : X.N[i]? = some n) (nl : X.env.kindOf n = some .local)
      (sr : ∀ (a : Addr) (oe : Obj) (cls : Value) (d : Option Addr) (pn : List (Addr × Obj)), Zc cls d oe → (∃ vs, oe.data = .fields vs) → PSs (X.suite a ((a, oe) :: pn)) (b₀ :: su) (ts a cls d)) (r : Upto X hs l) :
      Upto X (.ExceptHandler (some (.Name x np)) (some n) (b₀ :: su) pp :: hs) ((c, i, ts) :: l)
section
variable {X : Cx} {pins : List (Addr × Obj)} {σ : L2.St} {H : Hp} {sI s : Shared} {B : Heap} {a : Addr} {cls : Value} {d : Option Addr} {D : Ends} {Wo : WX}
theorem upto_run (hst : X.stack = X.env :: X.outer) (hfr : X.env.frame = some X.env.locals) (hN : X.N.Nodup) (tk : Takes X Wo) {hs : List ExceptHandler} {l : List Cl} (C : Upto X hs l) :
    ∀ {s : Shared}, Landed X pins σ H sI s B a cls d → wUpto X.K X.N.length Wo D l cls d σ H → wpAny (model X.prog X.w) X.A (handleBy (.ref a) X.env hs) (SP X pins D) X.xe s := by
  induction C with
  | nil =>
    intro s F q
    exact q.elim
  | @cons x n c i ts b₀ su np pp hs l nc ni nl sr r ih =>
    intro s F q
    obtain ⟨hp, g, dr, tk0, os0⟩ := s
    obtain ⟨b, eb, yes, no⟩ := q
    have J := F.here
    obtain ⟨oe, vs, he, hz, hd⟩ := F.fly.there
    have S := J.suite he hd F.na F.nL F.nF
    have lt : PySem.W.Looks (model X.prog X.w) hp (typeOf (.ref a)) cls := fun A Q E s k y => wpAny_typeOf_ref (k _ _ he) (by rw [hz.1]; exact y)
    have lm := PySem.W.exm_one (M := model X.prog X.w) J.kIn lt eb
    have asked : ∀ {Q : Value → Shared → Prop} {E : Value → Shared → Prop}, Q c ⟨hp, g, dr, tk0, os0⟩ → wpAny (model X.prog X.w) (X.A.mark (some (.ref a))) (eval (.Name x np) X.env) Q E ⟨hp, g, dr, tk0, os0⟩ := fun {Q E} y => by
      obtain ⟨k1, k2, k3 | ⟨k3, k4, k5⟩⟩ := nc
      · exact ld_glob (X := X.suite a ((a, oe) :: (X.pn ++ pins))) S k1 k3 y k2
      · exact ld_blt (X := X.suite a ((a, oe) :: (X.pn ++ pins))) S k1 k3 k4 y k5 k2
    refine wpAny_handleBy_cons (codeAny_handlers_test ?_) (by intro z; cases z)
    refine asked (lm.here ?_)
    cases b with
    | false => exact ih F (no rfl)
    | true =>
      refine codeAny_handlers_suite_as (HandSPX.lands_againZ F.fly fun h4 f4 u4 => ?_)
      have F4 : Landed X pins σ H sI ⟨h4, g, dr, tk0, os0⟩ B a cls d := ⟨F.inv, F.nb, F.up.trans u4, f4, F.na, F.os, F.ag, F.nL, F.nF⟩
      obtain ⟨oe4, vs4, he4, hz4, hd4⟩ := F4.fly.there
      have S4 := F4.here.suite he4 hd4 F.na F.nL F.nF
      refine store_ok (X := X.suite a ((a, oe4) :: (X.pn ++ pins))) (v := .ref a) S4 hN ni (.inl nl) rfl (fun s5 S5 => ?_) (.inr nl)
      refine wpAny_mono ((sr a oe4 cls d (X.pn ++ pins) hz4 ⟨_, hd4⟩).run [] s5 _ H _ S5 (yes rfl a F.na F.inv.len)) (fun f s6 y => ?_) (fun _ _ z => z.elim)
      have off : ∀ {τ : L2.St} {H6 : Hp} {Q : Shared → Prop}, Inv (X.suite a ((a, oe4) :: (X.pn ++ pins))) [] τ H6 s6 → (∀ s7, Inv X pins (τ.set i none) H6 s7 → Q s7) →
          wpAny (model X.prog X.w) X.A (do bindName X.env n .none; unbindBehindTheSuite X.env n pp) (fun _ s7 => Q s7) X.xe s6 := fun {τ H6 Q} S6 k => gone_ok (S6.unsuite J.ok) hN ni nl k
      cases f with
      | ret u =>
        obtain ⟨v6, τ, H6, S6, r6, q6⟩ := y
        exact off S6 fun s7 J7 => ⟨_, _, _, J7, r6, q6⟩
      | next =>
        obtain ⟨τ, H6, S6, q6⟩ := y
        exact off S6 fun s7 J7 => ⟨_, _, J7, q6⟩
      | brk =>
        obtain ⟨τ, H6, S6, q6⟩ := y
        exact off S6 fun s7 J7 => ⟨_, _, J7, q6⟩
      | cont =>
        obtain ⟨τ, H6, S6, q6⟩ := y
        exact off S6 fun s7 J7 => ⟨_, _, J7, q6⟩
/-- try: body, except x as n: suite, except y as m: suite, .. -/
theorem ps_try_upto {body : List Stmt} {h₀ : ExceptHandler} {hs : List ExceptHandler} {l : List Cl} {pos : Pos} {tb : WX → TS} (hst : X.stack = X.env :: X.outer) (hfr : X.env.frame = some X.env.locals) (hN : X.N.Nodup) (tk : Takes X Wo)
    (hb : ∀ (W : WX) (pn : List (Addr × Obj)) (xe : Value → Shared → Prop), Takes (X.tr pn xe) W → PassesOwn (model X.prog X.w) X.A X.env xe → PSs (X.tr pn xe) body (tb W)) (C : Upto X (h₀ :: hs) l) :
    PS X (.Try body (h₀ :: hs) [] [] pos) (fun D σ H => tb (wUpto X.K X.N.length Wo D l) D σ H) := by
  refine ⟨fun pins s σ H D I h => ?_⟩
  have ok := I.ok
  have frm : X.A.frames = some (X.env :: X.outer) := by rw [ok.frames, hst]
  refine wpAny_Try_except (wpAny_mono ((hb (wUpto X.K X.N.length Wo D l) (X.pn ++ pins) _ (fun u s' y => ?_) PassesOwn.looking).run [] s σ H D (I.toTry _) h) (fun f s1 y => ?_) (fun _ _ z => z))
  · obtain ⟨a, B, sI, pins', σ', H', cls, d, rfl, J', nb, up, sky, na, os, ag, q⟩ := y
    show wpAny (model X.prog X.w) X.A (noteFrame (.ref a) X.env) _ _ _
    refine Sky.land Zc.steady frm hfr (by rw [← hst]; exact sky) fun h3 f3 u3 => ?_
    obtain ⟨oe, vs, he, hz, hd⟩ := f3.there
    have out : a ∉ frs (X.env :: X.outer) := fun hm => by
      obtain ⟨_, o', e', nf⟩ := f3.2.2.1.mem hm
      rw [he] at e'
      cases e'
      exact nf _ hd
    refine upto_run hst hfr hN tk C (s := { s' with heap := h3 }) ⟨J'.ofTry ok, nb, up.trans u3, f3, na, os, ag, fun z => out (List.mem_filterMap.mpr ⟨X.env, List.mem_cons_self, by rw [hfr, z]⟩), fun hm => ?_⟩ q
    obtain ⟨e, he2, q2⟩ := List.mem_filterMap.mp hm
    exact out (List.mem_filterMap.mpr ⟨e, List.mem_cons_of_mem _ he2, q2⟩)
  · cases f with
    | next =>
      obtain ⟨σ', H', J', q⟩ := y
      exact wpAny_execs_nil ⟨σ', H', J'.ofTry ok, q⟩
    | ret u =>
      obtain ⟨v, σ', H', J', r, q⟩ := y
      exact ⟨v, σ', H', J'.ofTry ok, r, q⟩
    | brk =>
      obtain ⟨σ', H', J', q⟩ := y
      exact ⟨σ', H', J'.ofTry ok, q⟩
    | cont =>
      obtain ⟨σ', H', J', q⟩ := y
      exact ⟨σ', H', J'.ofTry ok, q⟩
end
end Mu

set_option Elab.async false
set_option linter.all false
set_option maxRecDepth 100000
/-! Data without the heap. -/
namespace Dl
open PySem PySem.Spec PyProof.Rows L2
abbrev ofL (l : List Nat) : Str := ⟨l.toArray⟩
/-- data: what a value is, all that it leads to within -/
inductive D where
  | non | bl (b : Bool) | int (i : Int) | str (l : List Nat) | ty (n : String) | ref (a : Addr)
  | lst (xs : List D) | tup (xs : List D) | ins (C : Addr) (ks : List Str) (xs : List D)
  | dK (ks : List Key) (xs : List D) | dT (ks : List (List Key)) (xs : List D) | src | scr (ns : List Int)
  | tab (q : Str) | lam (f c : Addr) (q : Str) (σ : L2.St) (δ : List (Option D))
  | exc (a C dd : Addr) (f : Str) (x : D)
/-- what stands in the cells: things that are changed -/
abbrev Mu := Addr → Option D
def mup (μ : Mu) (a : Addr) (d : D) : Mu := fun b => if b = a then some d else μ b
def era (μ : Mu) (a : Addr) : Mu := fun b => if b = a then none else μ b
theorem mup_same {μ : Mu} {a : Addr} {d : D} : mup μ a d a = some d := by unfold mup; rw [if_pos rfl]
theorem mup_ne {μ : Mu} {a b : Addr} {d : D} (h : b ≠ a) : mup μ a d b = μ b := by unfold mup; rw [if_neg h]
theorem mup_mup {μ : Mu} {a : Addr} {d e : D} : mup (mup μ a d) a e = mup μ a e := by
  funext b; unfold mup; split <;> rfl
theorem era_same {μ : Mu} {a : Addr} : era μ a a = none := by unfold era; rw [if_pos rfl]
theorem era_ne {μ : Mu} {a b : Addr} (h : b ≠ a) : era μ a b = μ b := by unfold era; rw [if_neg h]
theorem era_mup {μ : Mu} {a : Addr} {d : D} (h : μ a = none) : era (mup μ a d) a = μ := by
  funext b
  unfold era mup
  split
  · rename_i e; rw [e, h]
  · rfl
/-- a tuple of the written part -/
def KTup (K : PySem.W.Frag) (a : Addr) (xs : List V) : Prop := ∃ (o : Obj) (its : Array Value) (n : Nat), K.lookup a = some o ∧ o.cls = .type "tuple" ∧ o.data = .seq its n ∧ its.size ≤ sizeLine ∧ Vals xs its.toList
/-- the script -/
def Scr (K : PySem.W.Frag) (H : Hp) (μ : Mu) (a : Addr) (ns : List Int) : Prop := (Rd H a (.lst (ns.map V.int)) ∧ μ a = none) ∨
  ∃ (o : Obj) (its : Array Value) (n : Nat), K.lookup a = some o ∧ o.cls = .type "list" ∧ o.dict = none ∧ o.data = .seq its n ∧ its.size ≤ sizeLine ∧ Vals (ns.map V.int) its.toList
/-- the table at P: each code object that it tells bears the name q -/
def TabM (H : Hp) (μ : Mu) (P : Addr) (q : Str) : Prop := ∃ ps : Array Value, H P = some (.tbl ps) ∧ PySem.TriplesOk ps.toList ∧ ∀ (pos : Pos) (cv : Value), codeAmong pos ps.toList = some cv → ∃ c, cv = .ref c ∧ H c = some (LamX.CodeO c q) ∧ μ c = none
section
variable (K : PySem.W.Frag) (H : Hp) (μ : Mu)
mutual
/-- the value v is the data d; no cell is asked -/
inductive Rep : V → D → Prop
  | non : Rep .non .non
  | bl (b : Bool) : Rep (.bl b) (.bl b)
  | int (i : Int) : Rep (.int i) (.int i)
  | str (l : List Nat) : Rep (.str (ofL l)) (.str l)
  | ty (n : String) : Rep (.ty n) (.ty n)
  | ref (a : Addr) : Rep (.ref a) (.ref a)
  | obj {a : Addr} {d : D} (h : μ a = none) (nt : ∀ q, d ≠ .tab q) (c : Con a d) : Rep (.ref a) d
  | ktup {a : Addr} {vs : List V} {xs : List D} (h : KTup K a vs) (r : Reps vs xs) : Rep (.ref a) (.tup xs)
  | scr {a : Addr} {ns : List Int} (h : Scr K H μ a ns) : Rep (.ref a) (.scr ns)
  | tabx (a : Addr) (q : Str) : Rep (.ref a) (.tab q)
  | lam {f c : Addr} {q : Str} {σ : L2.St} {δ : List (Option D)} (h : H c = some (LamX.CodeO c q)) (m : μ c = none) (r : Repo σ δ) : Rep (.ref f) (.lam f c q σ δ)
  | exc {a C dd : Addr} {f : Str} {v : V} {x : D} (h : H dd = some (.xd [(f, v)])) (m : μ dd = none) (r : Rep v x) : Rep (.ref a) (.exc a C dd f x)
/-- what stands at a is d -/
inductive Con : Addr → D → Prop
  | lst {a : Addr} {vs : List V} {xs : List D} (h : H a = some (.lst vs)) (r : Reps vs xs) : Con a (.lst xs)
  | tup {a : Addr} {vs : List V} {xs : List D} (h : Rd H a (.tup vs)) (r : Reps vs xs) : Con a (.tup xs)
  | ins {a C dx : Addr} {fs : List (Str × V)} {xs : List D} (h : H a = some (.ins C dx fs)) (r : Reps (fs.map (·.2)) xs) : Con a (.ins C (fs.map (·.1)) xs)
  | dK {a : Addr} {kvs : List (Key × V)} {xs : List D} (h : Rd H a (.dK kvs)) (r : Reps (kvs.map (·.2)) xs) : Con a (.dK (kvs.map (·.1)) xs)
  | dT {a : Addr} {kvs : List (List Key × V)} {xs : List D} (h : Rd H a (.dT kvs)) (r : Reps (kvs.map (·.2)) xs) : Con a (.dT (kvs.map (·.1)) xs)
  | src {a : Addr} (x y z : Int) (h : H a = some (.lst [.int x, .int y, .int z])) : Con a .src
  | tab {a : Addr} {q : Str} (h : TabM H μ a q) : Con a (.tab q)
inductive Reps : List V → List D → Prop
  | nil : Reps [] []
  | cons {v : V} {d : D} {vs : List V} {xs : List D} (h : Rep v d) (r : Reps vs xs) : Reps (v :: vs) (d :: xs)
inductive Repo : List (Option V) → List (Option D) → Prop
  | nil : Repo [] []
  | skip {v : Option V} {σ : List (Option V)} {δ : List (Option D)} (r : Repo σ δ) : Repo (v :: σ) (none :: δ)
  | cons {v : V} {d : D} {σ : List (Option V)} {δ : List (Option D)} (h : Rep v d) (r : Repo σ δ) : Repo (some v :: σ) (some d :: δ)
end
end
/-- the heap has grown; what no cell holds stands as it was -/
structure Grow (H : Hp) (μ : Mu) (H' : Hp) (μ' : Mu) : Prop where
  keep : ∀ a o, H a = some o → (∀ ps, o ≠ .tbl ps) → μ a = none → H' a = some o ∧ μ' a = none
theorem Grow.refl {H : Hp} {μ : Mu} : Grow H μ H μ := ⟨fun _ _ h _ m => ⟨h, m⟩⟩
theorem Grow.trans {H H1 H2 : Hp} {μ μ1 μ2 : Mu} (a : Grow H μ H1 μ1) (b : Grow H1 μ1 H2 μ2) : Grow H μ H2 μ2 :=
  ⟨fun c o h n m => let ⟨h1, m1⟩ := a.keep c o h n m; b.keep c o h1 n m1⟩
/-- no cell is new, and none is a tracked thing's that was none -/
theorem Grow.new {H : Hp} {μ : Mu} {p : Addr} {o : HO} (h : H p = none) : Grow H μ (upd H p o) μ :=
  ⟨fun a u e _ m => ⟨by rw [upd_ne (ne_of_none e h)]; exact e, m⟩⟩
theorem Grow.cell {H : Hp} {μ : Mu} {p : Addr} {o : HO} {d : D} (h : H p = none) : Grow H μ (upd H p o) (mup μ p d) :=
  ⟨fun a u e _ m => ⟨by rw [upd_ne (ne_of_none e h)]; exact e, by rw [mup_ne (ne_of_none e h)]; exact m⟩⟩
/-- a cell's thing is changed -/
theorem Grow.put {H : Hp} {μ : Mu} {p : Addr} {o o' : HO} {d d' : D} (h : H p = some o') (nt : ∀ ps, o' ≠ .tbl ps) (m : μ p = some d') : Grow H μ (upd H p o) (mup μ p d) :=
  ⟨fun a u e _ n => by
    have ne : a ≠ p := fun z => by rw [z, m] at n; cases n
    exact ⟨by rw [upd_ne ne]; exact e, by rw [mup_ne ne]; exact n⟩⟩
theorem Grow.freeze {H : Hp} {μ : Mu} {p : Addr} : Grow H μ H (era μ p) :=
  ⟨fun a u e _ n => ⟨e, by by_cases h : a = p; rw [h, era_same]; rw [era_ne h]; exact n⟩⟩
/-- .. from a heap that only grew -/
theorem Grow.ext {H H' : Hp} {μ : Mu} (e : ∀ a o, H a = some o → (∀ ps, o ≠ .tbl ps) → H' a = some o) : Grow H μ H' μ :=
  ⟨fun a o h n m => ⟨e a o h n, m⟩⟩
theorem codeO_nt {c : Addr} {q : Str} (ps : Array Value) : LamX.CodeO c q ≠ .tbl ps := LamX.codeO_ne ps
theorem TabM.grow {H H' : Hp} {μ μ' : Mu} {P : Addr} {q : Str} (t : TabM H μ P q) (g : Grow H μ H' μ') (k : ∀ o, H P = some o → H' P = some o) : TabM H' μ' P q := by
  obtain ⟨ps, h1, h2, h3⟩ := t
  refine ⟨ps, k _ h1, h2, fun pos cv hc => ?_⟩
  obtain ⟨c, e1, e2, e3⟩ := h3 pos cv hc
  obtain ⟨e4, e5⟩ := g.keep _ _ e2 codeO_nt e3
  exact ⟨c, e1, e4, e5⟩
section
variable {K : PySem.W.Frag} {H H' : Hp} {μ μ' : Mu}
theorem rd_tbl {a : Addr} {u : HO} (g : Grow H μ H' μ') (h : Rd H a u) (n : ∀ ps, u ≠ .tbl ps) (m : μ a = none) : Rd H' a u := by
  rcases h with h | ⟨o, h⟩
  · exact .inl (g.keep _ _ h n m).1
  · exact .inr ⟨o, (g.keep _ _ h (fun _ z => by cases z) m).1⟩
theorem mu_rd {a : Addr} {u : HO} (g : Grow H μ H' μ') (h : Rd H a u) (n : ∀ ps, u ≠ .tbl ps) (m : μ a = none) : μ' a = none := by
  rcases h with h | ⟨o, h⟩
  · exact (g.keep _ _ h n m).2
  · exact (g.keep _ _ h (fun _ z => by cases z) m).2
mutual
theorem Rep.grow (g : Grow H μ H' μ') {v : V} {d : D} : Rep K H μ v d → Rep K H' μ' v d
  | .non => .non
  | .bl b => .bl b
  | .int i => .int i
  | .str l => .str l
  | .ty n => .ty n
  | .ref a => .ref a
  | .obj h nt c => let ⟨m, c'⟩ := Con.grow g h nt c; .obj m nt c'
  | .ktup h r => .ktup h (Reps.grow g r)
  | .scr h => .scr (h.elim (fun ⟨h, m⟩ => .inl ⟨rd_tbl g h (fun _ z => by cases z) m, mu_rd g h (fun _ z => by cases z) m⟩) .inr)
  | .tabx a q => .tabx a q
  | .lam h m r => let ⟨h', m'⟩ := g.keep _ _ h codeO_nt m; .lam h' m' (Repo.grow g r)
  | .exc h m r => let ⟨h', m'⟩ := g.keep _ _ h (fun _ z => by cases z) m; .exc h' m' (Rep.grow g r)
theorem Con.grow (g : Grow H μ H' μ') {a : Addr} {d : D} (m : μ a = none) (nt : ∀ q, d ≠ .tab q) : Con K H μ a d → μ' a = none ∧ Con K H' μ' a d
  | .lst h r => let ⟨h', m'⟩ := g.keep _ _ h (fun _ z => by cases z) m; ⟨m', .lst h' (Reps.grow g r)⟩
  | .tup h r => ⟨mu_rd g h (fun _ z => by cases z) m, .tup (rd_tbl g h (fun _ z => by cases z) m) (Reps.grow g r)⟩
  | .ins h r => let ⟨h', m'⟩ := g.keep _ _ h (fun _ z => by cases z) m; ⟨m', .ins h' (Reps.grow g r)⟩
  | .dK h r => ⟨mu_rd g h (fun _ z => by cases z) m, .dK (rd_tbl g h (fun _ z => by cases z) m) (Reps.grow g r)⟩
  | .dT h r => ⟨mu_rd g h (fun _ z => by cases z) m, .dT (rd_tbl g h (fun _ z => by cases z) m) (Reps.grow g r)⟩
  | .src x y z h => let ⟨h', m'⟩ := g.keep _ _ h (fun _ z => by cases z) m; ⟨m', .src x y z h'⟩
  | .tab h => absurd rfl (nt _)
theorem Reps.grow (g : Grow H μ H' μ') {vs : List V} {xs : List D} : Reps K H μ vs xs → Reps K H' μ' vs xs
  | .nil => .nil
  | .cons h r => .cons (Rep.grow g h) (Reps.grow g r)
theorem Repo.grow (g : Grow H μ H' μ') {σ : List (Option V)} {δ : List (Option D)} : Repo K H μ σ δ → Repo K H' μ' σ δ
  | .nil => .nil
  | .skip r => .skip (Repo.grow g r)
  | .cons h r => .cons (Rep.grow g h) (Repo.grow g r)
end
theorem Reps.length : ∀ {vs : List V} {xs : List D}, Reps K H μ vs xs → vs.length = xs.length
  | _, _, .nil => rfl
  | _, _, .cons _ r => by rw [List.length_cons, List.length_cons, Reps.length r]
theorem Reps.get : ∀ {vs : List V} {xs : List D} {i : Nat} {x : D}, Reps K H μ vs xs → xs[i]? = some x → ∃ v, vs[i]? = some v ∧ Rep K H μ v x
  | _, _, _, _, .nil, e => by simp at e
  | _, _, 0, _, .cons r _, e => by simp at e; subst e; exact ⟨_, rfl, r⟩
  | _, _, i + 1, x, .cons _ t, e => by
    obtain ⟨u, h1, h2⟩ := Reps.get (i := i) (x := x) t (by simpa using e)
    exact ⟨u, by simpa using h1, h2⟩
theorem Reps.getV : ∀ {vs : List V} {xs : List D} {i : Nat} {v : V}, Reps K H μ vs xs → vs[i]? = some v → ∃ x, xs[i]? = some x ∧ Rep K H μ v x
  | _, _, _, _, .nil, e => by simp at e
  | _, _, 0, _, .cons r _, e => by simp at e; subst e; exact ⟨_, rfl, r⟩
  | _, _, i + 1, x, .cons _ t, e => by
    obtain ⟨u, h1, h2⟩ := Reps.getV (i := i) (v := x) t (by simpa using e)
    exact ⟨u, by simpa using h1, h2⟩
theorem Reps.append : ∀ {vs ws : List V} {xs ys : List D}, Reps K H μ vs xs → Reps K H μ ws ys → Reps K H μ (vs ++ ws) (xs ++ ys)
  | _, _, _, _, .nil, s => s
  | _, _, _, _, .cons r t, s => .cons r (Reps.append t s)
theorem Reps.one {v : V} {x : D} (h : Rep K H μ v x) : Reps K H μ [v] [x] := .cons h .nil
theorem Reps.take : ∀ {vs : List V} {xs : List D} (n : Nat), Reps K H μ vs xs → Reps K H μ (vs.take n) (xs.take n)
  | _, _, 0, _ => .nil
  | _, _, _ + 1, .nil => .nil
  | _, _, n + 1, .cons r t => .cons r (Reps.take n t)
theorem Reps.drop : ∀ {vs : List V} {xs : List D} (n : Nat), Reps K H μ vs xs → Reps K H μ (vs.drop n) (xs.drop n)
  | _, _, 0, r => r
  | _, _, _ + 1, .nil => .nil
  | _, _, n + 1, .cons _ t => Reps.drop n t
theorem Reps.set {v : V} {x : D} (h : Rep K H μ v x) : ∀ {vs : List V} {xs : List D} (i : Nat), Reps K H μ vs xs → Reps K H μ (vs.set i v) (xs.set i x)
  | _, _, _, .nil => .nil
  | _, _, 0, .cons _ t => .cons h t
  | _, _, i + 1, .cons q t => .cons q (Reps.set h i t)
theorem Reps.reverse : ∀ {vs : List V} {xs : List D}, Reps K H μ vs xs → Reps K H μ vs.reverse xs.reverse
  | _, _, .nil => .nil
  | _, _, .cons r t => by rw [List.reverse_cons, List.reverse_cons]; exact (Reps.reverse t).append (.one r)
theorem Reps.nil_inv {vs : List V} (h : Reps K H μ vs []) : vs = [] := by cases h; rfl
theorem Reps.cons_inv {vs : List V} {x : D} {xs : List D} (h : Reps K H μ vs (x :: xs)) : ∃ v r, vs = v :: r ∧ Rep K H μ v x ∧ Reps K H μ r xs := by
  cases h with
  | cons h r => exact ⟨_, _, rfl, h, r⟩
/-- plain things -/
theorem Rep.of_con {a : Addr} {d : D} (m : μ a = none) (c : Con K H μ a d) : Rep K H μ (.ref a) d := by
  cases c with
  | tab h => exact .tabx _ _
  | lst h r => exact .obj m (fun _ z => by cases z) (.lst h r)
  | tup h r => exact .obj m (fun _ z => by cases z) (.tup h r)
  | ins h r => exact .obj m (fun _ z => by cases z) (.ins h r)
  | dK h r => exact .obj m (fun _ z => by cases z) (.dK h r)
  | dT h r => exact .obj m (fun _ z => by cases z) (.dT h r)
  | src x y z h => exact .obj m (fun _ z => by cases z) (.src x y z h)
theorem Rep.int_inv {v : V} {i : Int} (h : Rep K H μ v (.int i)) : v = .int i := by
  cases h with
  | int => rfl
  | obj m nt c => cases c
theorem Rep.bl_inv {v : V} {b : Bool} (h : Rep K H μ v (.bl b)) : v = .bl b := by
  cases h with
  | bl => rfl
  | obj m nt c => cases c
theorem Rep.str_inv {v : V} {l : List Nat} (h : Rep K H μ v (.str l)) : v = .str (ofL l) := by
  cases h with
  | str => rfl
  | obj m nt c => cases c
theorem Rep.non_inv {v : V} (h : Rep K H μ v .non) : v = .non := by
  cases h with
  | non => rfl
  | obj m nt c => cases c
theorem Rep.ty_inv {v : V} {n : String} (h : Rep K H μ v (.ty n)) : v = .ty n := by
  cases h with
  | ty => rfl
  | obj m nt c => cases c
theorem Rep.ref_inv {v : V} {a : Addr} (h : Rep K H μ v (.ref a)) : v = .ref a := by
  cases h with
  | ref => rfl
  | obj m nt c => cases c
theorem Rep.lst_inv {v : V} {xs : List D} (h : Rep K H μ v (.lst xs)) : ∃ a vs, v = .ref a ∧ μ a = none ∧ H a = some (.lst vs) ∧ Reps K H μ vs xs := by
  cases h with
  | obj m nt c => cases c with | lst h r => exact ⟨_, _, rfl, m, h, r⟩
theorem Rep.tup_inv {v : V} {xs : List D} (h : Rep K H μ v (.tup xs)) : ∃ a vs, v = .ref a ∧ SqT K H a vs ∧ Reps K H μ vs xs := by
  cases h with
  | obj m nt c => cases c with | tup h r => exact ⟨_, _, rfl, .inl h, r⟩
  | ktup h r => exact ⟨_, _, rfl, .inr h, r⟩
theorem Rep.ins_inv {v : V} {C : Addr} {ks : List Str} {xs : List D} (h : Rep K H μ v (.ins C ks xs)) : ∃ a dx fs, v = .ref a ∧ μ a = none ∧ H a = some (.ins C dx fs) ∧ ks = fs.map (·.1) ∧ Reps K H μ (fs.map (·.2)) xs := by
  cases h with
  | obj m nt c => cases c with | ins h r => exact ⟨_, _, _, rfl, m, h, rfl, r⟩
theorem Rep.scr_inv {v : V} {ns : List Int} (h : Rep K H μ v (.scr ns)) : ∃ a, v = .ref a ∧ SqL K H a (ns.map V.int) := by
  cases h with
  | obj m nt c => cases c
  | scr h => exact ⟨_, rfl, h.elim (fun h => .inl h.1) .inr⟩
end
end Dl

set_option Elab.async false
set_option linter.all false
set_option maxRecDepth 100000
namespace Dl
open PySem PySem.Spec PyProof.Rows L2
/-! the judgements -/
abbrev Sl := List (Option D)
abbrev DK := D → Mu → Prop
abbrev DX := Addr → Str → D → Mu → Prop
abbrev DTE := DX → Sl → Mu → DK → Prop
abbrev DTT := DX → Sl → Mu → (Bool → Mu → Prop) → Prop
abbrev DTA := DX → Sl → Mu → (List D → Mu → Prop) → Prop
structure DEnds where
  nx : Sl → Mu → Prop
  rt : DK
  bk : Sl → Mu → Prop := fun _ _ => False
  ct : Sl → Mu → Prop := fun _ _ => False
abbrev DTS := DX → DEnds → Sl → Mu → Prop
abbrev DTG := D → Sl → Mu → (Sl → Mu → Prop) → Prop
abbrev DTGs := List D → Sl → Mu → (Sl → Mu → Prop) → Prop
/-- no dict that a walk has locked -/
def NF (H : Hp) (a : Addr) : Prop := ∀ o u, H a ≠ some (.frz o u)
def Cells (K : PySem.W.Frag) (H : Hp) (μ : Mu) : Prop := ∀ a d, μ a = some d → Con K H μ a d ∧ NF H a
def Slots (K : PySem.W.Frag) (H : Hp) (μ : Mu) (σ : L2.St) (δ : Sl) : Prop := σ.length = δ.length ∧ ∀ (i : Nat) (d : D), δ[i]? = some (some d) → ∃ v, σ[i]? = some (some v) ∧ Rep K H μ v d
structure Here (K : PySem.W.Frag) (H : Hp) (μ : Mu) (σ : L2.St) (δ : Sl) : Prop where
  cells : Cells K H μ
  slots : Slots K H μ σ δ
/-- what stands and only grew -/
structure Then (K : PySem.W.Frag) (H : Hp) (μ : Mu) (H' : Hp) (μ' : Mu) : Prop where
  g : Grow H μ H' μ'
  cells : Cells K H' μ'
def QR (K : PySem.W.Frag) (H : Hp) (μ : Mu) (Q : VK) (Q' : DK) : Prop := ∀ v d H' μ', Then K H μ H' μ' → Rep K H' μ' v d → Q' d μ' → Q v H'
def AR (K : PySem.W.Frag) (H : Hp) (μ : Mu) (Q : List V → Hp → Prop) (Q' : List D → Mu → Prop) : Prop := ∀ v d H' μ', Then K H μ H' μ' → Reps K H' μ' v d → Q' d μ' → Q v H'
def TR (K : PySem.W.Frag) (H : Hp) (μ : Mu) (Q : Bool → Hp → Prop) (Q' : Bool → Mu → Prop) : Prop := ∀ b H' μ', Then K H μ H' μ' → Q' b μ' → Q b H'
def NR (K : PySem.W.Frag) (H : Hp) (μ : Mu) (Q : L2.St → Hp → Prop) (Q' : Sl → Mu → Prop) : Prop := ∀ σ δ H' μ', Then K H μ H' μ' → Slots K H' μ' σ δ → Q' δ μ' → Q σ H'
def XR (K : PySem.W.Frag) (H : Hp) (μ : Mu) (E : XK) (E' : DX) : Prop := ∀ C f x v a H' μ', Then K H μ H' μ' → Rep K H' μ' v x → H' a = some (.xd [(f, v)]) → E' C f x μ' → E (.ref C) (some a) H'
structure ER (K : PySem.W.Frag) (H : Hp) (μ : Mu) (D : Ends) (D' : DEnds) : Prop where
  nx : NR K H μ D.nx D'.nx
  rt : QR K H μ D.rt D'.rt
  bk : NR K H μ D.bk D'.bk
  ct : NR K H μ D.ct D'.ct
section
variable {K : PySem.W.Frag} {H H1 H' : Hp} {μ μ1 μ' : Mu}
theorem Then.refl (c : Cells K H μ) : Then K H μ H μ := ⟨.refl, c⟩
theorem Then.trans (a : Then K H μ H1 μ1) (b : Then K H1 μ1 H' μ') : Then K H μ H' μ' := ⟨a.g.trans b.g, b.cells⟩
theorem Here.refl {σ : L2.St} {δ : Sl} (h : Here K H μ σ δ) : Then K H μ H μ := .refl h.cells
theorem Slots.grow {σ : L2.St} {δ : Sl} (g : Grow H μ H' μ') (s : Slots K H μ σ δ) : Slots K H' μ' σ δ := ⟨s.1, fun i d e => let ⟨v, h, r⟩ := s.2 i d e; ⟨v, h, r.grow g⟩⟩
theorem Here.go {σ : L2.St} {δ : Sl} (h : Here K H μ σ δ) (t : Then K H μ H' μ') : Here K H' μ' σ δ := ⟨t.cells, h.slots.grow t.g⟩
theorem QR.go {Q : VK} {Q' : DK} (q : QR K H μ Q Q') (t : Then K H μ H1 μ1) : QR K H1 μ1 Q Q' := fun v d H' μ' t' => q v d H' μ' (t.trans t')
theorem AR.go {Q : List V → Hp → Prop} {Q' : List D → Mu → Prop} (q : AR K H μ Q Q') (t : Then K H μ H1 μ1) : AR K H1 μ1 Q Q' := fun v d H' μ' t' => q v d H' μ' (t.trans t')
theorem TR.go {Q : Bool → Hp → Prop} {Q' : Bool → Mu → Prop} (q : TR K H μ Q Q') (t : Then K H μ H1 μ1) : TR K H1 μ1 Q Q' := fun v H' μ' t' => q v H' μ' (t.trans t')
theorem NR.go {Q : L2.St → Hp → Prop} {Q' : Sl → Mu → Prop} (q : NR K H μ Q Q') (t : Then K H μ H1 μ1) : NR K H1 μ1 Q Q' := fun v d H' μ' t' => q v d H' μ' (t.trans t')
theorem XR.go {E : XK} {E' : DX} (q : XR K H μ E E') (t : Then K H μ H1 μ1) : XR K H1 μ1 E E' := fun C f x v a H' μ' t' => q C f x v a H' μ' (t.trans t')
theorem ER.go {D : Ends} {D' : DEnds} (q : ER K H μ D D') (t : Then K H μ H1 μ1) : ER K H1 μ1 D D' := ⟨q.nx.go t, q.rt.go t, q.bk.go t, q.ct.go t⟩
theorem NR.none {Q : L2.St → Hp → Prop} : NR K H μ Q (fun _ _ => False) := fun _ _ _ _ _ _ h => h.elim
theorem Slots.set {σ : L2.St} {δ : Sl} {i : Nat} {v : V} {d : D} (s : Slots K H μ σ δ) (r : Rep K H μ v d) : Slots K H μ (σ.set i (some v)) (δ.set i (some d)) := by
  refine ⟨by rw [List.length_set, List.length_set, s.1], fun j x e => ?_⟩
  by_cases hj : i = j
  · subst hj
    by_cases hl : i < δ.length
    · rw [List.getElem?_set_self hl] at e
      cases e
      exact ⟨v, by rw [List.getElem?_set_self (by rw [s.1]; exact hl)], r⟩
    · rw [List.getElem?_eq_none (by rw [List.length_set]; omega)] at e
      cases e
  · rw [List.getElem?_set_ne hj] at e
    obtain ⟨u, h, q⟩ := s.2 j x e
    exact ⟨u, by rw [List.getElem?_set_ne hj]; exact h, q⟩
end
structure SE (K : PySem.W.Frag) (E : XK) (t : TE) (d : DTE) : Prop where
  go : ∀ {σ H δ μ Q Q' E'}, Here K H μ σ δ → XR K H μ E E' → d E' δ μ Q' → QR K H μ Q Q' → t σ H Q
structure ST (K : PySem.W.Frag) (E : XK) (t : TT) (d : DTT) : Prop where
  go : ∀ {σ H δ μ Q Q' E'}, Here K H μ σ δ → XR K H μ E E' → d E' δ μ Q' → TR K H μ Q Q' → t σ H Q
structure SA (K : PySem.W.Frag) (E : XK) (t : TA) (d : DTA) : Prop where
  go : ∀ {σ H δ μ Q Q' E'}, Here K H μ σ δ → XR K H μ E E' → d E' δ μ Q' → AR K H μ Q Q' → t σ H Q
structure SS (K : PySem.W.Frag) (E : XK) (t : TS) (d : DTS) : Prop where
  go : ∀ {σ H δ μ D D' E'}, Here K H μ σ δ → XR K H μ E E' → d E' D' δ μ → ER K H μ D D' → t D σ H
structure SG (K : PySem.W.Frag) (t : TG) (d : DTG) : Prop where
  go : ∀ {v x σ H δ μ Q Q'}, Here K H μ σ δ → Rep K H μ v x → d x δ μ Q' → NR K H μ Q Q' → t v σ H Q
structure SGs (K : PySem.W.Frag) (t : TGs) (d : DTGs) : Prop where
  go : ∀ {v x σ H δ μ Q Q'}, Here K H μ σ δ → Reps K H μ v x → d x δ μ Q' → NR K H μ Q Q' → t v σ H Q
structure DE (X : Cx) (E : XK) (e : Expr) (t : TE) (d : DTE) : Prop where
  pe : PE X e t
  sn : SE X.K E t d
structure DT (X : Cx) (E : XK) (e : Expr) (t : TT) (d : DTT) : Prop where
  pe : PT X e t
  sn : ST X.K E t d
structure DW (X : Cx) (E : XK) (e : Expr) (t : TT) (d : DTT) : Prop where
  pe : PW X e t
  sn : ST X.K E t d
structure DA (X : Cx) (E : XK) (e : List Expr) (t : TA) (d : DTA) : Prop where
  pe : PA X e t
  sn : SA X.K E t d
structure DS (X : Cx) (E : XK) (e : Stmt) (t : TS) (d : DTS) : Prop where
  pe : PS X e t
  sn : SS X.K E t d
structure DSs (X : Cx) (E : XK) (e : List Stmt) (t : TS) (d : DTS) : Prop where
  pe : PSs X e t
  sn : SS X.K E t d
structure DG (X : Cx) (e : Expr) (t : TG) (d : DTG) : Prop where
  pe : PG X e t
  sn : SG X.K t d
structure DGs (X : Cx) (e : List Expr) (t : TGs) (d : DTGs) : Prop where
  pe : PGs X e t
  sn : SGs X.K t d
/-! looking at data -/
def D.toI : D → (Int → Prop) → Prop
  | .int i, k => k i
  | _, _ => False
def D.toB : D → (Bool → Prop) → Prop
  | .bl b, k => k b
  | _, _ => False
def D.toS : D → (List Nat → Prop) → Prop
  | .str l, k => k l
  | _, _ => False
def D.toR : D → (Addr → Prop) → Prop
  | .ref a, k => k a
  | _, _ => False
/-- what is there to be read: a cell's thing, or the data itself -/
def rd (μ : Mu) : D → D
  | .ref a => (μ a).getD (.ref a)
  | d => d
def D.toL : D → (List D → Prop) → Prop
  | .lst xs, k => k xs
  | _, _ => False
def D.toT : D → (List D → Prop) → Prop
  | .tup xs, k => k xs
  | _, _ => False
def D.toO : D → (Addr → List Str → List D → Prop) → Prop
  | .ins C ks xs, k => k C ks xs
  | _, _ => False
theorem toI_inv {d : D} {k : Int → Prop} (h : d.toI k) : ∃ i, d = .int i ∧ k i := by
  cases d <;> first | exact ⟨_, rfl, h⟩ | exact h.elim
theorem toB_inv {d : D} {k : Bool → Prop} (h : d.toB k) : ∃ i, d = .bl i ∧ k i := by
  cases d <;> first | exact ⟨_, rfl, h⟩ | exact h.elim
theorem toS_inv {d : D} {k : List Nat → Prop} (h : d.toS k) : ∃ i, d = .str i ∧ k i := by
  cases d <;> first | exact ⟨_, rfl, h⟩ | exact h.elim
theorem toR_inv {d : D} {k : Addr → Prop} (h : d.toR k) : ∃ i, d = .ref i ∧ k i := by
  cases d <;> first | exact ⟨_, rfl, h⟩ | exact h.elim
theorem toL_inv {d : D} {k : List D → Prop} (h : d.toL k) : ∃ i, d = .lst i ∧ k i := by
  cases d <;> first | exact ⟨_, rfl, h⟩ | exact h.elim
theorem toT_inv {d : D} {k : List D → Prop} (h : d.toT k) : ∃ i, d = .tup i ∧ k i := by
  cases d <;> first | exact ⟨_, rfl, h⟩ | exact h.elim
theorem toO_inv {d : D} {k : Addr → List Str → List D → Prop} (h : d.toO k) : ∃ C ks xs, d = .ins C ks xs ∧ k C ks xs := by
  cases d <;> first | exact ⟨_, _, _, rfl, h⟩ | exact h.elim
section
variable {K : PySem.W.Frag} {H : Hp} {μ : Mu} {v : V} {d e : D}
/-- what is read stands somewhere -/
theorem rd_inv (c : Cells K H μ) (r : Rep K H μ v d) : rd μ d = d ∨ ∃ a, v = .ref a ∧ d = .ref a ∧ μ a = some (rd μ d) ∧ Con K H μ a (rd μ d) := by
  cases d with
  | ref a =>
    cases e : μ a with
    | none => left; show (μ a).getD _ = _; rw [e]; rfl
    | some x => right; exact ⟨a, r.ref_inv, rfl, by show _ = some ((μ a).getD _); rw [e]; rfl, by show Con K H μ a ((μ a).getD _); rw [e]; exact (c a x e).1⟩
  | _ => exact .inl rfl
theorem rd_lst {xs : List D} (c : Cells K H μ) (r : Rep K H μ v d) (e : rd μ d = .lst xs) : ∃ a vs, v = .ref a ∧ H a = some (.lst vs) ∧ Reps K H μ vs xs := by
  rcases rd_inv c r with h | ⟨a, hv, hd, hm, hc⟩
  · rw [h] at e; subst e
    obtain ⟨a, vs, h1, _, h2, h3⟩ := r.lst_inv
    exact ⟨a, vs, h1, h2, h3⟩
  · rw [e] at hc
    cases hc with | lst h r => exact ⟨a, _, hv, h, r⟩
theorem rd_ins {C : Addr} {ks : List Str} {xs : List D} (c : Cells K H μ) (r : Rep K H μ v d) (e : rd μ d = .ins C ks xs) : ∃ a dx fs, v = .ref a ∧ H a = some (.ins C dx fs) ∧ ks = fs.map (·.1) ∧ Reps K H μ (fs.map (·.2)) xs := by
  rcases rd_inv c r with h | ⟨a, hv, hd, hm, hc⟩
  · rw [h] at e; subst e
    obtain ⟨a, dx, fs, h1, _, h2, h3, h4⟩ := r.ins_inv
    exact ⟨a, dx, fs, h1, h2, h3, h4⟩
  · rw [e] at hc
    cases hc with | ins h r => exact ⟨a, _, _, hv, h, rfl, r⟩
theorem con_some {a : Addr} (c : Con K H μ a d) : ∃ o, H a = some o := by
  cases c with
  | lst g _ => exact ⟨_, g⟩
  | tup g _ => rcases g with g | ⟨_, g⟩ <;> exact ⟨_, g⟩
  | ins g _ => exact ⟨_, g⟩
  | dK g _ => rcases g with g | ⟨_, g⟩ <;> exact ⟨_, g⟩
  | dT g _ => rcases g with g | ⟨_, g⟩ <;> exact ⟨_, g⟩
  | src _ _ _ g => exact ⟨_, g⟩
  | tab g => obtain ⟨_, g, _⟩ := g; exact ⟨_, g⟩
theorem NF.keep {H' : Hp} {a : Addr} (c : Con K H μ a d) (n : NF H a) (k : ∀ o, H a = some o → H' a = some o) : NF H' a := fun o' u z => by
  obtain ⟨o, e⟩ := con_some c
  have := k o e
  rw [z] at this
  exact n o' u (by rw [e]; exact this.symm)
theorem mu_none (c : Cells K H μ) {p : Addr} (h : H p = none) : μ p = none := by
  cases e : μ p with
  | none => rfl
  | some d =>
    have q := (c p d e).1
    cases q with
    | lst g _ => rw [h] at g; cases g
    | tup g _ => rcases g with g | ⟨_, g⟩ <;> (rw [h] at g; cases g)
    | ins g _ => rw [h] at g; cases g
    | dK g _ => rcases g with g | ⟨_, g⟩ <;> (rw [h] at g; cases g)
    | dT g _ => rcases g with g | ⟨_, g⟩ <;> (rw [h] at g; cases g)
    | src _ _ _ g => rw [h] at g; cases g
    | tab g => obtain ⟨_, g, _⟩ := g; rw [h] at g; cases g
end
/-- a cell's thing, asked as a thing that stands, keeps to what grew where the cell itself stays -/
theorem Con.stay {K : PySem.W.Frag} {H H' : Hp} {μ μ' : Mu} (g : Grow H μ H' μ') {a : Addr} {d : D} (c : Con K H μ a d) (k : ∀ o, H a = some o → H' a = some o) : Con K H' μ' a d := by
  cases c with
  | lst h r => exact .lst (k _ h) (r.grow g)
  | tup h r => exact .tup (h.elim (fun h => .inl (k _ h)) fun ⟨o, h⟩ => .inr ⟨o, k _ h⟩) (r.grow g)
  | ins h r => exact .ins (k _ h) (r.grow g)
  | dK h r => exact .dK (h.elim (fun h => .inl (k _ h)) fun ⟨o, h⟩ => .inr ⟨o, k _ h⟩) (r.grow g)
  | dT h r => exact .dT (h.elim (fun h => .inl (k _ h)) fun ⟨o, h⟩ => .inr ⟨o, k _ h⟩) (r.grow g)
  | src x y z h => exact .src x y z (k _ h)
  | tab h => exact .tab (h.grow g k)
section
variable {K : PySem.W.Frag} {H : Hp} {μ : Mu}
/-- a new thing that no cell holds -/
theorem Then.new {p : Addr} {o : HO} (c : Cells K H μ) (h : H p = none) : Then K H μ (upd H p o) μ :=
  ⟨.new h, fun a d e => ⟨(c a d e).1.stay (.new h) fun u q => by rw [upd_ne (ne_of_none q h)]; exact q, fun o' u => by
    have ne : a ≠ p := fun z => by rw [z, mu_none c h] at e; cases e
    rw [upd_ne ne]; exact (c a d e).2 o' u⟩⟩
/-- a new cell -/
theorem Then.cell {p : Addr} {o : HO} {d : D} (c : Cells K H μ) (h : H p = none) (q : Con K (upd H p o) (mup μ p d) p d) (nf : ∀ o' u, o ≠ .frz o' u := by intro _ _ z; cases z) : Then K H μ (upd H p o) (mup μ p d) := by
  refine ⟨.cell h, fun a x e => ?_⟩
  by_cases ha : a = p
  · subst ha; rw [mup_same] at e; cases e; exact ⟨q, fun o' u => by rw [upd_same]; exact fun z => nf o' u (Option.some.inj z)⟩
  · rw [mup_ne ha] at e
    exact ⟨(c a x e).1.stay (.cell h) fun u z => by rw [upd_ne ha]; exact z, fun o' u => by rw [upd_ne ha]; exact (c a x e).2 o' u⟩
/-- a cell is changed -/
theorem Then.put {p : Addr} {o o' : HO} {d d' : D} (c : Cells K H μ) (h : H p = some o') (nt : ∀ ps, o' ≠ .tbl ps) (m : μ p = some d') (q : Con K (upd H p o) (mup μ p d) p d) (nf : ∀ o' u, o ≠ .frz o' u := by intro _ _ z; cases z) : Then K H μ (upd H p o) (mup μ p d) := by
  refine ⟨.put h nt m, fun a x e => ?_⟩
  by_cases ha : a = p
  · subst ha; rw [mup_same] at e; cases e; exact ⟨q, fun o' u => by rw [upd_same]; exact fun z => nf o' u (Option.some.inj z)⟩
  · rw [mup_ne ha] at e
    exact ⟨(c a x e).1.stay (.put h nt m) fun u z => by rw [upd_ne ha]; exact z, fun o' u => by rw [upd_ne ha]; exact (c a x e).2 o' u⟩
/-- a cell is shut: its thing is data from now on -/
theorem Then.freeze {p : Addr} (c : Cells K H μ) : Then K H μ H (era μ p) := by
  refine ⟨.freeze, fun a x e => ?_⟩
  have ha : a ≠ p := fun z => by rw [z, era_same] at e; cases e
  rw [era_ne ha] at e
  exact ⟨(c a x e).1.stay .freeze fun u z => z, (c a x e).2⟩
theorem rep_freeze {p : Addr} {d : D} (c : Cells K H μ) (m : μ p = some d) : Rep K H (era μ p) (.ref p) d :=
  .of_con era_same ((c p d m).1.stay .freeze fun _ z => z)
/-- a new list, tuple as data -/
theorem rep_lst {p : Addr} {vs : List V} {xs : List D} (c : Cells K H μ) (h : H p = none) (r : Reps K H μ vs xs) : Rep K (upd H p (.lst vs)) μ (.ref p) (.lst xs) :=
  .of_con (mu_none c h) (.lst upd_same (r.grow (.new h)))
theorem rep_tup {p : Addr} {vs : List V} {xs : List D} (c : Cells K H μ) (h : H p = none) (r : Reps K H μ vs xs) : Rep K (upd H p (.tup vs)) μ (.ref p) (.tup xs) :=
  .of_con (mu_none c h) (.tup (.inl upd_same) (r.grow (.new h)))
theorem con_lst {p : Addr} {vs : List V} {xs : List D} (h : H p = none) (r : Reps K H μ vs xs) : Con K (upd H p (.lst vs)) (mup μ p (.lst xs)) p (.lst xs) :=
  .lst upd_same (r.grow (.cell h))
end
end Dl

set_option Elab.async false
set_option linter.all false
set_option maxRecDepth 100000
namespace Dl
open PySem PySem.Spec PyProof.Rows L2
/-! ### names, constants -/
def dVar (i : Nat) : DTE := fun _ δ μ Q => match δ[i]? with | some (some d) => Q d μ | _ => False
def dC (d : D) : DTE := fun _ _ μ Q => Q d μ
section
variable {X : Cx} {E : XK}
theorem se_var {K : PySem.W.Frag} {i : Nat} : SE K E (tVar i) (dVar i) := ⟨fun {σ H δ μ Q Q' E'} h x d q => by
  cases e : δ[i]? with
  | none => rw [dVar, e] at d; exact d.elim
  | some o =>
    cases o with
    | none => rw [dVar, e] at d; exact d.elim
    | some y =>
      rw [dVar, e] at d
      obtain ⟨v, h1, r⟩ := h.slots.2 i y e
      exact ⟨v, h1, q v y H μ h.refl r d⟩⟩
theorem de_var {i : Nat} {x : Str} {pos : Pos} (h : PE X (.Name x pos) (tVar i)) : DE X E (.Name x pos) (tVar i) (dVar i) := ⟨h, se_var⟩
theorem se_c {K : PySem.W.Frag} {v : V} {d : D} (r : ∀ H μ, Rep K H μ v d) : SE K E (tC v) (dC d) := ⟨fun h x c q => q v d _ _ h.refl (r _ _) c⟩
theorem de_c {e : Expr} {v : V} {d : D} (h : PE X e (tC v)) (r : ∀ H μ, Rep X.K H μ v d) : DE X E e (tC v) (dC d) := ⟨h, se_c r⟩
theorem de_int {i j pos} : DE X E (.Constant (.int i) j pos) (tC (.int i)) (dC (.int i)) := ⟨pe_int, se_c fun _ _ => .int i⟩
theorem de_bl {b j pos} : DE X E (.Constant (.bool b) j pos) (tC (.bl b)) (dC (.bl b)) := ⟨pe_bl, se_c fun _ _ => .bl b⟩
theorem de_non {j pos} : DE X E (.Constant .none j pos) (tC .non) (dC .non) := ⟨pe_non, se_c fun _ _ => .non⟩
theorem de_str (l : List Nat) {x j pos} (e : x = ofL l) : DE X E (.Constant (.str x) j pos) (tC (.str x)) (dC (.str l)) := ⟨pe_str, se_c fun _ _ => by rw [e]; exact .str l⟩
theorem rep_str {K : PySem.W.Frag} {H : Hp} {μ : Mu} (l : List Nat) {x : Str} (e : x = ofL l) : Rep K H μ (.str x) (.str l) := by rw [e]; exact .str l
theorem rep_ref {K : PySem.W.Frag} {H : Hp} {μ : Mu} (a : Addr) : Rep K H μ (.ref a) (.ref a) := .ref a
theorem rep_ty {K : PySem.W.Frag} {H : Hp} {μ : Mu} (a : String) : Rep K H μ (.ty a) (.ty a) := .ty a
theorem rep_int {K : PySem.W.Frag} {H : Hp} {μ : Mu} (a : Int) : Rep K H μ (.int a) (.int a) := .int a
end
/-! ### operators -/
abbrev G2 := D → D → Mu → DK → Prop
def SR (K : PySem.W.Frag) (r : R2) (g : G2) : Prop := ∀ {x y dx dy H μ Q Q'}, Cells K H μ → Rep K H μ x dx → Rep K H μ y dy → g dx dy μ Q' → QR K H μ Q Q' → r x y H Q
structure DOp (X : Cx) (f : Value → Value → Sem Value) (r : R2) (g : G2) : Prop where
  op : OpR X f r
  sn : SR X.K r g
def dOp (g : G2) (a b : DTE) : DTE := fun E δ μ Q => a E δ μ fun x μ1 => b E δ μ1 fun y μ2 => g x y μ2 Q
def dB (a : DTE) : DTT := fun E δ μ Q => a E δ μ fun x μ1 => x.toB fun k => Q k μ1
section
variable {X : Cx} {E : XK} {a b c : Expr} {ta tb tc : TE} {da db dc : DTE} {pos : Pos}
theorem se_op {K : PySem.W.Frag} {r : R2} {g : G2} (o : SR K r g) (ha : SE K E ta da) (hb : SE K E tb db) : SE K E (tOp r ta tb) (dOp g da db) :=
  ⟨fun {σ H δ μ Q Q' E'} h x d q => ha.go h x d fun v y H1 μ1 t1 r1 d1 => hb.go (h.go t1) (x.go t1) d1 fun u z H2 μ2 t2 r2 d2 => o t2.cells (r1.grow t2.g) r2 d2 ((q.go t1).go t2)⟩
theorem de_op {op : Operator} {r : R2} {g : G2} (o : DOp X (binaryOp op) r g) (ha : DE X E a ta da) (hb : DE X E b tb db) : DE X E (.BinOp a op b pos) (tOp r ta tb) (dOp g da db) := ⟨pe_op o.op ha.pe hb.pe, se_op o.sn ha.sn hb.sn⟩
theorem de_cmp {op : CmpOp} {r : R2} {g : G2} (o : DOp X (compareOp op) r g) (ha : DE X E a ta da) (hb : DE X E b tb db) (hm : behindInMarks op b = false) : DE X E (.Compare a [op] [b] pos) (tOp r ta tb) (dOp g da db) := ⟨pe_cmpR o.op ha.pe hb.pe hm, se_op o.sn ha.sn hb.sn⟩
theorem st_test {K : PySem.W.Frag} (ha : SE K E ta da) : ST K E (tTest ta) (dB da) := ⟨fun {σ H δ μ Q Q' E'} h x d q => ha.go h x d fun v y H1 μ1 t1 r1 d1 => by
  obtain ⟨k, rfl, d2⟩ := toB_inv d1
  exact ⟨k, r1.bl_inv, q k H1 μ1 t1 d2⟩⟩
theorem dt_cmp {op : CmpOp} {r : R2} {g : G2} (o : DOp X (compareOp op) r g) (ha : DE X E a ta da) (hb : DE X E b tb db) (hm : behindInMarks op b = false) : DT X E (.Compare a [op] [b] pos) (tTest (tOp r ta tb)) (dB (dOp g da db)) := ⟨pt_cmpR o.op ha.pe hb.pe hm, st_test (se_op o.sn ha.sn hb.sn)⟩
theorem dt_val {e : Expr} (ha : DE X E e ta da) (he : ∀ whole, isTrue e X.env whole = (do let v ← whole; standAt e.pos; holding [v] (truthy v)) := by intro _; rfl) : DT X E e (tB ta) (dB da) := ⟨pt_val ha.pe he, st_test ha.sn⟩
def dChain (g g' : G2) (a b c : DTE) : DTE := fun E δ μ Q => a E δ μ fun x μ1 => b E δ μ1 fun y μ2 => g x y μ2 fun z μ3 => z.toB fun k => bif k then c E δ μ3 fun w μ4 => g' y w μ4 Q else Q (.bl false) μ3
theorem se_chain {K : PySem.W.Frag} {r r' : R2} {g g' : G2} (o : SR K r g) (o' : SR K r' g') (ha : SE K E ta da) (hb : SE K E tb db) (hc : SE K E tc dc) : SE K E (tChain r r' ta tb tc) (dChain g g' da db dc) :=
  ⟨fun {σ H δ μ Q Q' E'} h x d q => ha.go h x d fun v y H1 μ1 t1 r1 d1 => hb.go (h.go t1) (x.go t1) d1 fun u z H2 μ2 t2 r2 d2 => o t2.cells (r1.grow t2.g) r2 d2 fun w p H3 μ3 t3 r3 d3 => by
    obtain ⟨k, rfl, d4⟩ := toB_inv d3
    have t12 := t1.trans t2
    have t13 := t12.trans t3
    refine ⟨k, r3.bl_inv, ?_⟩
    cases k with
    | true =>
      rw [if_pos rfl]
      exact hc.go (h.go t13) (x.go t13) d4 fun u' z' H4 μ4 t4 r4 d5 => o' t4.cells ((r2.grow t3.g).grow t4.g) r4 d5 (q.go (t13.trans t4))
    | false =>
      rw [if_neg Bool.false_ne_true]
      exact q _ _ _ _ t13 (by cases r3.bl_inv; exact r3) d4⟩
theorem de_chain {op op' : CmpOp} {r r' : R2} {g g' : G2} (o : DOp X (compareOp op) r g) (o' : DOp X (compareOp op') r' g') (ha : DE X E a ta da) (hb : DE X E b tb db) (hc : DE X E c tc dc)
    (hm : lastMarks [op, op'] [b, c] = false := by with_unfolding_all rfl) : DE X E (.Compare a [op, op'] [b, c] pos) (tChain r r' ta tb tc) (dChain g g' da db dc) := ⟨pe_chain o.op o'.op ha.pe hb.pe hc.pe hm, se_chain o.sn o'.sn ha.sn hb.sn hc.sn⟩
theorem dt_chain {op op' : CmpOp} {r r' : R2} {g g' : G2} (o : DOp X (compareOp op) r g) (o' : DOp X (compareOp op') r' g') (ha : DE X E a ta da) (hb : DE X E b tb db) (hc : DE X E c tc dc)
    (hm : lastMarks [op, op'] [b, c] = false := by with_unfolding_all rfl) : DT X E (.Compare a [op, op'] [b, c] pos) (tTest (tChain r r' ta tb tc)) (dB (dChain g g' da db dc)) := ⟨pt_chain o.op o'.op ha.pe hb.pe hc.pe hm, st_test (se_chain o.sn o'.sn ha.sn hb.sn hc.sn)⟩
end
/-! ints -/
def gI (C : Int → Int → Prop) (g : Int → Int → D) : G2 := fun x y μ Q => x.toI fun i => y.toI fun j => C i j ∧ Q (g i j) μ
def gI0 (g : Int → Int → D) : G2 := fun x y μ Q => x.toI fun i => y.toI fun j => Q (g i j) μ
theorem sr_i0 {K : PySem.W.Frag} {g : Int → Int → V} {g' : Int → Int → D} (h : ∀ i j H μ, Rep K H μ (g i j) (g' i j)) : SR K (rI0 g) (gI0 g') := fun {x y dx dy H μ Q Q'} c r1 r2 d q => by
  obtain ⟨i, rfl, d⟩ := toI_inv d
  obtain ⟨j, rfl, d⟩ := toI_inv (d := dy) d
  exact ⟨i, j, r1.int_inv, r2.int_inv, q _ _ _ _ (.refl c) (h _ _ _ _) d⟩
theorem sr_i {K : PySem.W.Frag} {C : Int → Int → Prop} {g : Int → Int → V} {g' : Int → Int → D} (h : ∀ i j H μ, Rep K H μ (g i j) (g' i j)) : SR K (rI C g) (gI C g') := fun {x y dx dy H μ Q Q'} c r1 r2 d q => by
  obtain ⟨i, rfl, d⟩ := toI_inv d
  obtain ⟨j, rfl, hc, d⟩ := toI_inv (d := dy) d
  exact ⟨i, j, r1.int_inv, r2.int_inv, hc, q _ _ _ _ (.refl c) (h _ _ _ _) d⟩
section
variable {X : Cx}
theorem o_add : DOp X (binaryOp .Add) (rI0 fun i j => .int (i + j)) (gI0 fun i j => .int (i + j)) := ⟨op_add, sr_i0 fun _ _ _ _ => .int _⟩
theorem o_sub : DOp X (binaryOp .Sub) (rI0 fun i j => .int (i - j)) (gI0 fun i j => .int (i - j)) := ⟨op_sub, sr_i0 fun _ _ _ _ => .int _⟩
theorem o_mul : DOp X (binaryOp .Mult) (rI CMul fun i j => .int (i * j)) (gI CMul fun i j => .int (i * j)) := ⟨op_mul, sr_i fun _ _ _ _ => .int _⟩
theorem o_fdivN : DOp X (binaryOp .FloorDiv) (rI CDivN fun i j => .int (i.fdiv j)) (gI CDivN fun i j => .int (i.fdiv j)) := ⟨op_fdivN, sr_i fun _ _ _ _ => .int _⟩
theorem o_fdivW : DOp X (binaryOp .FloorDiv) (rI CDivW fun i j => .int (i / j)) (gI CDivW fun i j => .int (i / j)) := ⟨op_fdivW, sr_i fun _ _ _ _ => .int _⟩
theorem o_modN : DOp X (binaryOp .Mod) (rI (fun _ j => j ≠ 0) fun i j => .int (i.fmod j)) (gI (fun _ j => j ≠ 0) fun i j => .int (i.fmod j)) := ⟨op_modN, sr_i fun _ _ _ _ => .int _⟩
theorem o_pow : DOp X (binaryOp .Pow) (rI CPow fun i j => .int (i ^ j.toNat)) (gI CPow fun i j => .int (i ^ j.toNat)) := ⟨op_pow, sr_i fun _ _ _ _ => .int _⟩
theorem o_lt : DOp X (compareOp .Lt) (rI0 fun i j => .bl (decide (i < j))) (gI0 fun i j => .bl (decide (i < j))) := ⟨op_lt, sr_i0 fun _ _ _ _ => .bl _⟩
theorem o_le : DOp X (compareOp .LtE) (rI0 fun i j => .bl (decide (i ≤ j))) (gI0 fun i j => .bl (decide (i ≤ j))) := ⟨op_le, sr_i0 fun _ _ _ _ => .bl _⟩
theorem o_gt : DOp X (compareOp .Gt) (rI0 fun i j => .bl (decide (j < i))) (gI0 fun i j => .bl (decide (j < i))) := ⟨op_gt, sr_i0 fun _ _ _ _ => .bl _⟩
theorem o_ge : DOp X (compareOp .GtE) (rI0 fun i j => .bl (decide (j ≤ i))) (gI0 fun i j => .bl (decide (j ≤ i))) := ⟨op_ge, sr_i0 fun _ _ _ _ => .bl _⟩
end
/-! texts -/
theorem ofL_len (l : List Nat) : (ofL l).length = l.length := by simp [ofL, Str.length]
theorem ofL_app (l m : List Nat) : ofL l ++ ofL m = ofL (l ++ m) := Str.ext' (by rw [Str.cps_append]; simp)
theorem ofL_inj {l m : List Nat} (h : ofL l = ofL m) : l = m := by
  have := congrArg (fun s => s.cps.toList) h
  simpa using this
theorem V_str {l m : List Nat} : decide (V.str (ofL l) = V.str (ofL m)) = decide (l = m) := by
  rw [decide_eq_decide]
  exact ⟨fun h => ofL_inj (V.str.inj h), fun h => by rw [h]⟩
def gS (C : List Nat → List Nat → Prop) (g : List Nat → List Nat → D) : G2 := fun x y μ Q => x.toS fun l => y.toS fun m => C l m ∧ Q (g l m) μ
section
variable {X : Cx}
theorem o_addS : DOp X (binaryOp .Add) (fun x y H Q => ∃ i j, x = .str i ∧ y = .str j ∧ i.length + j.length ≤ sizeLine ∧ Q (.str (i ++ j)) H) (gS (fun l m => l.length + m.length ≤ 16777216) fun l m => .str (l ++ m)) :=
  ⟨op_add_str, fun {x y dx dy H μ Q Q'} c r1 r2 d q => by
    obtain ⟨l, rfl, d⟩ := toS_inv d
    obtain ⟨m, rfl, hc, d⟩ := toS_inv (d := dy) d
    refine ⟨_, _, r1.str_inv, r2.str_inv, by rw [ofL_len, ofL_len, sizeLine_eq]; exact hc, ?_⟩
    rw [ofL_app]
    exact q _ _ _ _ (.refl c) (.str _) d⟩
theorem o_ltS : DOp X (compareOp .Lt) (fun x y H Q => ∃ i j, x = .str i ∧ y = .str j ∧ Q (.bl (decide (i.cps.toList < j.cps.toList))) H) (gS (fun _ _ => True) fun l m => .bl (decide (l < m))) :=
  ⟨op_lt_str, fun {x y dx dy H μ Q Q'} c r1 r2 d q => by
    obtain ⟨l, rfl, d⟩ := toS_inv d
    obtain ⟨m, rfl, hc, d⟩ := toS_inv (d := dy) d
    exact ⟨_, _, r1.str_inv, r2.str_inv, q _ _ _ _ (.refl c) (.bl _) d⟩⟩
/-- one sign in a text -/
def gIn (neg : Bool) : G2 := fun x y μ Q => x.toS fun l => y.toS fun m => match l with | [c] => Q (.bl (if neg then !decide (c ∈ m) else decide (c ∈ m))) μ | _ => False
theorem o_inS : DOp X (compareOp .In) (fun x y H Q => ∃ (c : Nat) (z : Str), x = .str ⟨#[c]⟩ ∧ y = .str z ∧ Q (.bl (decide (c ∈ z.cps.toList))) H) (gIn false) :=
  ⟨op_in_sign, fun {x y dx dy H μ Q Q'} c r1 r2 d q => by
    obtain ⟨l, rfl, d⟩ := toS_inv d
    obtain ⟨m, rfl, d⟩ := toS_inv (d := dy) d
    match l, d with
    | [k], d => exact ⟨k, _, r1.str_inv, r2.str_inv, q _ _ _ _ (.refl c) (.bl _) d⟩⟩
theorem o_ninS : DOp X (compareOp .NotIn) (fun x y H Q => ∃ (c : Nat) (z : Str), x = .str ⟨#[c]⟩ ∧ y = .str z ∧ Q (.bl (!decide (c ∈ z.cps.toList))) H) (gIn true) :=
  ⟨op_notIn_sign, fun {x y dx dy H μ Q Q'} c r1 r2 d q => by
    obtain ⟨l, rfl, d⟩ := toS_inv d
    obtain ⟨m, rfl, d⟩ := toS_inv (d := dy) d
    match l, d with
    | [k], d => exact ⟨k, _, r1.str_inv, r2.str_inv, q _ _ _ _ (.refl c) (.bl _) d⟩⟩
/-! flat == -/
def eqF : D → D → Option Bool
  | .non, .non => some true | .non, .int _ => some false | .int _, .non => some false | .non, .bl _ => some false | .bl _, .non => some false | .non, .str _ => some false | .str _, .non => some false
  | .int i, .int j => some (decide (i = j)) | .bl i, .bl j => some (decide (i = j)) | .str i, .str j => some (decide (i = j))
  | .int _, .str _ => some false | .str _, .int _ => some false | .bl _, .str _ => some false | .str _, .bl _ => some false
  | _, _ => none
def gEq (neg : Bool) : G2 := fun x y μ Q => match eqF x y with | some b => Q (.bl (if neg then !b else b)) μ | none => False
theorem eqF_ok {K : PySem.W.Frag} {H : Hp} {μ : Mu} {x y : V} {dx dy : D} {b : Bool} (r1 : Rep K H μ x dx) (r2 : Rep K H μ y dy) (h : eqF dx dy = some b) : scal x y = true ∧ decide (x = y) = b := by
  unfold eqF at h
  split at h <;> first
    | (cases r1.non_inv; cases r2.non_inv; cases h; exact ⟨rfl, rfl⟩)
    | (cases r1.non_inv; cases r2.int_inv; cases h; exact ⟨rfl, rfl⟩)
    | (cases r1.int_inv; cases r2.non_inv; cases h; exact ⟨rfl, rfl⟩)
    | (cases r1.non_inv; cases r2.bl_inv; cases h; exact ⟨rfl, rfl⟩)
    | (cases r1.bl_inv; cases r2.non_inv; cases h; exact ⟨rfl, rfl⟩)
    | (cases r1.non_inv; cases r2.str_inv; cases h; exact ⟨rfl, rfl⟩)
    | (cases r1.str_inv; cases r2.non_inv; cases h; exact ⟨rfl, rfl⟩)
    | (cases r1.int_inv; cases r2.int_inv; cases h; exact ⟨rfl, by simp⟩)
    | (cases r1.bl_inv; cases r2.bl_inv; cases h; exact ⟨rfl, by simp⟩)
    | (cases r1.str_inv; cases r2.str_inv; cases h; exact ⟨rfl, V_str⟩)
    | (cases r1.int_inv; cases r2.str_inv; cases h; exact ⟨rfl, rfl⟩)
    | (cases r1.str_inv; cases r2.int_inv; cases h; exact ⟨rfl, rfl⟩)
    | (cases r1.bl_inv; cases r2.str_inv; cases h; exact ⟨rfl, rfl⟩)
    | (cases r1.str_inv; cases r2.bl_inv; cases h; exact ⟨rfl, rfl⟩)
    | cases h
theorem o_eq : DOp X (compareOp .Eq) rEq (gEq false) := ⟨op_eq, fun {x y dx dy H μ Q Q'} c r1 r2 d q => by
  cases e : eqF dx dy with
  | none => rw [gEq, e] at d; exact d.elim
  | some b =>
    rw [gEq, e] at d
    obtain ⟨h1, h2⟩ := eqF_ok r1 r2 e
    exact ⟨h1, q _ _ _ _ (.refl c) (by rw [h2]; exact .bl b) d⟩⟩
theorem o_ne : DOp X (compareOp .NotEq) rNe (gEq true) := ⟨op_ne, fun {x y dx dy H μ Q Q'} c r1 r2 d q => by
  cases e : eqF dx dy with
  | none => rw [gEq, e] at d; exact d.elim
  | some b =>
    rw [gEq, e] at d
    obtain ⟨h1, h2⟩ := eqF_ok r1 r2 e
    exact ⟨h1, q _ _ _ _ (.refl c) (by rw [h2]; exact .bl _) d⟩⟩
/-! is None, is True -/
def isN : D → Bool
  | .non => true
  | _ => false
theorem isN_ok {K : PySem.W.Frag} {H : Hp} {μ : Mu} {x : V} {dx : D} (r : Rep K H μ x dx) : decide (x = .non) = isN dx := by
  cases r with
  | obj m nt c => cases c <;> rfl
  | ktup => rfl
  | _ => rfl
def gIsN (neg : Bool) : G2 := fun x y μ Q => match y with | .non => Q (.bl (if neg then !isN x else isN x)) μ | _ => False
theorem o_isN : DOp X (compareOp .Is) (fun x y H Q => y = .non ∧ Q (.bl (decide (x = .non))) H) (gIsN false) := ⟨op_isN, fun {x y dx dy H μ Q Q'} c r1 r2 d q => by
  cases dy with
  | non => exact ⟨r2.non_inv, q _ _ _ _ (.refl c) (by rw [isN_ok r1]; exact .bl _) d⟩
  | _ => exact d.elim⟩
theorem o_notN : DOp X (compareOp .IsNot) (fun x y H Q => y = .non ∧ Q (.bl (!decide (x = .non))) H) (gIsN true) := ⟨op_notN, fun {x y dx dy H μ Q Q'} c r1 r2 d q => by
  cases dy with
  | non => exact ⟨r2.non_inv, q _ _ _ _ (.refl c) (by rw [isN_ok r1]; exact .bl _) d⟩
  | _ => exact d.elim⟩
def gBB (neg : Bool) : G2 := fun x y μ Q => x.toB fun i => y.toB fun j => Q (.bl (if neg then !decide (i = j) else decide (i = j))) μ
theorem o_isBl : DOp X (compareOp .Is) rIsB (gBB false) := ⟨op_isBl, fun {x y dx dy H μ Q Q'} c r1 r2 d q => by
  obtain ⟨i, rfl, d⟩ := toB_inv d
  obtain ⟨j, rfl, d⟩ := toB_inv (d := dy) d
  exact ⟨i, j, r1.bl_inv, r2.bl_inv, q _ _ _ _ (.refl c) (.bl _) d⟩⟩
theorem o_notBl : DOp X (compareOp .IsNot) rNotB (gBB true) := ⟨op_notBl, fun {x y dx dy H μ Q Q'} c r1 r2 d q => by
  obtain ⟨i, rfl, d⟩ := toB_inv d
  obtain ⟨j, rfl, d⟩ := toB_inv (d := dy) d
  exact ⟨i, j, r1.bl_inv, r2.bl_inv, q _ _ _ _ (.refl c) (.bl _) d⟩⟩
end
/-! lists: + and * -/
def gCat : G2 := fun x y μ Q => (rd μ x).toL fun l => (rd μ y).toL fun m => l.length + m.length ≤ 16777216 ∧ Q (.lst (l ++ m)) μ
def gRep : G2 := fun x y μ Q => (rd μ x).toL fun l => y.toI fun k => k < 2 ^ 62 ∧ -(2 ^ 62) < k ∧ l.length * k.toNat ≤ 16777216 ∧ Q (.lst (List.replicate k.toNat l).flatten) μ
theorem Reps.rep {K : PySem.W.Frag} {H : Hp} {μ : Mu} {vs : List V} {xs : List D} (r : Reps K H μ vs xs) : ∀ n, Reps K H μ (List.replicate n vs).flatten (List.replicate n xs).flatten
  | 0 => .nil
  | n + 1 => by rw [List.replicate_succ, List.replicate_succ, List.flatten_cons, List.flatten_cons]; exact r.append (Reps.rep r n)
section
variable {X : Cx}
theorem o_cat : DOp X (binaryOp .Add) rCat gCat := ⟨op_cat, fun {x y dx dy H μ Q Q'} c r1 r2 d q => by
  obtain ⟨l, e1, d⟩ := toL_inv d
  obtain ⟨m, e2, hl, d⟩ := toL_inv d
  obtain ⟨a, vs, rfl, ha, ra⟩ := rd_lst c r1 e1
  obtain ⟨b, ws, rfl, hb, rb⟩ := rd_lst c r2 e2
  refine ⟨a, b, vs, ws, rfl, rfl, ha, hb, by rw [ra.length, rb.length, sizeLine_eq]; exact hl, fun p hp => ?_⟩
  exact q _ _ _ _ (.new c hp) (rep_lst c hp (ra.append rb)) d⟩
theorem o_rep : DOp X (binaryOp .Mult) rRep gRep := ⟨op_rep, fun {x y dx dy H μ Q Q'} c r1 r2 d q => by
  obtain ⟨l, e1, d⟩ := toL_inv d
  obtain ⟨k, rfl, h1, h2, h3, d⟩ := toI_inv d
  obtain ⟨a, vs, rfl, ha, ra⟩ := rd_lst c r1 e1
  refine ⟨a, k, vs, rfl, r2.int_inv, ha, by omega, by omega, by rw [ra.length, sizeLine_eq]; exact h3, fun p hp => ?_⟩
  exact q _ _ _ _ (.new c hp) (rep_lst c hp (ra.rep _)) d⟩
end
end Dl

set_option Elab.async false
set_option linter.all false
set_option maxRecDepth 100000
namespace Dl
open PySem PySem.Spec PyProof.Rows L2
/-! ### and, or, not, if, truth -/
def dAnd (a b : DTT) : DTT := fun E δ μ Q => a E δ μ fun c μ1 => bif c then b E δ μ1 Q else Q false μ1
def dOr (a b : DTT) : DTT := fun E δ μ Q => a E δ μ fun c μ1 => bif c then Q true μ1 else b E δ μ1 Q
def dNot (a : DTT) : DTT := fun E δ μ Q => a E δ μ fun c μ1 => Q (!c) μ1
def dAndV (a b : DTE) : DTE := fun E δ μ Q => a E δ μ fun x μ1 => x.toB fun c => bif c then b E δ μ1 Q else Q (.bl false) μ1
def dOrV (a b : DTE) : DTE := fun E δ μ Q => a E δ μ fun x μ1 => x.toB fun c => bif c then Q (.bl true) μ1 else b E δ μ1 Q
def dNotV (a : DTE) : DTE := fun E δ μ Q => a E δ μ fun x μ1 => x.toB fun c => Q (.bl (!c)) μ1
def dIfE (c : DTT) (a b : DTE) : DTE := fun E δ μ Q => c E δ μ fun k μ1 => bif k then a E δ μ1 Q else b E δ μ1 Q
def tru (d : D) (k : Bool → Prop) : Prop := match d with
  | .non => k false
  | .bl b => k b
  | .int i => k (i != 0)
  | .str l => l.length ≤ 16777216 ∧ k (!l.isEmpty)
  | .lst xs => k (!xs.isEmpty)
  | .tup xs => k (!xs.isEmpty)
  | _ => False
def dTru (a : DTE) : DTT := fun E δ μ Q => a E δ μ fun x μ1 => tru (rd μ1 x) fun k => Q k μ1
section
variable {X : Cx} {E : XK} {a b c e : Expr} {ta tb tc : TE} {da db dc : DTE} {tt tu : TT} {dt du : DTT} {pos : Pos} {rest : List Expr}
theorem dw_and1 (h : DT X E a tt dt) : DW X E (.BoolOp .And [a] pos) tt dt := ⟨pw_and1 h.pe, h.sn⟩
theorem dw_or1 (h : DT X E a tt dt) : DW X E (.BoolOp .Or [a] pos) tt dt := ⟨pw_or1 h.pe, h.sn⟩
theorem st_and {K : PySem.W.Frag} (h : ST K E tt dt) (g : ST K E tu du) : ST K E (tAnd tt tu) (dAnd dt du) := ⟨fun {σ H δ μ Q Q' E'} hh x d q => h.go hh x d fun k H1 μ1 t1 d1 => by
  cases k with
  | true => rw [if_pos rfl]; exact g.go (hh.go t1) (x.go t1) d1 (q.go t1)
  | false => rw [if_neg Bool.false_ne_true]; exact q _ _ _ t1 d1⟩
theorem st_or {K : PySem.W.Frag} (h : ST K E tt dt) (g : ST K E tu du) : ST K E (tOr tt tu) (dOr dt du) := ⟨fun {σ H δ μ Q Q' E'} hh x d q => h.go hh x d fun k H1 μ1 t1 d1 => by
  cases k with
  | true => rw [if_pos rfl]; exact q _ _ _ t1 d1
  | false => rw [if_neg Bool.false_ne_true]; exact g.go (hh.go t1) (x.go t1) d1 (q.go t1)⟩
theorem dw_and (h : DT X E a tt dt) (g : DW X E (.BoolOp .And (b :: rest) pos) tu du) : DW X E (.BoolOp .And (a :: b :: rest) pos) (tAnd tt tu) (dAnd dt du) := ⟨pw_and h.pe g.pe, st_and h.sn g.sn⟩
theorem dw_or (h : DT X E a tt dt) (g : DW X E (.BoolOp .Or (b :: rest) pos) tu du) : DW X E (.BoolOp .Or (a :: b :: rest) pos) (tOr tt tu) (dOr dt du) := ⟨pw_or h.pe g.pe, st_or h.sn g.sn⟩
theorem dw_dt (h : DW X E e tt dt) : DT X E e tt dt := ⟨h.pe.pt, h.sn⟩
theorem dt_not (h : DT X E a tt dt) : DT X E (.UnaryOp .Not a pos) (tNot tt) (dNot dt) := ⟨pt_not h.pe, ⟨fun {σ H δ μ Q Q' E'} hh x d q => h.sn.go hh x d fun k H1 μ1 t1 d1 => q _ _ _ t1 d1⟩⟩
theorem de_one {op} (h : DE X E a ta da) : DE X E (.BoolOp op [a] pos) ta da := ⟨pe_one h.pe, h.sn⟩
theorem de_and (h : DE X E a ta da) (g : DE X E (.BoolOp .And (b :: rest) pos) tb db) : DE X E (.BoolOp .And (a :: b :: rest) pos) (tAndV ta tb) (dAndV da db) :=
  ⟨pe_and h.pe g.pe, ⟨fun {σ H δ μ Q Q' E'} hh x d q => h.sn.go hh x d fun v y H1 μ1 t1 r1 d1 => by
    obtain ⟨k, rfl, d2⟩ := toB_inv d1
    refine ⟨k, r1.bl_inv, ?_⟩
    cases k with
    | true => rw [if_pos rfl]; exact g.sn.go (hh.go t1) (x.go t1) d2 (q.go t1)
    | false => rw [if_neg Bool.false_ne_true]; exact q _ _ _ _ t1 (.bl false) d2⟩⟩
theorem de_or (h : DE X E a ta da) (g : DE X E (.BoolOp .Or (b :: rest) pos) tb db) : DE X E (.BoolOp .Or (a :: b :: rest) pos) (tOrV ta tb) (dOrV da db) :=
  ⟨pe_or h.pe g.pe, ⟨fun {σ H δ μ Q Q' E'} hh x d q => h.sn.go hh x d fun v y H1 μ1 t1 r1 d1 => by
    obtain ⟨k, rfl, d2⟩ := toB_inv d1
    refine ⟨k, r1.bl_inv, ?_⟩
    cases k with
    | true => rw [if_pos rfl]; exact q _ _ _ _ t1 (.bl true) d2
    | false => rw [if_neg Bool.false_ne_true]; exact g.sn.go (hh.go t1) (x.go t1) d2 (q.go t1)⟩⟩
theorem de_not (h : DE X E a ta da) : DE X E (.UnaryOp .Not a pos) (tNotV ta) (dNotV da) :=
  ⟨pe_not h.pe, ⟨fun {σ H δ μ Q Q' E'} hh x d q => h.sn.go hh x d fun v y H1 μ1 t1 r1 d1 => by
    obtain ⟨k, rfl, d2⟩ := toB_inv d1
    exact ⟨k, r1.bl_inv, q _ _ _ _ t1 (.bl _) d2⟩⟩⟩
theorem de_ifE (hc : DT X E c tt dt) (h : DE X E a ta da) (g : DE X E b tb db) : DE X E (.IfExp c a b pos) (tIf tt ta tb) (dIfE dt da db) :=
  ⟨pe_ifExp hc.pe h.pe g.pe, ⟨fun {σ H δ μ Q Q' E'} hh x d q => hc.sn.go hh x d fun k H1 μ1 t1 d1 => by
    cases k with
    | true => rw [if_pos rfl]; exact h.sn.go (hh.go t1) (x.go t1) d1 (q.go t1)
    | false => rw [if_neg Bool.false_ne_true]; exact g.sn.go (hh.go t1) (x.go t1) d1 (q.go t1)⟩⟩
theorem Reps.isEmpty {K : PySem.W.Frag} {H : Hp} {μ : Mu} {vs : List V} {xs : List D} (r : Reps K H μ vs xs) : vs.isEmpty = xs.isEmpty := by
  cases r <;> rfl
theorem tru_ok {K : PySem.W.Frag} {H : Hp} {μ : Mu} {v : V} {d : D} {k : Bool → Prop} (c : Cells K H μ) (r : Rep K H μ v d) (h : tru (rd μ d) k) : ∃ b, TruV K v H b ∧ k b := by
  cases e : rd μ d with
  | non =>
    rw [e] at h
    rcases rd_inv c r with q | ⟨_, _, _, _, q⟩
    · rw [e] at q; subst q; cases r.non_inv; exact ⟨false, rfl, h⟩
    · rw [e] at q; cases q
  | bl b =>
    rw [e] at h
    rcases rd_inv c r with q | ⟨_, _, _, _, q⟩
    · rw [e] at q; subst q; cases r.bl_inv; exact ⟨b, rfl, h⟩
    · rw [e] at q; cases q
  | int i =>
    rw [e] at h
    rcases rd_inv c r with q | ⟨_, _, _, _, q⟩
    · rw [e] at q; subst q; cases r.int_inv; exact ⟨_, rfl, h⟩
    · rw [e] at q; cases q
  | str l =>
    rw [e] at h
    rcases rd_inv c r with q | ⟨_, _, _, _, q⟩
    · rw [e] at q; subst q; cases r.str_inv
      refine ⟨!l.isEmpty, ⟨by rw [ofL_len, sizeLine_eq]; exact h.1, ?_⟩, h.2⟩
      rw [ofL_len]
      cases l with
      | nil => rfl
      | cons a l =>
        show true = _
        rw [List.length_cons]
        symm
        rw [bne_iff_ne]
        omega
    · rw [e] at q; cases q
  | lst xs =>
    rw [e] at h
    obtain ⟨a, vs, rfl, ha, ra⟩ := rd_lst c r e
    exact ⟨_, .inl ⟨vs, SqL.of ha, rfl⟩, by rw [ra.isEmpty]; exact h⟩
  | tup xs =>
    rw [e] at h
    rcases rd_inv c r with q | ⟨a, rfl, _, _, q⟩
    · rw [e] at q; subst q
      obtain ⟨a, vs, rfl, ha, ra⟩ := r.tup_inv
      exact ⟨_, .inr (.inl ⟨vs, ha, rfl⟩), by rw [ra.isEmpty]; exact h⟩
    · rw [e] at q
      cases q with | tup g ra => exact ⟨_, .inr (.inl ⟨_, .inl g, rfl⟩), by rw [ra.isEmpty]; exact h⟩
  | _ => rw [e] at h; exact h.elim
theorem dt_truth {K : PySem.W.Frag} (h : DE X E a ta da) (he : ∀ whole, isTrue a X.env whole = (do let v ← whole; standAt a.pos; holding [v] (truthy v))) (hK : X.K = K := by rfl) :
    DT X E a (fun σ H Q => ta σ H fun x H' => ∃ k, TruV K x H' k ∧ Q k H') (dTru da) := by
 subst hK
 exact ⟨pt_truth h.pe he, ⟨fun {σ H δ μ Q Q' E'} hh x d q => h.sn.go hh x d fun v y H1 μ1 t1 r1 d1 => by
    obtain ⟨k, h1, h2⟩ := tru_ok t1.cells r1 d1
    exact ⟨k, h1, q _ _ _ t1 h2⟩⟩⟩
end
/-! ### arguments, displays -/
def dNil : DTA := fun _ _ μ Q => Q [] μ
def dCons (a : DTE) (b : DTA) : DTA := fun E δ μ Q => a E δ μ fun x μ1 => b E δ μ1 fun xs μ2 => Q (x :: xs) μ2
def dTup (a : DTA) : DTE := fun E δ μ Q => a E δ μ fun xs μ1 => xs.length ≤ 16777216 ∧ Q (.tup xs) μ1
def dLst (a : DTA) : DTE := fun E δ μ Q => a E δ μ fun xs μ1 => xs.length ≤ 16777216 ∧ Q (.lst xs) μ1
def dLstC (a : DTA) : DTE := fun E δ μ Q => a E δ μ fun xs μ1 => xs.length ≤ 16777216 ∧ ∀ p, μ1 p = none → Q (.ref p) (mup μ1 p (.lst xs))
section
variable {X : Cx} {E : XK} {e : Expr} {es : List Expr} {te : TE} {t : TA} {de : DTE} {d : DTA} {pos : Pos}
theorem da_nil : DA X E [] tNil dNil := ⟨pa_nil, ⟨fun {σ H δ μ Q Q' E'} hh x d q => q _ _ _ _ hh.refl .nil d⟩⟩
theorem sa_cons {K : PySem.W.Frag} (ha : SE K E te de) (hr : SA K E t d) : SA K E (tCons te t) (dCons de d) :=
  ⟨fun {σ H δ μ Q Q' E'} hh x d q => ha.go hh x d fun v y H1 μ1 t1 r1 d1 => hr.go (hh.go t1) (x.go t1) d1 fun vs ys H2 μ2 t2 r2 d2 => q _ _ _ _ (t1.trans t2) (.cons (r1.grow t2.g) r2) d2⟩
theorem da_cons (ha : DE X E e te de) (hr : DA X E es t d) (hs : starEach (e :: es) X.env = (false, eval e X.env) :: starEach es X.env := by rfl) : DA X E (e :: es) (tCons te t) (dCons de d) := ⟨pa_cons ha.pe hr.pe hs, sa_cons ha.sn hr.sn⟩
theorem de_tup {x1} (h : DA X E es t d) : DE X E (.Tuple es x1 pos) (tTup t) (dTup d) :=
  ⟨pe_tup h.pe, ⟨fun {σ H δ μ Q Q' E'} hh x d q => h.sn.go hh x d fun vs xs H1 μ1 t1 r1 d1 => ⟨by rw [r1.length, sizeLine_eq]; exact d1.1, fun p hp => q _ _ _ _ (t1.trans (.new t1.cells hp)) (rep_tup t1.cells hp r1) d1.2⟩⟩⟩
theorem de_lst (h : DA X E es t d) : DE X E (.List es pos) (tLst t) (dLst d) :=
  ⟨pe_lst h.pe, ⟨fun {σ H δ μ Q Q' E'} hh x d q => h.sn.go hh x d fun vs xs H1 μ1 t1 r1 d1 => ⟨by rw [r1.length, sizeLine_eq]; exact d1.1, fun p hp => q _ _ _ _ (t1.trans (.new t1.cells hp)) (rep_lst t1.cells hp r1) d1.2⟩⟩⟩
theorem de_lstC (h : DA X E es t d) : DE X E (.List es pos) (tLst t) (dLstC d) :=
  ⟨pe_lst h.pe, ⟨fun {σ H δ μ Q Q' E'} hh x d q => h.sn.go hh x d fun vs xs H1 μ1 t1 r1 d1 => ⟨by rw [r1.length, sizeLine_eq]; exact d1.1, fun p hp =>
    q _ _ _ _ (t1.trans (.cell t1.cells hp (con_lst hp r1))) (.ref p) (d1.2 p (mu_none t1.cells hp))⟩⟩⟩
/-- what comes is a cell: it is shut -/
def dFz (a : DTE) : DTE := fun E δ μ Q => a E δ μ fun x μ1 => match x with | .ref p => (match μ1 p with | some y => Q y (era μ1 p) | none => False) | _ => False
theorem de_fz (h : DE X E e te de) : DE X E e te (dFz de) :=
  ⟨h.pe, ⟨fun {σ H δ μ Q Q' E'} hh x d q => h.sn.go hh x d fun v y H1 μ1 t1 r1 d1 => by
    cases y with
    | ref p =>
      cases em : μ1 p with
      | none => simp only [em] at d1
      | some z =>
        simp only [em] at d1
        rw [r1.ref_inv]
        exact q _ _ _ _ (t1.trans (.freeze t1.cells)) (rep_freeze t1.cells em) d1
    | _ => exact d1.elim⟩⟩
end
/-! ### subscripts -/
theorem Reps.atI {K : PySem.W.Frag} {H : Hp} {μ : Mu} {vs : List V} {xs : List D} {i : Int} {x : D} (r : Reps K H μ vs xs) (h : L2.atI xs i = some x) : ∃ v, L2.atI vs i = some v ∧ Rep K H μ v x := by
  unfold L2.atI at h ⊢
  rw [r.length]
  cases e : ixN xs.length i with
  | none => rw [e] at h; cases h
  | some j => rw [e] at h; exact r.get h
def gIxL : G2 := fun x y μ Q => (rd μ x).toL fun xs => y.toI fun i => match L2.atI xs i with | some d => Q d μ | none => False
def gIxT : G2 := fun x y μ Q => (rd μ x).toT fun xs => y.toI fun i => match L2.atI xs i with | some d => Q d μ | none => False
def gIxS : G2 := fun x y μ Q => x.toS fun l => y.toI fun i => l.length ≤ 16777216 ∧ match L2.atI l i with | some c => Q (.str [c]) μ | none => False
structure DIx (X : Cx) (r : R2) (g : G2) : Prop where
  op : IxR X r
  sn : SR X.K r g
/-- a slice of a list of things of any kind -/
def cutL {α : Type} (xs : List α) (lo hi : Option Int) : List α := (xs.drop (HT.sIx xs.length 0 lo)).take (HT.sIx xs.length xs.length hi - HT.sIx xs.length 0 lo)
theorem Reps.cut {K : PySem.W.Frag} {H : Hp} {μ : Mu} {vs : List V} {xs : List D} {lo hi : Option Int} (r : Reps K H μ vs xs) : Reps K H μ (cutV vs lo hi) (cutL xs lo hi) := by
  unfold cutV cutL
  rw [r.length]
  exact (r.drop _).take _
section
variable {X : Cx} {E : XK} {a b : Expr} {ta tb : TE} {da db : DTE} {pos : Pos}
theorem x_list {K : PySem.W.Frag} (hK : X.K = K := by rfl) : DIx X (rIxL K) gIxL := by
 subst hK
 exact ⟨ix_list, fun {x y dx dy H μ Q Q'} c r1 r2 d q => by
  obtain ⟨xs, e1, d⟩ := toL_inv d
  obtain ⟨i, rfl, d⟩ := toI_inv (d := dy) d
  obtain ⟨p, vs, rfl, hp, rp⟩ := rd_lst c r1 e1
  replace d : (match L2.atI xs i with | some d => Q' d μ | none => False) := d
  cases e : L2.atI xs i with
  | none => rw [e] at d; exact d.elim
  | some z =>
    rw [e] at d
    obtain ⟨v, h1, h2⟩ := rp.atI e
    exact ⟨p, vs, i, v, rfl, r2.int_inv, SqL.of hp, h1, q _ _ _ _ (.refl c) h2 d⟩⟩
theorem rd_tup {K : PySem.W.Frag} {H : Hp} {μ : Mu} {v : V} {d : D} {xs : List D} (c : Cells K H μ) (r : Rep K H μ v d) (e : rd μ d = .tup xs) : ∃ a vs, v = .ref a ∧ SqT K H a vs ∧ Reps K H μ vs xs := by
  rcases rd_inv c r with h | ⟨a, hv, hd, hm, hc⟩
  · rw [h] at e; subst e
    exact r.tup_inv
  · rw [e] at hc
    cases hc with | tup h r => exact ⟨a, _, hv, .inl h, r⟩
theorem x_tup {K : PySem.W.Frag} (hK : X.K = K := by rfl) : DIx X (rIxT K) gIxT := by
 subst hK
 exact ⟨ix_tup, fun {x y dx dy H μ Q Q'} c r1 r2 d q => by
  obtain ⟨xs, e1, d⟩ := toT_inv d
  obtain ⟨i, rfl, d⟩ := toI_inv (d := dy) d
  obtain ⟨p, vs, rfl, hp, rp⟩ := rd_tup c r1 e1
  replace d : (match L2.atI xs i with | some d => Q' d μ | none => False) := d
  cases e : L2.atI xs i with
  | none => rw [e] at d; exact d.elim
  | some z =>
    rw [e] at d
    obtain ⟨v, h1, h2⟩ := rp.atI e
    exact ⟨p, vs, i, v, rfl, r2.int_inv, hp, h1, q _ _ _ _ (.refl c) h2 d⟩⟩
theorem x_str : DIx X rIxS gIxS := ⟨ix_str, fun {x y dx dy H μ Q Q'} c r1 r2 d q => by
  obtain ⟨l, rfl, d⟩ := toS_inv d
  obtain ⟨i, rfl, hl, d⟩ := toI_inv (d := dy) d
  replace d : (match L2.atI l i with | some c => Q' (.str [c]) μ | none => False) := d
  cases e : L2.atI l i with
  | none => rw [e] at d; exact d.elim
  | some z =>
    rw [e] at d
    exact ⟨_, i, z, r1.str_inv, r2.int_inv, by rw [ofL_len, sizeLine_eq]; exact hl, e, q _ _ _ _ (.refl c) (.str [z]) d⟩⟩
theorem de_ix {r : R2} {g : G2} (o : DIx X r g) (ha : DE X E a ta da) (hb : DE X E b tb db) (hs : PlainIx b) : DE X E (.Subscript a b pos) (tOp r ta tb) (dOp g da db) := ⟨pe_ix o.op ha.pe hb.pe hs, se_op o.sn ha.sn hb.sn⟩
/-! slices -/
abbrev DTO := DX → Sl → Mu → (Option Int → Mu → Prop) → Prop
structure SO (K : PySem.W.Frag) (E : XK) (t : TO) (d : DTO) : Prop where
  go : ∀ {σ H δ μ Q Q' E'}, Here K H μ σ δ → XR K H μ E E' → d E' δ μ Q' → (∀ b H' μ', Then K H μ H' μ' → Q' b μ' → Q b H') → t σ H Q
structure DO (X : Cx) (E : XK) (e : Option Expr) (t : TO) (d : DTO) : Prop where
  pe : PO X e t
  sn : SO X.K E t d
def dNoPart : DTO := fun _ _ μ Q => Q none μ
def dPart (a : DTE) : DTO := fun E δ μ Q => a E δ μ fun x μ1 => x.toI fun i => Q (some i) μ1
theorem do_none : DO X E none tNoPart dNoPart := ⟨po_none, ⟨fun hh x d q => q _ _ _ hh.refl d⟩⟩
theorem do_some (h : DE X E a ta da) : DO X E (some a) (tPart ta) (dPart da) := ⟨po_some h.pe, ⟨fun {σ H δ μ Q Q' E'} hh x d q => h.sn.go hh x d fun v y H1 μ1 t1 r1 d1 => by
  obtain ⟨i, rfl, d2⟩ := toI_inv d1
  exact ⟨i, r1.int_inv, q _ _ _ t1 d2⟩⟩⟩
abbrev GSl := D → Option Int → Option Int → Mu → DK → Prop
structure DSl (X : Cx) (r : V → Option Int → Option Int → Hp → VK → Prop) (g : GSl) : Prop where
  op : SlR X r
  sn : ∀ {x dx lo hi H μ Q Q'}, Cells X.K H μ → Rep X.K H μ x dx → g dx lo hi μ Q' → QR X.K H μ Q Q' → r x lo hi H Q
def dSlice (g : GSl) (a : DTE) (l h : DTO) : DTE := fun E δ μ Q => a E δ μ fun x μ1 => l E δ μ1 fun lo μ2 => h E δ μ2 fun hi μ3 => g x lo hi μ3 Q
theorem de_slice {r : V → Option Int → Option Int → Hp → VK → Prop} {g : GSl} {lo hi : Option Expr} {tl th : TO} {dl dh : DTO} {p2 : Pos} (o : DSl X r g) (h : DE X E a ta da) (hl : DO X E lo tl dl) (hu : DO X E hi th dh) :
    DE X E (.Subscript a (.Slice lo hi none p2) pos) (tSl r ta tl th) (dSlice g da dl dh) :=
  ⟨pe_slice o.op h.pe hl.pe hu.pe, ⟨fun {σ H δ μ Q Q' E'} hh x d q => h.sn.go hh x d fun v y H1 μ1 t1 r1 d1 => hl.sn.go (hh.go t1) (x.go t1) d1 fun lo H2 μ2 t2 d2 => hu.sn.go ((hh.go t1).go t2) ((x.go t1).go t2) d2 fun hi H3 μ3 t3 d3 =>
    o.sn t3.cells ((r1.grow t2.g).grow t3.g) d3 (((q.go t1).go t2).go t3)⟩⟩
def gSlL : GSl := fun x lo hi μ Q => (rd μ x).toL fun xs => Q (.lst (cutL xs lo hi)) μ
def gSlLC : GSl := fun x lo hi μ Q => (rd μ x).toL fun xs => ∀ p, μ p = none → Q (.ref p) (mup μ p (.lst (cutL xs lo hi)))
def gSlS : GSl := fun x lo hi μ Q => x.toS fun l => l.length ≤ 16777216 ∧ Q (.str (cutL l lo hi)) μ
theorem l_list {K : PySem.W.Frag} (hK : X.K = K := by rfl) : DSl X (rSlL K) gSlL := by
 subst hK
 exact ⟨sl_list, fun {x dx lo hi H μ Q Q'} c r d q => by
  obtain ⟨xs, e1, d⟩ := toL_inv d
  obtain ⟨p, vs, rfl, hp, rp⟩ := rd_lst c r e1
  exact ⟨p, vs, rfl, SqL.of hp, fun p' hp' => q _ _ _ _ (.new c hp') (rep_lst c hp' rp.cut) d⟩⟩
theorem l_listC {K : PySem.W.Frag} (hK : X.K = K := by rfl) : DSl X (rSlL K) gSlLC := by
 subst hK
 exact ⟨sl_list, fun {x dx lo hi H μ Q Q'} c r d q => by
  obtain ⟨xs, e1, d⟩ := toL_inv d
  obtain ⟨p, vs, rfl, hp, rp⟩ := rd_lst c r e1
  exact ⟨p, vs, rfl, SqL.of hp, fun p' hp' => q _ _ _ _ (.cell c hp' (con_lst hp' rp.cut)) (.ref p') (d p' (mu_none c hp'))⟩⟩
theorem cutS_ofL (l : List Nat) (lo hi : Option Int) : cutS (ofL l) lo hi = ofL (cutL l lo hi) := by
  unfold cutS cutL
  rw [ofL_len]
theorem l_str : DSl X rSlS gSlS := ⟨sl_str, fun {x dx lo hi H μ Q Q'} c r d q => by
  obtain ⟨l, rfl, hl, d⟩ := toS_inv d
  exact ⟨_, r.str_inv, by rw [ofL_len, sizeLine_eq]; exact hl, q _ _ _ _ (.refl c) (by rw [cutS_ofL]; exact .str _) d⟩⟩
/-! [::-1] -/
def dRevL (a : DTE) : DTE := fun E δ μ Q => a E δ μ fun x μ1 => (rd μ1 x).toL fun xs => Q (.lst xs.reverse) μ1
theorem de_revL {K : PySem.W.Frag} {k : Nat} {p1 p2 p3 : Pos} (h : DE X E a ta da) (hK : X.K = K := by rfl) : DE X E (.Subscript a (.Slice none none (some (.UnaryOp .USub (.Constant (.int 1) k p1) p2)) p3) pos) (tRevL K ta) (dRevL da) := by
 subst hK
 exact ⟨pe_revL h.pe, ⟨fun {σ H δ μ Q Q' E'} hh x d q => h.sn.go hh x d fun v y H1 μ1 t1 r1 d1 => by
    obtain ⟨xs, e1, d⟩ := toL_inv d1
    obtain ⟨p, vs, rfl, hp, rp⟩ := rd_lst t1.cells r1 e1
    exact ⟨p, vs, rfl, SqL.of hp, fun p' hp' => q _ _ _ _ (t1.trans (.new t1.cells hp')) (rep_lst t1.cells hp' rp.reverse) d⟩⟩⟩
end
end Dl

set_option Elab.async false
set_option linter.all false
set_option maxRecDepth 100000
namespace Dl
open PySem PySem.Spec PyProof.Rows L2
/-! ### built-ins by their names -/
abbrev GC := List D → Mu → DK → Prop
structure DCl (X : Cx) (f : Value) (r : List V → Hp → VK → Prop) (g : GC) : Prop where
  op : CallR X f r
  sn : ∀ {xs ds H μ Q Q'}, Cells X.K H μ → Reps X.K H μ xs ds → g ds μ Q' → QR X.K H μ Q Q' → r xs H Q
def dCB (g : GC) (a : DTA) : DTE := fun E δ μ Q => a E δ μ fun xs μ1 => g xs μ1 Q
def one (ds : List D) (k : D → Prop) : Prop := match ds with | [x] => k x | _ => False
def two (ds : List D) (k : D → D → Prop) : Prop := match ds with | [x, y] => k x y | _ => False
theorem one_inv {ds : List D} {k : D → Prop} (h : one ds k) : ∃ x, ds = [x] ∧ k x := by
  match ds, h with
  | [x], h => exact ⟨x, rfl, h⟩
theorem two_inv {ds : List D} {k : D → D → Prop} (h : two ds k) : ∃ x y, ds = [x, y] ∧ k x y := by
  match ds, h with
  | [x, y], h => exact ⟨x, y, rfl, h⟩
theorem Reps.inv1 {K : PySem.W.Frag} {H : Hp} {μ : Mu} {vs : List V} {x : D} (h : Reps K H μ vs [x]) : ∃ v, vs = [v] ∧ Rep K H μ v x := by
  obtain ⟨v, r, rfl, h1, h2⟩ := h.cons_inv
  cases h2.nil_inv
  exact ⟨v, rfl, h1⟩
theorem Reps.inv2 {K : PySem.W.Frag} {H : Hp} {μ : Mu} {vs : List V} {x y : D} (h : Reps K H μ vs [x, y]) : ∃ v w, vs = [v, w] ∧ Rep K H μ v x ∧ Rep K H μ w y := by
  obtain ⟨v, r, rfl, h1, h2⟩ := h.cons_inv
  obtain ⟨w, rfl, h3⟩ := h2.inv1
  exact ⟨v, w, rfl, h1, h3⟩
/-- a list of ints, texts, truths -/
def asI : List D → Option (List Int)
  | [] => some []
  | .int i :: r => (asI r).map (i :: ·)
  | _ => none
def asS : List D → Option (List (List Nat))
  | [] => some []
  | .str l :: r => (asS r).map (l :: ·)
  | _ => none
def asB : List D → Option (List Bool)
  | [] => some []
  | .bl l :: r => (asB r).map (l :: ·)
  | _ => none
theorem asI_map (l : List Int) : asI (l.map .int) = some l := by
  induction l with
  | nil => rfl
  | cons a l ih => show (asI (l.map .int)).map _ = _; rw [ih]; rfl
theorem asS_map (l : List (List Nat)) : asS (l.map .str) = some l := by
  induction l with
  | nil => rfl
  | cons a l ih => show (asS (l.map .str)).map _ = _; rw [ih]; rfl
theorem asB_map (l : List Bool) : asB (l.map .bl) = some l := by
  induction l with
  | nil => rfl
  | cons a l ih => show (asB (l.map .bl)).map _ = _; rw [ih]; rfl
theorem asI_inv : ∀ {xs : List D} {l : List Int}, asI xs = some l → xs = l.map .int
  | [], l, h => by cases h; rfl
  | .int i :: r, l, h => by
    cases e : asI r with
    | none => rw [asI, e] at h; cases h
    | some m => rw [asI, e] at h; cases h; rw [asI_inv e]; rfl
  | .non :: _, _, h | .bl _ :: _, _, h | .str _ :: _, _, h | .ty _ :: _, _, h | .ref _ :: _, _, h | .lst _ :: _, _, h | .tup _ :: _, _, h | .ins .. :: _, _, h | .dK .. :: _, _, h | .dT .. :: _, _, h | .src :: _, _, h | .scr _ :: _, _, h | .tab _ :: _, _, h | .lam .. :: _, _, h | .exc .. :: _, _, h => by cases h
theorem asS_inv : ∀ {xs : List D} {l : List (List Nat)}, asS xs = some l → xs = l.map .str
  | [], l, h => by cases h; rfl
  | .str i :: r, l, h => by
    cases e : asS r with
    | none => rw [asS, e] at h; cases h
    | some m => rw [asS, e] at h; cases h; rw [asS_inv e]; rfl
  | .non :: _, _, h | .bl _ :: _, _, h | .int _ :: _, _, h | .ty _ :: _, _, h | .ref _ :: _, _, h | .lst _ :: _, _, h | .tup _ :: _, _, h | .ins .. :: _, _, h | .dK .. :: _, _, h | .dT .. :: _, _, h | .src :: _, _, h | .scr _ :: _, _, h | .tab _ :: _, _, h | .lam .. :: _, _, h | .exc .. :: _, _, h => by cases h
theorem asB_inv : ∀ {xs : List D} {l : List Bool}, asB xs = some l → xs = l.map .bl
  | [], l, h => by cases h; rfl
  | .bl i :: r, l, h => by
    cases e : asB r with
    | none => rw [asB, e] at h; cases h
    | some m => rw [asB, e] at h; cases h; rw [asB_inv e]; rfl
  | .non :: _, _, h | .str _ :: _, _, h | .int _ :: _, _, h | .ty _ :: _, _, h | .ref _ :: _, _, h | .lst _ :: _, _, h | .tup _ :: _, _, h | .ins .. :: _, _, h | .dK .. :: _, _, h | .dT .. :: _, _, h | .src :: _, _, h | .scr _ :: _, _, h | .tab _ :: _, _, h | .lam .. :: _, _, h | .exc .. :: _, _, h => by cases h
section
variable {K : PySem.W.Frag} {H : Hp} {μ : Mu}
theorem Reps.ints : ∀ {l : List Int} {vs : List V}, Reps K H μ vs (l.map .int) → vs = l.map .int
  | [], _, h => h.nil_inv
  | i :: l, _, h => by
    obtain ⟨v, r, rfl, h1, h2⟩ := Reps.cons_inv h
    rw [h1.int_inv, Reps.ints h2]; rfl
theorem Reps.strs : ∀ {l : List (List Nat)} {vs : List V}, Reps K H μ vs (l.map .str) → vs = (l.map ofL).map .str
  | [], _, h => h.nil_inv
  | i :: l, _, h => by
    obtain ⟨v, r, rfl, h1, h2⟩ := Reps.cons_inv h
    rw [h1.str_inv, Reps.strs h2]; rfl
theorem Reps.bls : ∀ {l : List Bool} {vs : List V}, Reps K H μ vs (l.map .bl) → vs = l.map .bl
  | [], _, h => h.nil_inv
  | i :: l, _, h => by
    obtain ⟨v, r, rfl, h1, h2⟩ := Reps.cons_inv h
    rw [h1.bl_inv, Reps.bls h2]; rfl
theorem reps_strs : ∀ (l : List (List Nat)), Reps K H μ ((l.map ofL).map .str) (l.map .str)
  | [] => .nil
  | i :: l => .cons (.str i) (reps_strs l)
theorem reps_ints : ∀ (l : List Int), Reps K H μ (l.map .int) (l.map .int)
  | [] => .nil
  | i :: l => .cons (.int i) (reps_ints l)
end
/-! what they tell -/
def gLenS : GC := fun ds μ Q => one ds fun x => x.toS fun l => l.length ≤ 16777216 ∧ Q (.int (l.length : Nat)) μ
def gLenL : GC := fun ds μ Q => one ds fun x => match rd μ x with | .lst xs => Q (.int (xs.length : Nat)) μ | .tup xs => Q (.int (xs.length : Nat)) μ | _ => False
def gAll : GC := fun ds μ Q => one ds fun x => (rd μ x).toL fun xs => match asB xs with | some l => Q (.bl (l.all id)) μ | none => False
def gAny : GC := fun ds μ Q => one ds fun x => (rd μ x).toL fun xs => match asB xs with | some l => Q (.bl (l.any id)) μ | none => False
def gMax2 : GC := fun ds μ Q => two ds fun x y => x.toI fun i => y.toI fun j => Q (.int (if j > i then j else i)) μ
def gMin2 : GC := fun ds μ Q => two ds fun x y => x.toI fun i => y.toI fun j => Q (.int (if j < i then j else i)) μ
def gInt1 : GC := fun ds μ Q => one ds fun x => match x with | .int i => Q (.int i) μ | .bl b => Q (.int (if b then 1 else 0)) μ | _ => False
def gAbs : GC := fun ds μ Q => one ds fun x => x.toI fun i => Q (.int (if i < 0 then -i else i)) μ
def gList : GC := fun ds μ Q => one ds fun x => match rd μ x with | .lst xs => Q (.lst xs) μ | .tup xs => Q (.lst xs) μ | _ => False
def gListC : GC := fun ds μ Q => one ds fun x => match rd μ x with | .lst xs => ∀ p, μ p = none → Q (.ref p) (mup μ p (.lst xs)) | .tup xs => ∀ p, μ p = none → Q (.ref p) (mup μ p (.lst xs)) | _ => False
def gSortT : GC := fun ds μ Q => one ds fun x => x.toS fun l => l.length ≤ 16777216 ∧ ∀ m : List Nat, m.Perm l → m.Pairwise (· ≤ ·) → Q (.lst (m.map fun c => .str [c])) μ
def gSum : GC := fun ds μ Q => one ds fun x => (rd μ x).toL fun xs => match asI xs with | some l => Q (.int l.sum) μ | none => False
/-- the type's name -/
def tyN : D → Option String
  | .non => some "NoneType" | .bl _ => some "bool" | .int _ => some "int" | .str _ => some "str" | .lst _ => some "list" | .tup _ => some "tuple" | .dK .. => some "dict"
  | _ => none
def gIsi : GC := fun ds μ Q => two ds fun x y => match tyN (rd μ x), y with | some t, .ty c => (match kitB t c with | some b => Q (.bl b) μ | none => False) | _, _ => False
section
variable {X : Cx}
theorem c_lenS : DCl X (.builtin "len") (fun xs H Q => ∃ z, xs = [.str z] ∧ z.length ≤ sizeLine ∧ Q (.int z.length) H) gLenS := ⟨call_len_str, fun {xs ds H μ Q Q'} c r d q => by
  obtain ⟨x, rfl, d1⟩ := one_inv d
  obtain ⟨v, rfl, r0⟩ := r.inv1
  obtain ⟨l, rfl, hl, d2⟩ := toS_inv d1
  refine ⟨_, by rw [r0.str_inv], by rw [ofL_len, sizeLine_eq]; exact hl, ?_⟩
  rw [ofL_len]
  exact q _ _ _ _ (.refl c) (.int _) d2⟩
theorem c_lenL {K : PySem.W.Frag} (hK : X.K = K := by rfl) : DCl X (.builtin "len") (fun xs H Q => ∃ p ys, xs = [.ref p] ∧ (SqL K H p ys ∨ SqT K H p ys) ∧ Q (.int ys.length) H) gLenL := by
 subst hK
 exact ⟨call_len_seq, fun {xs ds H μ Q Q'} c r d q => by
  obtain ⟨x, rfl, d1⟩ := one_inv d
  obtain ⟨v, rfl, r0⟩ := r.inv1
  cases e : rd μ x with
  | lst xs =>
    simp only [e] at d1
    obtain ⟨a, vs, rfl, ha, ra⟩ := rd_lst c r0 e
    exact ⟨a, vs, rfl, .inl (SqL.of ha), q _ _ _ _ (.refl c) (by rw [ra.length]; exact .int _) d1⟩
  | tup xs =>
    simp only [e] at d1
    obtain ⟨a, vs, rfl, ha, ra⟩ := rd_tup c r0 e
    exact ⟨a, vs, rfl, .inr ha, q _ _ _ _ (.refl c) (by rw [ra.length]; exact .int _) d1⟩
  | _ => simp only [e] at d1⟩
theorem c_all {K : PySem.W.Frag} (hc : X.calm = true) (hK : X.K = K := by rfl) : DCl X (.builtin "all") (rAll K) gAll := by
 subst hK
 exact ⟨cr_all hc, fun {xs ds H μ Q Q'} c r d q => by
  obtain ⟨x, rfl, d1⟩ := one_inv d
  obtain ⟨v, rfl, r0⟩ := r.inv1
  obtain ⟨xs, e, d2⟩ := toL_inv d1
  obtain ⟨a, vs, rfl, ha, ra⟩ := rd_lst c r0 e
  cases e2 : asB xs with
  | none => simp only [e2] at d2
  | some l =>
    simp only [e2] at d2
    rw [asB_inv e2] at ra
    exact ⟨a, l, rfl, SqL.of (by rw [ha, ra.bls]), q _ _ _ _ (.refl c) (.bl _) d2⟩⟩
theorem c_any {K : PySem.W.Frag} (hc : X.calm = true) (hK : X.K = K := by rfl) : DCl X (.builtin "any") (rAny K) gAny := by
 subst hK
 exact ⟨cr_any hc, fun {xs ds H μ Q Q'} c r d q => by
  obtain ⟨x, rfl, d1⟩ := one_inv d
  obtain ⟨v, rfl, r0⟩ := r.inv1
  obtain ⟨xs, e, d2⟩ := toL_inv d1
  obtain ⟨a, vs, rfl, ha, ra⟩ := rd_lst c r0 e
  cases e2 : asB xs with
  | none => simp only [e2] at d2
  | some l =>
    simp only [e2] at d2
    rw [asB_inv e2] at ra
    exact ⟨a, l, rfl, SqL.of (by rw [ha, ra.bls]), q _ _ _ _ (.refl c) (.bl _) d2⟩⟩
theorem c_sum {K : PySem.W.Frag} (hK : X.K = K := by rfl) : CallR X (.builtin "sum") (rSum K) → DCl X (.builtin "sum") (rSum K) gSum := by
 subst hK
 exact fun h => ⟨h, fun {xs ds H μ Q Q'} c r d q => by
  obtain ⟨x, rfl, d1⟩ := one_inv d
  obtain ⟨v, rfl, r0⟩ := r.inv1
  obtain ⟨xs, e, d2⟩ := toL_inv d1
  obtain ⟨a, vs, rfl, ha, ra⟩ := rd_lst c r0 e
  cases e2 : asI xs with
  | none => simp only [e2] at d2
  | some l =>
    simp only [e2] at d2
    rw [asI_inv e2] at ra
    exact ⟨a, l, rfl, SqL.of (by rw [ha, ra.ints]), q _ _ _ _ (.refl c) (.int _) d2⟩⟩
theorem c_max2 (hc : X.calm = true) : DCl X (.builtin "max") (fun xs H Q => ∃ i j, xs = [.int i, .int j] ∧ Q (.int (if j > i then j else i)) H) gMax2 := ⟨call_max2 hc, fun {xs ds H μ Q Q'} c r d q => by
  obtain ⟨x, y, rfl, d1⟩ := two_inv d
  obtain ⟨v, w, rfl, r1, r2⟩ := r.inv2
  obtain ⟨i, rfl, d2⟩ := toI_inv d1
  obtain ⟨j, rfl, d3⟩ := toI_inv (d := y) d2
  exact ⟨i, j, by rw [r1.int_inv, r2.int_inv], q _ _ _ _ (.refl c) (.int _) d3⟩⟩
theorem c_min2 (hc : X.calm = true) : DCl X (.builtin "min") (fun xs H Q => ∃ i j, xs = [.int i, .int j] ∧ Q (.int (if j < i then j else i)) H) gMin2 := ⟨call_min2 hc, fun {xs ds H μ Q Q'} c r d q => by
  obtain ⟨x, y, rfl, d1⟩ := two_inv d
  obtain ⟨v, w, rfl, r1, r2⟩ := r.inv2
  obtain ⟨i, rfl, d2⟩ := toI_inv d1
  obtain ⟨j, rfl, d3⟩ := toI_inv (d := y) d2
  exact ⟨i, j, by rw [r1.int_inv, r2.int_inv], q _ _ _ _ (.refl c) (.int _) d3⟩⟩
theorem c_int1 : DCl X (.type "int") (fun xs H Q => (∃ i, xs = [.int i] ∧ Q (.int i) H) ∨ ∃ k, xs = [.bl k] ∧ Q (.int (if k then 1 else 0)) H) gInt1 := ⟨call_int1, fun {xs ds H μ Q Q'} c r d q => by
  obtain ⟨x, rfl, d1⟩ := one_inv d
  obtain ⟨v, rfl, r0⟩ := r.inv1
  cases x with
  | int i => exact .inl ⟨i, by rw [r0.int_inv], q _ _ _ _ (.refl c) (.int _) d1⟩
  | bl b => exact .inr ⟨b, by rw [r0.bl_inv], q _ _ _ _ (.refl c) (.int _) d1⟩
  | _ => exact d1.elim⟩
theorem c_abs : DCl X (.builtin "abs") (fun xs H Q => ∃ i, xs = [.int i] ∧ Q (.int (if i < 0 then -i else i)) H) gAbs := ⟨call_abs, fun {xs ds H μ Q Q'} c r d q => by
  obtain ⟨x, rfl, d1⟩ := one_inv d
  obtain ⟨v, rfl, r0⟩ := r.inv1
  obtain ⟨i, rfl, d2⟩ := toI_inv d1
  exact ⟨i, by rw [r0.int_inv], q _ _ _ _ (.refl c) (.int _) d2⟩⟩
theorem c_list {K : PySem.W.Frag} (hK : X.K = K := by rfl) : DCl X (.type "list") (fun xs H Q => ∃ p ys, xs = [.ref p] ∧ (SqL K H p ys ∨ SqT K H p ys) ∧ ∀ l, H l = none → Q (.ref l) (upd H l (.lst ys))) gList := by
 subst hK
 exact ⟨call_list_of, fun {xs ds H μ Q Q'} c r d q => by
  obtain ⟨x, rfl, d1⟩ := one_inv d
  obtain ⟨v, rfl, r0⟩ := r.inv1
  cases e : rd μ x with
  | lst xs =>
    simp only [e] at d1
    obtain ⟨a, vs, rfl, ha, ra⟩ := rd_lst c r0 e
    exact ⟨a, vs, rfl, .inl (SqL.of ha), fun p hp => q _ _ _ _ (.new c hp) (rep_lst c hp ra) d1⟩
  | tup xs =>
    simp only [e] at d1
    obtain ⟨a, vs, rfl, ha, ra⟩ := rd_tup c r0 e
    exact ⟨a, vs, rfl, .inr ha, fun p hp => q _ _ _ _ (.new c hp) (rep_lst c hp ra) d1⟩
  | _ => simp only [e] at d1⟩
theorem c_listC {K : PySem.W.Frag} (hK : X.K = K := by rfl) : DCl X (.type "list") (fun xs H Q => ∃ p ys, xs = [.ref p] ∧ (SqL K H p ys ∨ SqT K H p ys) ∧ ∀ l, H l = none → Q (.ref l) (upd H l (.lst ys))) gListC := by
 subst hK
 exact ⟨call_list_of, fun {xs ds H μ Q Q'} c r d q => by
  obtain ⟨x, rfl, d1⟩ := one_inv d
  obtain ⟨v, rfl, r0⟩ := r.inv1
  cases e : rd μ x with
  | lst xs =>
    simp only [e] at d1
    obtain ⟨a, vs, rfl, ha, ra⟩ := rd_lst c r0 e
    exact ⟨a, vs, rfl, .inl (SqL.of ha), fun p hp => q _ _ _ _ (.cell c hp (con_lst hp ra)) (.ref p) (d1 p (mu_none c hp))⟩
  | tup xs =>
    simp only [e] at d1
    obtain ⟨a, vs, rfl, ha, ra⟩ := rd_tup c r0 e
    exact ⟨a, vs, rfl, .inr ha, fun p hp => q _ _ _ _ (.cell c hp (con_lst hp ra)) (.ref p) (d1 p (mu_none c hp))⟩
  | _ => simp only [e] at d1⟩
theorem ty_ok {K : PySem.W.Frag} {H : Hp} {μ : Mu} {v : V} {d : D} {t : String} (c : Cells K H μ) (r : Rep K H μ v d) (h : tyN (rd μ d) = some t) : TyX K H v (.type t) := by
  rcases rd_inv c r with q | ⟨a, rfl, _, _, q⟩
  · rw [q] at h
    cases r with
    | non => cases h; exact .base .non
    | bl b => cases h; exact .base (.bl b)
    | int i => cases h; exact .base (.int i)
    | str l => cases h; exact .base (.str _)
    | ty n => cases h
    | ref a => cases h
    | scr k => cases h
    | tabx a q => cases h
    | lam h2 m r => cases h
    | exc h2 m r => cases h
    | ktup k r =>
      cases h
      obtain ⟨o, its, n, e, ec, _⟩ := k
      exact .kTuple e ec
    | obj m nt c2 =>
      cases c2 with
      | lst g r => cases h; exact .base (.lst g)
      | tup g r => cases h; rcases g with g | ⟨o, g⟩; exact .base (.tup g); exact .fTuple g
      | ins g r => cases h
      | dK g r => cases h; rcases g with g | ⟨o, g⟩; exact .base (.dK g); exact .fDict g
      | dT g r => cases h
      | src x y z g => cases h
      | tab g => cases h
  · generalize rd μ d = z at q h
    cases q with
    | lst g r => cases h; exact .base (.lst g)
    | tup g r => cases h; rcases g with g | ⟨o, g⟩; exact .base (.tup g); exact .fTuple g
    | ins g r => cases h
    | dK g r => cases h; rcases g with g | ⟨o, g⟩; exact .base (.dK g); exact .fDict g
    | dT g r => cases h
    | src x y z g => cases h
    | tab g => cases h
theorem c_isi {K : PySem.W.Frag} (hK : X.K = K := by rfl) : DCl X (.builtin "isinstance") (rIsi K) gIsi := by
 subst hK
 exact ⟨call_isi, fun {xs ds H μ Q Q'} c r d q => by
  obtain ⟨x, y, rfl, d1⟩ := two_inv d
  obtain ⟨v, w, rfl, r1, r2⟩ := r.inv2
  cases e : tyN (rd μ x) with
  | none => simp only [e] at d1
  | some t =>
    cases y with
    | ty k =>
      simp only [e] at d1
      cases e2 : kitB t k with
      | none => simp only [e2] at d1
      | some b =>
        simp only [e2] at d1
        exact ⟨v, .ty k, .type t, .type k, b, by rw [r2.ty_inv], .ty k, ty_ok c r1 e, kit_ty e2, q _ _ _ _ (.refl c) (.bl b) d1⟩
    | _ => simp only [e] at d1⟩
end
end Dl

set_option Elab.async false
set_option linter.all false
set_option maxRecDepth 100000
namespace Dl
open PySem PySem.Spec PyProof.Rows L2
section
variable {X : Cx} {E : XK} {a e o : Expr} {es : List Expr} {ta te to : TE} {t : TA} {da de dob : DTE} {d : DTA} {pos apos cpos p : Pos} {x : Str}
theorem de_callB {id : String} {r : List V → Hp → VK → Prop} {g : GC} (c : DCl X (.builtin id) r g) (hg : Gl X x) (hm : X.mg x = none) (hv : bootBuiltins x = some (.builtin id)) (ha : DA X E (e :: es) t d) (hn : x ≠ "__name__" := by decide) (hdb : (x == ("__debug__" : Str)) = false := by decide)
    (he : starEach (e :: es) X.env = (false, eval e X.env) :: starEach es X.env := by rfl) (hpl : (backTo pos (starEach es X.env)).any (·.1) = false := by rfl) : DE X E (.Call (.Name x p) (e :: es) [] pos) (tCB r t) (dCB g d) :=
  ⟨pe_callB c.op hg hm hv ha.pe hn hdb he hpl, ⟨fun {σ H δ μ Q Q' E'} hh x d q => ha.sn.go hh x d fun vs xs H1 μ1 t1 r1 d1 => c.sn t1.cells r1 d1 (q.go t1)⟩⟩
theorem de_callTy {T : String} {r : List V → Hp → VK → Prop} {g : GC} (c : DCl X (.type T) r g) (hg : Gl X x) (hm : X.mg x = none) (hv : bootBuiltins x = some (.type T)) (ha : DA X E (e :: es) t d) (hn : x ≠ "__name__" := by decide) (hdb : (x == ("__debug__" : Str)) = false := by decide)
    (he : starEach (e :: es) X.env = (false, eval e X.env) :: starEach es X.env := by rfl) (hpl : (backTo pos (starEach es X.env)).any (·.1) = false := by rfl) : DE X E (.Call (.Name x p) (e :: es) [] pos) (tCB r t) (dCB g d) :=
  ⟨pe_callTy c.op hg hm hv ha.pe hn hdb he hpl, ⟨fun {σ H δ μ Q Q' E'} hh x d q => ha.sn.go hh x d fun vs xs H1 μ1 t1 r1 d1 => c.sn t1.cells r1 d1 (q.go t1)⟩⟩
theorem de_bltn {T : String} {v : V} {dd : D} (h : PE X (.Name x p) (tC v)) (r : ∀ H μ, Rep X.K H μ v dd) : DE X E (.Name x p) (tC v) (dC dd) := ⟨h, se_c r⟩
/-! len(set(a text)) -/
def dLenSet (a : DTE) : DTE := fun E δ μ Q => a E δ μ fun x μ1 => x.toS fun l => l.length ≤ 4000 ∧ ∀ m : Nat, m ≤ l.length → (m = l.length ↔ l.Nodup) → Q (.int (m : Nat)) μ1
theorem de_lenSet {p2 q : Pos} (hg : Gl X "len") (hm : X.mg "len" = none) (hg2 : Gl X "set") (hm2 : X.mg "set" = none) (ha : DE X E a ta da) (hc : X.calm = true := by rfl)
    (na : starEach [a] X.env = (false, eval a X.env) :: starEach [] X.env := by rfl) : DE X E (.Call (.Name "len" p) [.Call (.Name "set" p2) [a] [] q] [] pos) (Ms.tLst ta) (dLenSet da) :=
  ⟨Ms.pe_lst_set hg hm hg2 hm2 ha.pe hc na, ⟨fun {σ H δ μ Q Q' E'} hh x d q => ha.sn.go hh x d fun v y H1 μ1 t1 r1 d1 => by
    obtain ⟨l, rfl, hl, d2⟩ := toS_inv d1
    refine ⟨_, r1.str_inv, by rw [ofL_len]; exact hl, fun m hm he => ?_⟩
    rw [ofL_len] at hm he
    exact q _ _ _ _ t1 (.int _) (d2 m hm he)⟩⟩
/-! sorted(a text) -/
theorem perm_one {z : List Nat} {ys : List Str} (h : ys.Perm (z.map fun c => (⟨#[c]⟩ : Str))) : ∃ l : List Nat, l.Perm z ∧ ys = l.map fun c => ofL [c] := by
  have m : ∀ y ∈ ys, (ofL [y.cps[0]!]) = y := by
    intro y hy
    obtain ⟨c, _, rfl⟩ := List.mem_map.mp (h.mem_iff.mp hy)
    rfl
  refine ⟨ys.map fun y => y.cps[0]!, ?_, ?_⟩
  · have := h.map fun y : Str => y.cps[0]!
    rw [List.map_map] at this
    have e : (z.map ((fun y : Str => y.cps[0]!) ∘ fun c => (⟨#[c]⟩ : Str))) = z := by
      rw [show ((fun y : Str => y.cps[0]!) ∘ fun c => (⟨#[c]⟩ : Str)) = id from rfl, List.map_id]
    rwa [e] at this
  · rw [List.map_map]
    exact ((List.map_congr_left (g := id) m).trans (List.map_id _)).symm
theorem reps_signs {K : PySem.W.Frag} {H : Hp} {μ : Mu} : ∀ (l : List Nat), Reps K H μ ((l.map fun c => ofL [c]).map V.str) (l.map fun c => D.str [c])
  | [] => .nil
  | i :: l => .cons (.str [i]) (reps_signs l)
/-! methods of texts -/
abbrev GM := D → List D → Mu → DK → Prop
structure DMt (X : Cx) (id : String) (r : V → List V → Hp → VK → Prop) (g : GM) : Prop where
  op : MtR X id r
  sn : ∀ {v x vs xs H μ Q Q'}, Cells X.K H μ → Rep X.K H μ v x → Reps X.K H μ vs xs → g x xs μ Q' → QR X.K H μ Q Q' → r v vs H Q
def isS : D → Bool
  | .str _ => true
  | _ => false
def dM0 (g : GM) (a : DTE) : DTE := fun E δ μ Q => a E δ μ fun x μ1 => isS x = true ∧ g x [] μ1 Q
def dM1 (g : GM) (a b : DTE) : DTE := fun E δ μ Q => a E δ μ fun x μ1 => isS x = true ∧ b E δ μ1 fun y μ2 => g x [y] μ2 Q
theorem isS_inv {K : PySem.W.Frag} {H : Hp} {μ : Mu} {v : V} {x : D} (r : Rep K H μ v x) (h : isS x = true) : ∃ a, v = .str a := by
  cases x with
  | str l => exact ⟨_, r.str_inv⟩
  | _ => cases h
theorem de_m0 {id : String} {name : Str} {r : V → List V → Hp → VK → Prop} {g : GM} (slot : Slot "str" name id) (ty : typeOf (.builtin id) = pure (.type "method_descriptor")) (m : DMt X id r g) (ho : DE X E o to dob)
    (hbase : attributeBase o name X.env (eval o X.env) = eval o X.env := by rfl) (hline : (apos.endLine == pos.line) = true := by rfl) : DE X E (.Call (.Attribute o name apos) [] [] pos) (tM0 r to) (dM0 g dob) :=
  ⟨pe_m0 slot ty m.op ho.pe hbase hline, ⟨fun {σ H δ μ Q Q' E'} hh x d q => ho.sn.go hh x d fun v y H1 μ1 t1 r1 d1 => ⟨isS_inv r1 d1.1, m.sn t1.cells r1 .nil d1.2 (q.go t1)⟩⟩⟩
theorem de_m1 {id : String} {name : Str} {r : V → List V → Hp → VK → Prop} {g : GM} (slot : Slot "str" name id) (ty : typeOf (.builtin id) = pure (.type "method_descriptor")) (m : DMt X id r g) (ho : DE X E o to dob) (he : DE X E e te de)
    (hs : starEach [e] X.env = [(false, eval e X.env)] := by rfl) (hbase : attributeBase o name X.env (eval o X.env) = eval o X.env := by rfl) (hline : (apos.endLine == pos.line) = true := by rfl) :
    DE X E (.Call (.Attribute o name apos) [e] [] pos) (tM1 r to te) (dM1 g dob de) :=
  ⟨pe_m1 slot ty m.op ho.pe he.pe hs hbase hline, ⟨fun {σ H δ μ Q Q' E'} hh x d q => ho.sn.go hh x d fun v y H1 μ1 t1 r1 d1 => ⟨isS_inv r1 d1.1, he.sn.go (hh.go t1) (x.go t1) d1.2 fun w z H2 μ2 t2 r2 d2 => m.sn t2.cells (r1.grow t2.g) (.one r2) d2 ((q.go t1).go t2)⟩⟩⟩
def gStarts : GM := fun x xs μ Q => x.toS fun l => one xs fun y => y.toS fun m => Q (.bl (Txt.startswith (ofL l) (ofL m))) μ
def gEnds : GM := fun x xs μ Q => x.toS fun l => one xs fun y => y.toS fun m => Q (.bl (Txt.endswith (ofL l) (ofL m))) μ
def gAscii : GM := fun x _ μ Q => x.toS fun l => Q (.bl (Txt.isascii (ofL l))) μ
def gAlpha : GM := fun x _ μ Q => x.toS fun l => Q (.bl (Txt.isalpha (ofL l))) μ
def joinN (a : List Nat) (ls : List (List Nat)) : List Nat := (Txt.join (ofL a) (ls.map ofL)).cps.toList
def gJoin : GM := fun x xs μ Q => x.toS fun l => one xs fun y => match rd μ y with
  | .lst ys => (match asS ys with | some ls => (ls.map (·.length)).sum + ls.length * l.length ≤ 16777216 ∧ Q (.str (joinN l ls)) μ | none => False)
  | _ => False
theorem m_starts : DMt X "str.startswith" (fun x xs H Q => ∃ a b, x = .str a ∧ xs = [.str b] ∧ Q (.bl (Txt.startswith a b)) H) gStarts := ⟨mt_startswith, fun {v x vs xs H μ Q Q'} c r rs d q => by
  obtain ⟨l, rfl, d1⟩ := toS_inv d
  obtain ⟨y, rfl, d2⟩ := one_inv d1
  obtain ⟨m, rfl, d3⟩ := toS_inv d2
  obtain ⟨w, rfl, rw⟩ := rs.inv1
  exact ⟨_, _, r.str_inv, by rw [rw.str_inv], q _ _ _ _ (.refl c) (.bl _) d3⟩⟩
theorem m_ends : DMt X "str.endswith" (fun x xs H Q => ∃ a b, x = .str a ∧ xs = [.str b] ∧ Q (.bl (Txt.endswith a b)) H) gEnds := ⟨mt_endswith, fun {v x vs xs H μ Q Q'} c r rs d q => by
  obtain ⟨l, rfl, d1⟩ := toS_inv d
  obtain ⟨y, rfl, d2⟩ := one_inv d1
  obtain ⟨m, rfl, d3⟩ := toS_inv d2
  obtain ⟨w, rfl, rw⟩ := rs.inv1
  exact ⟨_, _, r.str_inv, by rw [rw.str_inv], q _ _ _ _ (.refl c) (.bl _) d3⟩⟩
theorem m_ascii : DMt X "str.isascii" (fun x xs H Q => ∃ a, x = .str a ∧ xs = [] ∧ True ∧ Q (.bl (Txt.isascii a)) H) (fun x xs μ Q => xs = [] ∧ gAscii x xs μ Q) := ⟨mt_isascii, fun {v x vs xs H μ Q Q'} c r rs d q => by
  obtain ⟨rfl, d1⟩ := d
  obtain ⟨l, rfl, d2⟩ := toS_inv d1
  cases rs.nil_inv
  exact ⟨_, r.str_inv, rfl, trivial, q _ _ _ _ (.refl c) (.bl _) d2⟩⟩
theorem m_alpha : DMt X "str.isalpha" (fun x xs H Q => ∃ a, x = .str a ∧ xs = [] ∧ True ∧ Q (.bl (Txt.isalpha a)) H) (fun x xs μ Q => xs = [] ∧ gAlpha x xs μ Q) := ⟨mt_isalpha, fun {v x vs xs H μ Q Q'} c r rs d q => by
  obtain ⟨rfl, d1⟩ := d
  obtain ⟨l, rfl, d2⟩ := toS_inv d1
  cases rs.nil_inv
  exact ⟨_, r.str_inv, rfl, trivial, q _ _ _ _ (.refl c) (.bl _) d2⟩⟩
theorem m_join {K : PySem.W.Frag} (hK : X.K = K := by rfl) : DMt X "str.join" (fun x xs H Q => ∃ a p, ∃ ys : List Str, x = .str a ∧ xs = [.ref p] ∧ (SqL K H p (ys.map V.str) ∨ SqT K H p (ys.map V.str)) ∧
    (ys.map (·.length)).sum + ys.length * a.length ≤ 16777216 ∧ Q (.str (Txt.join a ys)) H) gJoin := by
 subst hK
 exact ⟨mt_join, fun {v x vs xs H μ Q Q'} c r rs d q => by
  obtain ⟨l, rfl, d1⟩ := toS_inv d
  obtain ⟨y, rfl, d2⟩ := one_inv d1
  obtain ⟨w, rfl, rw1⟩ := rs.inv1
  cases e : rd μ y with
  | lst ys =>
    simp only [e] at d2
    cases e2 : asS ys with
    | none => simp only [e2] at d2
    | some ls =>
      simp only [e2] at d2
      obtain ⟨hl, d3⟩ := d2
      obtain ⟨p, us, rfl, hp, rp⟩ := rd_lst c rw1 e
      rw [asS_inv e2] at rp
      refine ⟨_, p, ls.map ofL, r.str_inv, rfl, .inl (SqL.of (by rw [hp, rp.strs])), ?_, q _ _ _ _ (.refl c) (rep_str _ rfl) d3⟩
      rw [List.map_map, List.length_map, ofL_len, show (fun x => x.length) ∘ ofL = (fun l : List Nat => l.length) from funext fun l => ofL_len l]
      exact hl
  | _ => simp only [e] at d2⟩
/-! a letter's place (it is there) -/
def dIndex (a : DTE) (b : DTA) : DTE := fun E δ μ Q => a E δ μ fun x μ1 => isS x = true ∧ b E δ μ1 fun xs μ2 => x.toS fun l => one xs fun y => y.toS fun m => match m with | [c] => c ∈ l ∧ Q (.int (l.idxOf c : Nat)) μ2 | _ => False
theorem index_one {L : List Nat} {c : Nat} (h : c ∈ L) : Txt.index0 (ofL L) (ofL [c]) = some (L.idxOf c) := by
  have at_iff : ∀ i, StrLaws.At (ofL L) ⟨#[c]⟩ (ofL L).length i ↔ L[i]? = some c := fun i => StrLaws.subAt_one (ofL L) c i
  have hi : L[L.idxOf c]? = some c := by
    rw [List.getElem?_eq_getElem (List.idxOf_lt_length_of_mem h), List.getElem_idxOf]
  rcases StrLaws.occ_head (ofL L) ⟨#[c]⟩ 1 (Nat.le_refl _) with ⟨_, no⟩ | ⟨i, r, e, a, b⟩
  · exact absurd ((at_iff _).mpr hi) (no _)
  · have a := (at_iff _).mp a
    have e1 : L.idxOf c = i := by
      rcases Nat.lt_trichotomy (L.idxOf c) i with h1 | h1 | h1
      · exact absurd ((at_iff _).mpr hi) (b _ h1)
      · exact h1
      · exact absurd a (by
          intro z
          have := List.not_of_lt_findIdx (p := (· == c)) (xs := L) (i := i) h1
          obtain ⟨hl, e⟩ := List.getElem?_eq_some_iff.mp z
          simp [e] at this)
    show (Builtin.Str.occurrences (ofL L) (ofL [c]) 0 (ofL L).length 1).head? = _
    rw [show ofL [c] = (⟨#[c]⟩ : Str) from rfl, e, e1]
    rfl
theorem de_index {K : PySem.W.Frag} (hK : X.K = K) (hc : X.calm = true) (ho : DE X E o to dob) (ha : DA X E (e :: es) t d)
    (h1 : attributeBase o "index" X.env (eval o X.env) = eval o X.env := by rfl)
    (h2 : ((((backTo cpos (starEach (e :: es) X.env)).all fun x => !x.fst) && (backToKw cpos (keywordEach [] X.env)).all fun x => x.fst.isSome) && decide (((e :: es).length + ([] : List Keyword).length + if ([] : List Keyword).isEmpty = true then 0 else 1) < 30)) = true := by rfl)
    (h3 : (apos.endLine == cpos.line) = true := by rfl) (h4 : starEach (e :: es) X.env = (false, eval e X.env) :: starEach es X.env := by rfl) (h5 : ((backTo cpos (starEach es X.env)).any fun x => x.fst) = false := by rfl)
    {W : WX} (tk : Takes X W) : DE X E (.Call (.Attribute o "index" apos) (e :: es) [] cpos) (tBMS K "str" (rIndexX W) to t) (dIndex dob d) := by
  subst hK
  refine ⟨pe_bmS PySem.F.plainAttrs_str PySem.F.slot_str_index PySem.F.type_str_index (mt_indexX hc tk) ho.pe ha.pe h1 h2 h3 h4 h5, ⟨fun {σ H δ μ Q Q' E'} hh x d q => ho.sn.go hh x d fun v y H1 μ1 t1 r1 d1 => ?_⟩⟩
  obtain ⟨d1, d2⟩ := d1
  obtain ⟨z, rfl⟩ := isS_inv r1 d1
  refine ⟨rfl, ha.sn.go (hh.go t1) (x.go t1) d2 fun vs xs H2 μ2 t2 r2 d2 => ?_⟩
  obtain ⟨l, rfl, d3⟩ := toS_inv d2
  obtain ⟨y, rfl, d4⟩ := one_inv d3
  obtain ⟨m, rfl, d5⟩ := toS_inv d4
  obtain ⟨w, rfl, rw1⟩ := r2.inv1
  match m, d5, rw1 with
  | [c], d5, rw1 =>
    refine ⟨_, _, r1.str_inv, by rw [rw1.str_inv], fun k hk => ?_, fun hn => ?_⟩
    · rw [index_one d5.1] at hk
      cases hk
      exact q _ _ _ _ (t1.trans t2) (.int _) d5.2
    · rw [index_one d5.1] at hn
      cases hn
/-! methods of lists that are cells -/
def isC (μ : Mu) (d : D) : Prop := match d with | .ref p => (match μ p with | some (.lst _) => True | _ => False) | _ => False
def dBM (g : GM) (a : DTE) (b : DTA) : DTE := fun E δ μ Q => a E δ μ fun x μ1 => isC μ1 x ∧ b E δ μ1 fun xs μ2 => g x xs μ2 Q
def dBM0 (g : GM) (a : DTE) : DTE := fun E δ μ Q => a E δ μ fun x μ1 => isC μ1 x ∧ g x [] μ1 Q
theorem isC_inv {K : PySem.W.Frag} {H : Hp} {μ : Mu} {v : V} {x : D} (c : Cells K H μ) (r : Rep K H μ v x) (h : isC μ x) : tyV K "list" v H := by
  cases x with
  | ref p =>
    rw [r.ref_inv]
    cases e : μ p with
    | none => simp only [isC, e] at h
    | some z =>
      simp only [isC, e] at h
      cases z with
      | lst xs =>
        have q := (c p _ e).1
        cases q with | lst g _ => exact .inl ⟨rfl, _, SqL.of g⟩
      | _ => exact h.elim
  | _ => exact h.elim
/-- a cell's list -/
def cel (μ : Mu) (d : D) (k : Addr → List D → Prop) : Prop := match d with | .ref p => (match μ p with | some (.lst xs) => k p xs | _ => False) | _ => False
theorem cel_inv {K : PySem.W.Frag} {H : Hp} {μ : Mu} {v : V} {x : D} {k : Addr → List D → Prop} (c : Cells K H μ) (r : Rep K H μ v x) (h : cel μ x k) : ∃ p vs xs, v = .ref p ∧ x = .ref p ∧ μ p = some (.lst xs) ∧ H p = some (.lst vs) ∧ Reps K H μ vs xs ∧ k p xs := by
  cases x with
  | ref p =>
    rw [r.ref_inv]
    cases e : μ p with
    | none => simp only [cel, e] at h
    | some z =>
      cases z with
      | lst xs =>
        simp only [cel, e] at h
        have q := (c p _ e).1
        cases q with | lst g rr => exact ⟨p, _, xs, rfl, rfl, e, g, rr, h⟩
      | _ => simp only [cel, e] at h
  | _ => exact h.elim
theorem then_lst {K : PySem.W.Frag} {H : Hp} {μ : Mu} {p : Addr} {vs ws : List V} {xs ys : List D} (c : Cells K H μ) (m : μ p = some (.lst xs)) (h : H p = some (.lst vs)) (r : Reps K H μ ws ys) : Then K H μ (upd H p (.lst ws)) (mup μ p (.lst ys)) :=
  .put c h (fun _ z => by cases z) m (.lst upd_same (r.grow (.put h (fun _ z => by cases z) m)))
structure DMl (X : Cx) (id : String) (r : V → List V → Hp → VK → Prop) (g : GM) : Prop where
  op : MtR X id r
  sn : ∀ {v x vs xs H μ Q Q'}, Cells X.K H μ → Rep X.K H μ v x → Reps X.K H μ vs xs → g x xs μ Q' → QR X.K H μ Q Q' → r v vs H Q
def gAppend : GM := fun x ys μ Q => one ys fun y => cel μ x fun p xs => xs.length < 16777216 ∧ Q .non (mup μ p (.lst (xs ++ [y])))
def gExtend : GM := fun x ys μ Q => one ys fun y => cel μ x fun p xs => (rd μ y).toL fun zs => xs.length + zs.length ≤ 16777216 ∧ Q .non (mup μ p (.lst (xs ++ zs)))
def gClear : GM := fun x ys μ Q => ys = [] ∧ cel μ x fun p _ => Q .non (mup μ p (.lst []))
def gPop : GM := fun x ys μ Q => ys = [] ∧ cel μ x fun p xs => match xs[xs.length - 1]? with | some y => Q y (mup μ p (.lst xs.dropLast)) | none => False
end
end Dl

set_option Elab.async false
set_option linter.all false
set_option maxRecDepth 100000
namespace Dl
open PySem PySem.Spec PyProof.Rows L2
section
variable {X : Cx} {E : XK} {a b e o : Expr} {es : List Expr} {ta tb te to : TE} {t : TA} {da db de dob : DTE} {d : DTA} {pos apos cpos p : Pos} {x : Str}
theorem m_append : DMl X "list.append" rAppend gAppend := ⟨mt_append, fun {v x vs xs H μ Q Q'} c r rs d q => by
  obtain ⟨y, rfl, d1⟩ := one_inv d
  obtain ⟨w, rfl, rw1⟩ := rs.inv1
  obtain ⟨p, us, xs, rfl, rfl, hm, hp, rp, hl, d2⟩ := cel_inv c r d1
  exact ⟨p, us, w, rfl, rfl, hp, by rw [rp.length, sizeLine_eq]; exact hl, q _ _ _ _ (then_lst c hm hp (rp.append (.one rw1))) .non d2⟩⟩
theorem m_extend : DMl X "list.extend" rExtend gExtend := ⟨mt_extend, fun {v x vs xs H μ Q Q'} c r rs d q => by
  obtain ⟨y, rfl, d1⟩ := one_inv d
  obtain ⟨w, rfl, rw1⟩ := rs.inv1
  obtain ⟨p, us, xs, rfl, rfl, hm, hp, rp, d2⟩ := cel_inv c r d1
  obtain ⟨zs, e, hl, d3⟩ := toL_inv d2
  obtain ⟨b, ws, rfl, hb, rb⟩ := rd_lst c rw1 e
  exact ⟨p, b, us, ws, rfl, rfl, hp, hb, by rw [rp.length, rb.length, sizeLine_eq]; exact hl, q _ _ _ _ (then_lst c hm hp (rp.append rb)) .non d3⟩⟩
theorem m_clear : DMl X "list.clear" rClear gClear := ⟨mt_clear, fun {v x vs xs H μ Q Q'} c r rs d q => by
  obtain ⟨rfl, d1⟩ := d
  cases rs.nil_inv
  obtain ⟨p, us, xs, rfl, rfl, hm, hp, rp, d2⟩ := cel_inv c r d1
  exact ⟨p, us, rfl, rfl, hp, q _ _ _ _ (then_lst c hm hp .nil) .non d2⟩⟩
theorem Reps.dropLast {K : PySem.W.Frag} {H : Hp} {μ : Mu} {vs : List V} {xs : List D} (r : Reps K H μ vs xs) : Reps K H μ vs.dropLast xs.dropLast := by
  rw [List.dropLast_eq_take, List.dropLast_eq_take, r.length]
  exact r.take _
theorem m_pop : DMl X "list.pop" rPop gPop := ⟨mt_pop, fun {v x vs xs H μ Q Q'} c r rs d q => by
  obtain ⟨rfl, d1⟩ := d
  cases rs.nil_inv
  obtain ⟨p, us, xs, rfl, rfl, hm, hp, rp, d2⟩ := cel_inv c r d1
  cases e : xs[xs.length - 1]? with
  | none => simp only [e] at d2
  | some y =>
    simp only [e] at d2
    obtain ⟨u, h1, h2⟩ := rp.get e
    have t := then_lst c hm hp rp.dropLast
    exact ⟨p, us, u, rfl, rfl, hp, by rw [rp.length]; exact h1, q _ _ _ _ t (h2.grow t.g) d2⟩⟩
theorem de_bm {K : PySem.W.Frag} {id : String} {name : Str} {r : V → List V → Hp → VK → Prop} {g : GM} (pa : PlainAttrs "list") (slot : Slot "list" name id) (hty : typeOf (.builtin id) = pure (.type "method_descriptor")) (m : DMl X id r g) (ho : DE X E o to dob) (ha : DA X E (e :: es) t d)
    (hbase : attributeBase o name X.env (eval o X.env) = eval o X.env := by rfl)
    (hfew : ((backTo cpos (starEach (e :: es) X.env)).all (fun x => !x.1) && (backToKw cpos (keywordEach [] X.env)).all (fun x => x.1.isSome)
      && decide ((e :: es).length + ([] : List Keyword).length + (if ([] : List Keyword).isEmpty then 0 else 1) < 30)) = true := by rfl)
    (hline : (apos.endLine == cpos.line) = true := by rfl) (hs : starEach (e :: es) X.env = (false, eval e X.env) :: starEach es X.env := by rfl) (hplain : (backTo cpos (starEach es X.env)).any (·.1) = false := by rfl) (hK : X.K = K := by rfl) :
    DE X E (.Call (.Attribute o name apos) (e :: es) [] cpos) (tBM K "list" r to t) (dBM g dob d) := by
 subst hK
 exact ⟨pe_bm pa slot hty m.op ho.pe ha.pe hbase hfew hline hs hplain, ⟨fun {σ H δ μ Q Q' E'} hh x d q => ho.sn.go hh x d fun v y H1 μ1 t1 r1 d1 => ⟨isC_inv t1.cells r1 d1.1, ha.sn.go (hh.go t1) (x.go t1) d1.2 fun vs xs H2 μ2 t2 r2 d2 => m.sn t2.cells (r1.grow t2.g) r2 d2 ((q.go t1).go t2)⟩⟩⟩
theorem de_bm0 {K : PySem.W.Frag} {id : String} {name : Str} {r : V → List V → Hp → VK → Prop} {g : GM} (pa : PlainAttrs "list") (slot : Slot "list" name id) (hty : typeOf (.builtin id) = pure (.type "method_descriptor")) (m : DMl X id r g) (ho : DE X E o to dob)
    (hbase : attributeBase o name X.env (eval o X.env) = eval o X.env := by rfl) (hline : (apos.endLine == cpos.line) = true := by rfl) (hK : X.K = K := by rfl) : DE X E (.Call (.Attribute o name apos) [] [] cpos) (tBM0 K "list" r to) (dBM0 g dob) := by
 subst hK
 exact ⟨pe_bm0 pa slot hty m.op ho.pe hbase hline, ⟨fun {σ H δ μ Q Q' E'} hh x d q => ho.sn.go hh x d fun v y H1 μ1 t1 r1 d1 => ⟨isC_inv t1.cells r1 d1.1, m.sn t1.cells r1 .nil d1.2 (q.go t1)⟩⟩⟩
end
/-! ### attributes -/
/-- an instance's fields, by the class and the fields' names -/
def fld (C : Addr) (ks : List Str) (i : Nat) (d : D) (k : D → Prop) : Prop := match d with | .ins C' ks' xs => C' = C ∧ ks' = ks ∧ (match xs[i]? with | some y => k y | none => False) | _ => False
def dFld (C : Addr) (ks : List Str) (i : Nat) (a : DTE) : DTE := fun E δ μ Q => a E δ μ fun x μ1 => fld C ks i (rd μ1 x) fun y => Q y μ1
theorem lookup_at : ∀ {fs : List (Str × V)} {f : Str} {i : Nat} {v : V}, (fs.map (·.1))[i]? = some f → (fs.map (·.2))[i]? = some v → f ∉ (fs.map (·.1)).take i → fs.lookup f = some v
  | (g, w) :: fs, f, 0, v, h1, h2, h3 => by
    simp at h1 h2
    subst h1; subst h2
    simp [List.lookup]
  | (g, w) :: fs, f, i + 1, v, h1, h2, h3 => by
    simp at h1 h2 h3
    have hb : (f == g) = false := beq_eq_false_iff_ne.mpr h3.1
    rw [List.lookup, hb]
    exact lookup_at (i := i) (by simpa using h1) (by simpa using h2) (by simpa using h3.2)
  | [], f, i, v, h1, h2, h3 => by simp at h1
theorem fld_inv {C : Addr} {ks : List Str} {i : Nat} {d : D} {k : D → Prop} (h : fld C ks i d k) : ∃ xs y, d = .ins C ks xs ∧ xs[i]? = some y ∧ k y := by
  cases d with
  | ins C' ks' xs =>
    obtain ⟨rfl, rfl, h⟩ := h
    cases e : xs[i]? with
    | none => simp only [e] at h
    | some y => simp only [e] at h; exact ⟨xs, y, rfl, e, h⟩
  | _ => exact h.elim
section
variable {X : Cx} {E : XK} {a e o : Expr} {ta te to : TE} {da de dob : DTE} {pos pos' : Pos} {f : Str}
theorem de_fld {K : PySem.W.Frag} {C : Addr} {ks : List Str} {i : Nat} (hK : X.K = K) (c : Cls K C) (n : NoAttr K C f) (hi : ks[i]? = some f) (hn : f ∉ ks.take i) (h : DE X E a ta da) (hb : attributeBase a f X.env (eval a X.env) = eval a X.env) :
    DE X E (.Attribute a f pos) (tFld K ta f) (dFld C ks i da) := by
  subst hK
  refine ⟨pe_fld h.pe hb, ⟨fun {σ H δ μ Q Q' E'} hh x d q => h.sn.go hh x d fun v y H1 μ1 t1 r1 d1 => ?_⟩⟩
  obtain ⟨xs, z, e1, e2, d2⟩ := fld_inv d1
  obtain ⟨p, dx, fs, rfl, hp, hk, rr⟩ := rd_ins t1.cells r1 e1
  obtain ⟨u, h1, h2⟩ := rr.get e2
  subst hk
  exact ⟨p, C, dx, fs, u, rfl, hp, c, n, lookup_at hi h1 hn, q _ _ _ _ t1 h2 d2⟩
/-- self.f = e: a new field, the last one -/
def sNew (C : Addr) (ks : List Str) (f : Str) (a v : DTE) : DTS := fun E D δ μ => v E δ μ fun y μ1 => a E δ μ1 fun x μ2 => match x with
  | .ref p => (match μ2 p with | some (.ins C' ks' xs) => C' = C ∧ ks' = ks ∧ D.nx δ (mup μ2 p (.ins C (ks ++ [f]) (xs ++ [y]))) | _ => False) | _ => False
theorem putF_new : ∀ {fs : List (Str × V)} {f : Str} {v : V}, f ∉ fs.map (·.1) → putF f v fs = fs ++ [(f, v)]
  | [], _, _, _ => rfl
  | (g, w) :: fs, f, v, h => by
    simp at h
    rw [putF, if_neg (fun e => h.1 e.symm), putF_new (by simpa using h.2)]
    rfl
/-- self.f = e: a field that is there -/
def sOld (C : Addr) (ks : List Str) (i : Nat) (a v : DTE) : DTS := fun E D δ μ => v E δ μ fun y μ1 => a E δ μ1 fun x μ2 => match x with
  | .ref p => (match μ2 p with | some (.ins C' ks' xs) => C' = C ∧ ks' = ks ∧ D.nx δ (mup μ2 p (.ins C ks (xs.set i y))) | _ => False) | _ => False
theorem putF_old : ∀ {fs : List (Str × V)} {f : Str} {v : V} {i : Nat}, (fs.map (·.1))[i]? = some f → f ∉ (fs.map (·.1)).take i → (putF f v fs).map (·.1) = fs.map (·.1) ∧ (putF f v fs).map (·.2) = (fs.map (·.2)).set i v ∧ (putF f v fs).length = fs.length
  | (g, w) :: fs, f, v, 0, h1, h2 => by
    simp at h1
    subst h1
    rw [putF, if_pos rfl]
    exact ⟨rfl, rfl, rfl⟩
  | (g, w) :: fs, f, v, i + 1, h1, h2 => by
    simp at h1 h2
    obtain ⟨a, b, c⟩ := putF_old (v := v) (i := i) (fs := fs) (f := f) (by simpa using h1) (by simpa using h2.2)
    rw [putF, if_neg (fun e => h2.1 e.symm)]
    exact ⟨by rw [List.map_cons, a]; rfl, by rw [List.map_cons, b]; rfl, by rw [List.length_cons, c]; rfl⟩
  | [], f, v, i, h1, h2 => by simp at h1
theorem con_ins {K : PySem.W.Frag} {H : Hp} {μ : Mu} {p C dx : Addr} {fs : List (Str × V)} {ks : List Str} {xs : List D} (h : H p = some (.ins C dx fs)) (e : ks = fs.map (·.1)) (r : Reps K H μ (fs.map (·.2)) xs) : Con K H μ p (.ins C ks xs) := by
  subst e
  exact .ins h r
theorem ds_new {K : PySem.W.Frag} {C : Addr} {ks : List Str} (hK : X.K = K) (c : Cls K C) (n : NoAttr K C f) (hn : f ∉ ks) (hl : ks.length < 900) (ha : DE X E o to dob) (hv : DE X E e te de) (hs : swapsWith e (some (.Attribute o f pos')) pos.line X.env = pure false) :
    DS X E (.Assign [.Attribute o f pos'] e pos) (sFld K to te f) (sNew C ks f dob de) := by
  subst hK
  refine ⟨ps_fld ha.pe hv.pe hs, ⟨fun {σ H δ μ D D' E'} hh x d q => hv.sn.go hh x d fun v y H1 μ1 t1 r1 d1 => ha.sn.go (hh.go t1) (x.go t1) d1 fun u z H2 μ2 t2 r2 d2 => ?_⟩⟩
  cases z with
  | ref p =>
    cases em : μ2 p with
    | none => simp only [em] at d2
    | some w =>
      cases w with
      | ins C' ks' xs =>
        simp only [em] at d2
        obtain ⟨rfl, rfl, d3⟩ := d2
        have q2 := (t2.cells p _ em).1
        cases q2 with | @ins _ _ dx fs xs g rr =>
        refine ⟨p, C', dx, fs, r2.ref_inv, g, c, n, by have : (fs.map (·.1)).length < 900 := hl; rw [List.length_map] at this; omega, ?_⟩
        have t3 : Then X.K H2 μ2 (upd H2 p (.ins C' dx (putF f v fs))) (mup μ2 p (.ins C' (fs.map (·.1) ++ [f]) (xs ++ [y]))) := by
          refine .put t2.cells g (fun _ z => by cases z) em ?_
          have gg : Grow H2 μ2 (upd H2 p (.ins C' dx (putF f v fs))) (mup μ2 p (.ins C' (fs.map (·.1) ++ [f]) (xs ++ [y]))) := .put g (fun _ z => by cases z) em
          rw [putF_new hn] at gg ⊢
          exact con_ins upd_same (by rw [List.map_append]; rfl) (by rw [List.map_append]; exact (rr.grow gg).append (.one ((r1.grow t2.g).grow gg)))
        exact q.nx _ _ _ _ ((t1.trans t2).trans t3) ((hh.slots.grow (t1.trans t2).g).grow t3.g) d3
      | _ => simp only [em] at d2
  | _ => exact d2.elim
theorem ds_old {K : PySem.W.Frag} {C : Addr} {ks : List Str} {i : Nat} (hK : X.K = K) (c : Cls K C) (n : NoAttr K C f) (hi : ks[i]? = some f) (hn : f ∉ ks.take i) (hl : ks.length < 900) (ha : DE X E o to dob) (hv : DE X E e te de) (hs : swapsWith e (some (.Attribute o f pos')) pos.line X.env = pure false) :
    DS X E (.Assign [.Attribute o f pos'] e pos) (sFld K to te f) (sOld C ks i dob de) := by
  subst hK
  refine ⟨ps_fld ha.pe hv.pe hs, ⟨fun {σ H δ μ D D' E'} hh x d q => hv.sn.go hh x d fun v y H1 μ1 t1 r1 d1 => ha.sn.go (hh.go t1) (x.go t1) d1 fun u z H2 μ2 t2 r2 d2 => ?_⟩⟩
  cases z with
  | ref p =>
    cases em : μ2 p with
    | none => simp only [em] at d2
    | some w =>
      cases w with
      | ins C' ks' xs =>
        simp only [em] at d2
        obtain ⟨rfl, rfl, d3⟩ := d2
        have q2 := (t2.cells p _ em).1
        cases q2 with | @ins _ _ dx fs xs g rr =>
        refine ⟨p, C', dx, fs, r2.ref_inv, g, c, n, by have : (fs.map (·.1)).length < 900 := hl; rw [List.length_map] at this; omega, ?_⟩
        obtain ⟨k1, k2, k3⟩ := putF_old (v := v) hi hn
        have t3 : Then X.K H2 μ2 (upd H2 p (.ins C' dx (putF f v fs))) (mup μ2 p (.ins C' (fs.map (·.1)) (xs.set i y))) := by
          refine .put t2.cells g (fun _ z => by cases z) em ?_
          have gg : Grow H2 μ2 (upd H2 p (.ins C' dx (putF f v fs))) (mup μ2 p (.ins C' (fs.map (·.1)) (xs.set i y))) := .put g (fun _ z => by cases z) em
          exact con_ins upd_same k1.symm (by rw [k2]; exact (rr.grow gg).set ((r1.grow t2.g).grow gg) i)
        exact q.nx _ _ _ _ ((t1.trans t2).trans t3) ((hh.slots.grow (t1.trans t2).g).grow t3.g) d3
      | _ => simp only [em] at d2
  | _ => exact d2.elim
end
/-! ### statements -/
def sNext : DTS := fun _ D δ μ => D.nx δ μ
def sSeq (t u : DTS) : DTS := fun E D δ μ => t E { D with nx := u E D } δ μ
def sBreak : DTS := fun _ D δ μ => D.bk δ μ
def sCont : DTS := fun _ D δ μ => D.ct δ μ
def sDrop (a : DTE) : DTS := fun E D δ μ => a E δ μ fun _ μ1 => D.nx δ μ1
def sRet (a : DTE) : DTS := fun E D δ μ => a E δ μ D.rt
def sRetN : DTS := fun _ D _ μ => D.rt .non μ
def sIf (c : DTT) (t u : DTS) : DTS := fun E D δ μ => c E δ μ fun b μ1 => bif b then t E D δ μ1 else u E D δ μ1
def sNever : DTS := fun _ _ _ _ => False
section
variable {X : Cx} {E : XK} {st : Stmt} {rest : List Stmt} {e : Expr} {t u : TS} {te : TE} {d1 d2 : DTS} {de : DTE} {pos : Pos}
theorem dss_nil : DSs X E [] tNext sNext := ⟨pss_nil, ⟨fun hh x d q => q.nx _ _ _ _ hh.refl hh.slots d⟩⟩
theorem ss_seq {K : PySem.W.Frag} (h1 : SS K E t d1) (h2 : SS K E u d2) : SS K E (tSeq t u) (sSeq d1 d2) := ⟨fun {σ H δ μ D D' E'} hh x d q => h1.go (D := { D with nx := u D }) (D' := { D' with nx := d2 E' D' }) hh x d
  ⟨fun σ1 δ1 H1 μ1 t1 s1 q1 => h2.go ⟨t1.cells, s1⟩ (x.go t1) q1 (q.go t1), q.rt, q.bk, q.ct⟩⟩
theorem dss_cons (h1 : DS X E st t d1) (h2 : DSs X E rest u d2) : DSs X E (st :: rest) (tSeq t u) (sSeq d1 d2) := ⟨pss_cons h1.pe h2.pe, ss_seq h1.sn h2.sn⟩
theorem dss_one (h1 : DS X E st t d1) : DSs X E [st] t d1 := ⟨pss_one h1.pe, h1.sn⟩
theorem ds_pass : DS X E (.Pass pos) tNext sNext := ⟨ps_pass, ⟨fun hh x d q => q.nx _ _ _ _ hh.refl hh.slots d⟩⟩
theorem ds_break : DS X E (.Break pos) tBreak sBreak := ⟨ps_break, ⟨fun hh x d q => q.bk _ _ _ _ hh.refl hh.slots d⟩⟩
theorem ds_continue : DS X E (.Continue pos) tCont sCont := ⟨ps_continue, ⟨fun hh x d q => q.ct _ _ _ _ hh.refl hh.slots d⟩⟩
theorem ds_expr (h : DE X E e te de) (hs : swapsWith e none pos.line X.env = pure false := by rfl) : DS X E (.Expr e pos) (tDrop te) (sDrop de) := ⟨ps_expr h.pe hs, ⟨fun {σ H δ μ D D' E'} hh x d q => h.sn.go hh x d fun v y H1 μ1 t1 r1 d1 => q.nx _ _ _ _ t1 (hh.slots.grow t1.g) d1⟩⟩
theorem ds_ret (h : DE X E e te de) : DS X E (.Return (some e) pos) (tRet te) (sRet de) := ⟨ps_ret h.pe, ⟨fun {σ H δ μ D D' E'} hh x d q => h.sn.go hh x d q.rt⟩⟩
theorem ds_retN : DS X E (.Return none pos) tRetN sRetN := ⟨ps_retN, ⟨fun {σ H δ μ D D' E'} hh x d q => q.rt _ _ _ _ hh.refl .non d⟩⟩
theorem ds_if {c : Expr} {a b : List Stmt} {tc : TT} {dc : DTT} (hc : DT X E c tc dc) (ha : DSs X E a t d1) (hb : DSs X E b u d2) : DS X E (.If c a b pos) (tIfS tc t u) (sIf dc d1 d2) :=
  ⟨ps_if hc.pe ha.pe hb.pe, ⟨fun {σ H δ μ D D' E'} hh x d q => hc.sn.go hh x d fun k H1 μ1 t1 q1 => by
    cases k with
    | true => rw [if_pos rfl]; exact ha.sn.go (hh.go t1) (x.go t1) q1 (q.go t1)
    | false => rw [if_neg Bool.false_ne_true]; exact hb.sn.go (hh.go t1) (x.go t1) q1 (q.go t1)⟩⟩
theorem ds_never : DS X E st tNever sNever := ⟨ps_never, ⟨fun _ _ d _ => d.elim⟩⟩
theorem dss_never {sts : List Stmt} : DSs X E sts tNever sNever := ⟨pss_never, ⟨fun _ _ d _ => d.elim⟩⟩
end
/-! a cut: behind an if, what both ways come to is said -/
def sCut (t u : DTS) : DTS := fun E D δ μ => ∃ W : Sl → Mu → Prop, t E { D with nx := W } δ μ ∧ ∀ δ' μ', W δ' μ' → u E D δ' μ'
/-! a slot's cell is shut -/
def sFz (i : Nat) (u : DTS) : DTS := fun E D δ μ => match δ[i]? with | some (some (.ref p)) => (match μ p with | some y => u E D (δ.set i (some y)) (era μ p) | none => False) | _ => False
/-! ### targets -/
def gName (i : Nat) : DTG := fun v δ μ Q => Q (δ.set i (some v)) μ
def gNil : DTGs := fun vs δ μ Q => vs = [] ∧ Q δ μ
def gCons (t : DTG) (u : DTGs) : DTGs := fun vs δ μ Q => match vs with | v :: r => t v δ μ fun δ' μ' => u r δ' μ' Q | [] => False
def gTup (t : DTGs) : DTG := fun v δ μ Q => match v with | .tup xs => t xs δ μ Q | _ => False
def sAsg (a : DTE) (g : DTG) : DTS := fun E D δ μ => a E δ μ fun x μ1 => g x δ μ1 D.nx
def gSet : D → D → D → Mu → (Mu → Prop) → Prop := fun o i v μ Q => cel μ o fun p xs => i.toI fun k => match ixN xs.length k with | some j => Q (mup μ p (.lst (xs.set j v))) | none => False
def gSub (o i : DTE) (g : D → D → D → Mu → (Mu → Prop) → Prop) : DX → DTG := fun E v δ μ Q => o E δ μ fun x μ1 => i E δ μ1 fun y μ2 => g x y v μ2 fun μ3 => Q δ μ3
end Dl

set_option Elab.async false
set_option linter.all false
set_option maxRecDepth 100000
namespace Dl
open PySem PySem.Spec PyProof.Rows L2
def noX : DX := fun _ _ _ _ => False
theorem xr_no {K : PySem.W.Frag} {H : Hp} {μ : Mu} {E : XK} : XR K H μ E noX := fun _ _ _ _ _ _ _ _ _ _ h => h.elim
def gSub' (o i : DTE) (g : D → D → D → Mu → (Mu → Prop) → Prop) : DTG := fun v δ μ Q => o noX δ μ fun x μ1 => i noX δ μ1 fun y μ2 => g x y v μ2 fun μ3 => Q δ μ3
section
variable {X : Cx} {E : XK} {e o i : Expr} {es : List Expr} {te to ti : TE} {de dob di : DTE} {g : TG} {dg : DTG} {gs : TGs} {dgs : DTGs} {pos pos' : Pos} {x : Str}
theorem sg_name {K : PySem.W.Frag} {n : Nat} : SG K (L2.gName n) (gName n) := ⟨fun hh r d q => q _ _ _ _ hh.refl (hh.slots.set r) d⟩
theorem dg_name {n : Nat} (hN : X.N.Nodup) (hi : X.N[n]? = some x) (hx : Loc X.env.scope x) (hf : X.fn x = true ∨ X.env.scope.names.lookup x = some .local := by first | exact .inl rfl | exact .inr rfl | assumption) : DG X (.Name x pos) (L2.gName n) (gName n) := ⟨pg_name hN hi hx hf, sg_name⟩
theorem dgs_nil : DGs X [] L2.gNil gNil := ⟨pgs_nil, ⟨fun {v x σ H δ μ Q Q'} hh r d q => by
  obtain ⟨rfl, d⟩ := d
  exact ⟨r.nil_inv, q _ _ _ _ hh.refl hh.slots d⟩⟩⟩
theorem dgs_cons (h1 : DG X e g dg) (h2 : DGs X es gs dgs) (hs : (assignEach (e :: es) X.env).map (·.2) = assign e X.env :: (assignEach es X.env).map (·.2) := by rfl) : DGs X (e :: es) (L2.gCons g gs) (gCons dg dgs) :=
  ⟨pgs_cons h1.pe h2.pe hs, ⟨fun {v x σ H δ μ Q Q'} hh r d q => by
    cases x with
    | nil => exact d.elim
    | cons y ys =>
      obtain ⟨w, r0, rfl, r1, r2⟩ := r.cons_inv
      exact ⟨w, r0, rfl, h1.sn.go hh r1 d fun σ' δ' H' μ' t1 s1 d1 => h2.sn.go ⟨t1.cells, s1⟩ (r2.grow t1.g) d1 (q.go t1)⟩⟩⟩
theorem dg_tup {k n : Nat} {K : PySem.W.Frag} (hK : X.K = K) (hc : X.calm = true) (h : DGs X es gs dgs) (hn : (assignEach es X.env).length = n := by rfl) (hst : (assignEach es X.env).findIdx? (·.1) = none := by rfl) :
    DG X (.Tuple es k pos) (L2.gTup K n gs) (fun v δ μ Q => match v with | .tup xs => xs.length = n ∧ dgs xs δ μ Q | _ => False) := by
  subst hK
  refine ⟨pg_tup hc h.pe hn hst, ⟨fun {v x σ H δ μ Q Q'} hh r d q => ?_⟩⟩
  cases x with
  | tup xs =>
    obtain ⟨a, vs, rfl, ha, ra⟩ := r.tup_inv
    exact ⟨a, vs, rfl, ha, by rw [ra.length]; exact d.1, h.sn.go hh ra d.2 q⟩
  | _ => exact d.elim
theorem ss_asg {K : PySem.W.Frag} (he : SE K E te de) (hg : SG K g dg) : SS K E (tAsg te g) (sAsg de dg) := ⟨fun {σ H δ μ D D' E'} hh x d q => he.go hh x d fun v y H1 μ1 t1 r1 d1 => hg.go (hh.go t1) r1 d1 (q.nx.go t1)⟩
theorem ds_asg {tg : Expr} (he : DE X E e te de) (hg : DG X tg g dg) (hs : swapsWithSole [tg] e pos.line X.env = pure false := by rfl) (hw : swappedStores [tg] e X.env = pure none := by rfl)
    (h1 : (assignEach [tg] X.env).map (·.2) = [assign tg X.env] := by rfl) : DS X E (.Assign [tg] e pos) (tAsg te g) (sAsg de dg) := ⟨ps_asg he.pe hg.pe hs hw h1, ss_asg he.sn hg.sn⟩
theorem ds_set {n : Nat} (hN : X.N.Nodup) (hi : X.N[n]? = some x) (hx : Loc X.env.scope x) (he : DE X E e te de) (hs : swapsWith e (some (.Name x pos')) pos.line X.env = pure false := by rfl) (hf : X.fn x = true ∨ X.env.scope.names.lookup x = some .local := by first | exact .inl rfl | exact .inr rfl | assumption) :
    DS X E (.Assign [.Name x pos'] e pos) (tAsg te (L2.gName n)) (sAsg de (gName n)) := ⟨ps_set hN hi hx he.pe hs hf, ss_asg he.sn sg_name⟩
/-- o[i] = .. on a cell's list -/
theorem dg_sub (ho : DE X E o to dob) (hi : DE X E i ti di)
    (ha : ∀ v, assign (.Subscript o i pos) X.env v = (do
      let ov ← holding [v] (eval o X.env)
      let iv ← holding [v, ov] (eval i X.env)
      standAt pos
      holding [v, ov, iv] (setItem ov iv v)
      release [v, ov, iv] []) := by intro _; rfl) : DG X (.Subscript o i pos) (L2.gSub to ti rSetL) (gSub' dob di gSet) := by
  refine ⟨pg_sub ho.pe hi.pe set_list ha, ⟨fun {v x σ H δ μ Q Q'} hh r d q => ho.sn.go hh xr_no d fun u y H1 μ1 t1 r1 d1 => hi.sn.go (hh.go t1) xr_no d1 fun w z H2 μ2 t2 r2 d2 => ?_⟩⟩
  obtain ⟨p, us, xs, rfl, rfl, hm, hp, rp, d3⟩ := cel_inv t2.cells (r1.grow t2.g) d2
  obtain ⟨k, rfl, d4⟩ := toI_inv d3
  cases e : ixN xs.length k with
  | none => simp only [e] at d4
  | some j =>
    simp only [e] at d4
    have t3 := then_lst t2.cells hm hp (rp.set ((r.grow t1.g).grow t2.g) j)
    exact ⟨p, us, k, j, rfl, r2.int_inv, hp, by rw [rp.length]; exact e, q _ _ _ _ ((t1.trans t2).trans t3) ((hh.slots.grow (t1.trans t2).g).grow t3.g) d4⟩
/-- a, b = x, y -/
def sPar (i j : Nat) (a : DTA) : DTS := fun E D δ μ => a E δ μ fun vs μ1 => match vs with | [v, w] => D.nx ((δ.set i (some v)).set j (some w)) μ1 | _ => False
theorem ds_par {n m : Nat} {x y : Str} {a b : Expr} {ta : TA} {da : DTA} {px py pt : Pos} {kt k2 pt2} (hc : X.calm = true) (hN : X.N.Nodup) (hi : X.N[n]? = some x) (hj : X.N[m]? = some y) (hij : n ≠ m)
    (hx : X.env.scope.names.lookup x = some .local) (hy : X.env.scope.names.lookup y = some .local) (ha : DA X E [a, b] ta da)
    (hw : swappedStores [.Tuple [.Name x px, .Name y py] kt pt] (.Tuple [a, b] k2 pt2) X.env = pure (some [x, y]))
    (hs : swapsWithSole [.Tuple [.Name x px, .Name y py] kt pt] (.Tuple [a, b] k2 pt2) pos.line X.env = pure false := by rfl) :
    DS X E (.Assign [.Tuple [.Name x px, .Name y py] kt pt] (.Tuple [a, b] k2 pt2) pos) (tPar n m ta) (sPar n m da) :=
  ⟨ps_par hc hN hi hj hij hx hy ha.pe hw hs, ⟨fun {σ H δ μ D D' E'} hh x d q => ha.sn.go hh x d fun vs xs H1 μ1 t1 r1 d1 => by
    match xs, r1, d1 with
    | [v, w], r1, d1 =>
      obtain ⟨v1, w1, rfl, rv, rw1⟩ := r1.inv2
      exact ⟨v1, w1, rfl, q.nx _ _ _ _ t1 (((hh.slots.grow t1.g).set rv).set rw1) d1⟩⟩⟩
/-- name op= e, ints -/
def sAug (n : Nat) (a : DTE) (f : Int → Int → Int) : DTS := fun E D δ μ => match δ[n]? with | some (some v) => a E δ μ fun y μ1 => v.toI fun i => y.toI fun j => D.nx (δ.set n (some (.int (f i j)))) μ1 | _ => False
theorem ds_aug {n : Nat} {op : Operator} {f : Int → Int → Int} (hN : X.N.Nodup) (hi : X.N[n]? = some x) (hx : Loc X.env.scope x) (he : DE X E e te de) (ho : PIp X op (ipI f)) (hf : X.fn x = true ∨ X.env.scope.names.lookup x = some .local := by first | exact .inl rfl | exact .inr rfl | assumption) :
    DS X E (.AugAssign (.Name x pos') op e pos) (tAug n te (ipI f)) (sAug n de f) :=
  ⟨ps_aug hN hi hx he.pe ho hf, ⟨fun {σ H δ μ D D' E'} hh x d q => by
    cases e1 : δ[n]? with
    | none => simp only [sAug, e1] at d
    | some v0 =>
      cases v0 with
      | none => simp only [sAug, e1] at d
      | some v =>
        simp only [sAug, e1] at d
        obtain ⟨u, h1, r⟩ := hh.slots.2 n v e1
        refine ⟨u, h1, he.sn.go hh x d fun w y H1 μ1 t1 r1 d1 => ?_⟩
        obtain ⟨i, rfl, d2⟩ := toI_inv d1
        obtain ⟨j, rfl, d3⟩ := toI_inv (d := y) d2
        exact ⟨i, j, (r.grow t1.g).int_inv, r1.int_inv, q.nx _ _ _ _ t1 ((hh.slots.grow t1.g).set (.int _)) d3⟩⟩⟩
/-- name //= e by a positive int -/
def sAugD (n : Nat) (a : DTE) : DTS := fun E D δ μ => match δ[n]? with | some (some v) => a E δ μ fun y μ1 => v.toI fun i => y.toI fun j => CDiv i j ∧ D.nx (δ.set n (some (.int (i / j)))) μ1 | _ => False
end
section
variable {X : Cx} {E : XK} {rest : List Stmt} {st : Stmt} {t u : TS} {d1 d2 : DTS}
theorem dss_cut (h1 : DS X E st t d1) (h2 : DSs X E rest u d2) : DSs X E (st :: rest) (tSeq t u) (sCut d1 d2) :=
  ⟨pss_cons h1.pe h2.pe, ⟨fun {σ H δ μ D D' E'} hh x d q => by
    obtain ⟨W, q1, q2⟩ := d
    exact h1.sn.go (D := { D with nx := u D }) (D' := { D' with nx := W }) hh x q1 ⟨fun σ1 δ1 H1 μ1 t1 s1 w1 => h2.sn.go ⟨t1.cells, s1⟩ (x.go t1) (q2 _ _ w1) (q.go t1), q.rt, q.bk, q.ct⟩⟩⟩
theorem dss_fz (i : Nat) (h : DSs X E rest u d2) : DSs X E rest u (sFz i d2) :=
  ⟨h.pe, ⟨fun {σ H δ μ D D' E'} hh x d q => by
    cases e1 : δ[i]? with
    | none => simp only [sFz, e1] at d
    | some v0 =>
      cases v0 with
      | none => simp only [sFz, e1] at d
      | some v =>
        cases v with
        | ref p =>
          cases e2 : μ p with
          | none => simp only [sFz, e1, e2] at d
          | some y =>
            simp only [sFz, e1, e2] at d
            have t := Then.freeze (p := p) hh.cells
            obtain ⟨w, h1, r1⟩ := hh.slots.2 i _ e1
            have s0 := hh.slots.grow t.g
            have s1 : Slots X.K H (era μ p) σ (δ.set i (some y)) := by
              refine ⟨by rw [List.length_set]; exact s0.1, fun j z ez => ?_⟩
              by_cases hj : i = j
              · subst hj
                rw [List.getElem?_set_self (List.getElem?_eq_some_iff.mp e1).1] at ez
                cases ez
                refine ⟨w, h1, ?_⟩
                rw [r1.ref_inv]
                exact rep_freeze hh.cells e2
              · rw [List.getElem?_set_ne hj] at ez
                exact s0.2 j z ez
            exact h.sn.go ⟨t.cells, s1⟩ (x.go t) d (q.go t)
        | _ => simp only [sFz, e1] at d⟩⟩
end
/-! ### while -/
def sWhile (c : DTT) (b : DTS) : DTS := fun E D δ μ => ∃ W : Nat → Sl → Mu → Prop, (∃ m, W m δ μ) ∧ ∀ m δ μ, W m δ μ →
  c E δ μ fun k μ1 => bif k then b E { D with nx := fun δ' μ' => ∃ m', m' < m ∧ W m' δ' μ', ct := fun δ' μ' => ∃ m', m' < m ∧ W m' δ' μ', bk := D.nx } δ μ1 else D.nx δ μ1
theorem ds_while {X : Cx} {E : XK} {c : Expr} {body : List Stmt} {tc : TT} {tb : TS} {dc : DTT} {db : DTS} {pos : Pos} (hp : PassesOwn (model X.prog X.w) X.A X.env X.xe) (hc : DT X E c tc dc) (hb : DSs X E body tb db) : DS X E (.While c body [] pos) (tWhile tc tb) (sWhile dc db) :=
  ⟨ps_while hp hc.pe hb.pe, ⟨fun {σ H δ μ D D' E'} hh x d q => by
    obtain ⟨W, ⟨m0, w0⟩, turn⟩ := d
    refine ⟨fun m σ' H' => ∃ δ' μ', Then X.K H μ H' μ' ∧ Slots X.K H' μ' σ' δ' ∧ W m δ' μ', ⟨m0, δ, μ, hh.refl, hh.slots, w0⟩, ?_⟩
    rintro m σ1 H1 ⟨δ1, μ1, t1, s1, w1⟩
    refine hc.sn.go ⟨t1.cells, s1⟩ (x.go t1) (turn m δ1 μ1 w1) fun k H2 μ2 t2 d2 => ?_
    cases k with
    | false =>
      rw [if_neg Bool.false_ne_true]
      exact q.nx _ _ _ _ (t1.trans t2) (s1.grow t2.g) d2
    | true =>
      rw [if_pos rfl]
      refine ⟨fun σ' H' => ∃ m', m' < m ∧ ∃ δ' μ', Then X.K H μ H' μ' ∧ Slots X.K H' μ' σ' δ' ∧ W m' δ' μ', fun σ' H' ⟨m', hm, z⟩ => ⟨m', hm, z⟩, ?_⟩
      have again : NR X.K H2 μ2 (fun σ' H' => ∃ m', m' < m ∧ ∃ δ' μ', Then X.K H μ H' μ' ∧ Slots X.K H' μ' σ' δ' ∧ W m' δ' μ') (fun δ' μ' => ∃ m', m' < m ∧ W m' δ' μ') :=
        fun σ3 δ3 H3 μ3 t3 s3 ⟨m', hm, w3⟩ => ⟨m', hm, δ3, μ3, (t1.trans t2).trans t3, s3, w3⟩
      exact hb.sn.go ⟨t2.cells, s1.grow t2.g⟩ (x.go (t1.trans t2)) d2 ⟨again, (q.go (t1.trans t2)).rt, (q.go (t1.trans t2)).nx, again⟩⟩⟩
/-! ### what is walked -/
abbrev DTI := DX → Sl → Mu → (List D → (Mu → Prop) → Mu → Prop) → Prop
/-- C: what must stay of the cells (a cell's own list that is walked) -/
def Walks (K : PySem.W.Frag) (J : It) (xs : List D) (C : Mu → Prop) (H0 : Hp) (μ0 : Mu) : Prop := ∀ i H μ, Then K H0 μ0 H μ → C μ → (i < xs.length → J.go i H ∧ ∀ x H', J.yld i H x H' → ∃ d, xs[i]? = some d ∧ Then K H μ H' μ ∧ Rep K H' μ x d) ∧ (i = xs.length → J.stop i H)
structure SI (K : PySem.W.Frag) (E : XK) (w : TI) (d : DTI) : Prop where
  go : ∀ {σ H δ μ R R' E'}, Here K H μ σ δ → XR K H μ E E' → d E' δ μ R' → (∀ J xs C H' μ', Then K H μ H' μ' → Walks K J xs C H' μ' → R' xs C μ' → R J H') → w σ H R
structure DI (X : Cx) (E : XK) (tg e : Expr) (w : TI) (d : DTI) : Prop where
  pe : PI X tg e w
  sn : SI X.K E w d
def yes : Mu → Prop := fun _ => True
def keeps (d : D) (xs : List D) : Mu → Prop := match d with | .ref p => fun μ => μ p = some (.lst xs) | _ => yes
def iL (a : DTE) : DTI := fun E δ μ R => a E δ μ fun x μ1 => (rd μ1 x).toL fun xs => R xs (keeps x xs) μ1
def iT (a : DTE) : DTI := fun E δ μ R => a E δ μ fun x μ1 => x.toT fun xs => R xs yes μ1
def iS (a : DTE) : DTI := fun E δ μ R => a E δ μ fun x μ1 => x.toS fun l => R (l.map fun c => .str [c]) yes μ1
/-- lo, lo + 1, .. -/
def rngD (lo : Int) (n : Nat) : List D := (List.range n).map fun (i : Nat) => D.int (lo + i)
def iR1 (a : DTA) : DTI := fun E δ μ R => a E δ μ fun vs μ1 => one vs fun x => x.toI fun j => -(2 ^ 62) ≤ j ∧ j < 2 ^ 62 ∧ R (rngD 0 j.toNat) yes μ1
def iR2 (a : DTA) : DTI := fun E δ μ R => a E δ μ fun vs μ1 => two vs fun x y => x.toI fun i => y.toI fun j => (-(2 ^ 62) ≤ i ∧ i < 2 ^ 62 ∧ -(2 ^ 62) ≤ j ∧ j < 2 ^ 62) ∧ R (rngD i (j - i).toNat) yes μ1
def enumD (xs : List D) : List D := xs.zipIdx.map fun p => .tup [.int (p.2 : Nat), p.1]
def zipD (xs ys : List D) : List D := List.zipWith (fun x y => .tup [x, y]) xs ys
def iEn (a : DTA) : DTI := fun E δ μ R => a E δ μ fun vs μ1 => one vs fun x => (rd μ1 x).toL fun xs => R (enumD xs) (keeps x xs) μ1
def iEs (a : DTA) : DTI := fun E δ μ R => a E δ μ fun vs μ1 => one vs fun x => x.toS fun l => R (enumD (l.map fun c => .str [c])) yes μ1
def iZp (a : DTA) : DTI := fun E δ μ R => a E δ μ fun vs μ1 => two vs fun x y => (rd μ1 x).toL fun xs => (rd μ1 y).toL fun ys => R (zipD xs ys) (fun μ => keeps x xs μ ∧ keeps y ys μ) μ1
def iZs (a : DTA) : DTI := fun E δ μ R => a E δ μ fun vs μ1 => two vs fun x y => x.toS fun l => match y with | .str m => R (zipD (l.map fun c => .str [c]) (m.map fun c => .str [c])) yes μ1 | .lst ys => R (zipD (l.map fun c => .str [c]) ys) yes μ1 | _ => False
section
variable {X : Cx} {E : XK} {tg e : Expr} {te : TE} {t : TA} {de : DTE} {d : DTA}
/-- a list that stands while it is walked -/
theorem stands {K : PySem.W.Frag} {H : Hp} {μ : Mu} {v : V} {d : D} {xs : List D} (c : Cells K H μ) (r : Rep K H μ v d) (e : rd μ d = .lst xs) : ∃ a vs, v = .ref a ∧ H a = some (.lst vs) ∧ Reps K H μ vs xs ∧ ∀ H' μ', Then K H μ H' μ' → keeps d xs μ' → ∃ ws, H' a = some (.lst ws) ∧ Reps K H' μ' ws xs := by
  rcases rd_inv c r with h | ⟨a, hv, hd, hm, hc⟩
  · rw [h] at e; subst e
    obtain ⟨a, vs, h1, m, h2, h3⟩ := r.lst_inv
    exact ⟨a, vs, h1, h2, h3, fun H' μ' t _ => ⟨vs, (t.g.keep _ _ h2 (fun _ z => by cases z) m).1, h3.grow t.g⟩⟩
  · rw [e] at hc
    subst hd
    cases hc with | @lst _ vs _ h rr =>
    refine ⟨a, vs, hv, h, rr, fun H' μ' t k => ?_⟩
    have q := (t.cells a _ (show μ' a = some (.lst xs) from k)).1
    cases q with | lst g r2 => exact ⟨_, g, r2⟩
theorem di_list {K : PySem.W.Frag} (h : DE X E e te de) (hK : X.K = K := by rfl) : DI X E tg e (iList K te) (iL de) := by
 subst hK
 exact ⟨pi_list h.pe, ⟨fun {σ H δ μ R R' E'} hh x d q => h.sn.go hh x d fun v y H1 μ1 t1 r1 d1 => by
    obtain ⟨xs, e1, d2⟩ := toL_inv d1
    obtain ⟨a, vs, rfl, ha, ra, st⟩ := stands t1.cells r1 e1
    refine ⟨a, rfl, ⟨vs, SqL.of ha⟩, q _ xs _ _ _ t1 (fun i H2 μ2 t2 c2 => ?_) d2⟩
    obtain ⟨ws, ha2, ra2⟩ := st H2 μ2 t2 c2
    refine ⟨fun hi => ?_, fun hi => ⟨ws, SqL.of ha2, by rw [ra2.length, hi]; exact Nat.le_refl _⟩⟩
    obtain ⟨v, h1, h2⟩ := ra2.get (List.getElem?_eq_getElem hi)
    refine ⟨⟨ws, v, SqL.of ha2, h1⟩, fun x H' ⟨e, y⟩ => ?_⟩
    subst e
    have := y ws (SqL.of ha2)
    rw [h1] at this
    cases this
    exact ⟨_, List.getElem?_eq_getElem hi, .refl t2.cells, h2⟩⟩⟩
theorem di_str (h : DE X E e te de) : DI X E tg e (iStr te) (iS de) :=
  ⟨pi_str h.pe, ⟨fun {σ H δ μ R R' E'} hh x d q => h.sn.go hh x d fun v y H1 μ1 t1 r1 d1 => by
    obtain ⟨l, rfl, d2⟩ := toS_inv d1
    refine ⟨_, r1.str_inv, q _ _ _ _ _ t1 (fun i H2 μ2 t2 _ => ?_) d2⟩
    have sz : (ofL l).cps.size = l.length := by simp [ofL]
    rw [List.length_map]
    refine ⟨fun hi => ⟨by show i < _; rw [sz]; exact hi, fun x H' ⟨e, c, hc, y⟩ => ?_⟩, fun hi => by show _ ≤ i; rw [sz, hi]; exact Nat.le_refl _⟩
    subst e; subst y
    have hc' : l[i]? = some c := by simpa [ofL] using hc
    exact ⟨.str [c], by rw [List.getElem?_map, hc']; rfl, .refl t2.cells, .str [c]⟩⟩⟩
theorem walks_range {K : PySem.W.Frag} {H : Hp} {μ : Mu} (lo : Int) (n : Nat) : Walks K (Itr lo n) (rngD lo n) yes H μ := fun i H2 μ2 t2 _ => by
  unfold rngD
  rw [List.length_map, List.length_range]
  refine ⟨fun hi => ⟨hi, fun x H' ⟨e, y⟩ => ?_⟩, fun hi => by rw [hi]; exact Nat.le_refl _⟩
  subst e; subst y
  exact ⟨_, by rw [List.getElem?_map, List.getElem?_range hi]; rfl, .refl t2.cells, .int _⟩
theorem di_range1 {p pos : Pos} (hg : Gl X "range") (hm : X.mg "range" = none) (ha : DA X E [e] t d) (hs : starEach [e] X.env = [(false, eval e X.env)] := by rfl) : DI X E tg (.Call (.Name "range" p) [e] [] pos) (iRng1 t) (iR1 d) :=
  ⟨pi_range1 hg hm ha.pe hs, ⟨fun {σ H δ μ R R' E'} hh x d q => ha.sn.go hh x d fun vs xs H1 μ1 t1 r1 d1 => by
    obtain ⟨y, rfl, d2⟩ := one_inv d1
    obtain ⟨w, rfl, rw1⟩ := r1.inv1
    obtain ⟨j, rfl, h1, h2, d3⟩ := toI_inv d2
    exact ⟨j, by rw [rw1.int_inv], h1, h2, q _ _ _ _ _ t1 (walks_range 0 j.toNat) d3⟩⟩⟩
theorem di_range2 {b : Expr} {p pos : Pos} (hg : Gl X "range") (hm : X.mg "range" = none) (ha : DA X E [e, b] t d) (hs : starEach [e, b] X.env = [(false, eval e X.env), (false, eval b X.env)] := by rfl) (hs2 : starEach [b] X.env = [(false, eval b X.env)] := by rfl) :
    DI X E tg (.Call (.Name "range" p) [e, b] [] pos) (iRng2 t) (iR2 d) :=
  ⟨pi_range2 hg hm ha.pe hs hs2, ⟨fun {σ H δ μ R R' E'} hh x d q => ha.sn.go hh x d fun vs xs H1 μ1 t1 r1 d1 => by
    obtain ⟨y, z, rfl, d2⟩ := two_inv d1
    obtain ⟨u, w, rfl, rw1, rw2⟩ := r1.inv2
    obtain ⟨i, rfl, d3⟩ := toI_inv d2
    obtain ⟨j, rfl, h1, d4⟩ := toI_inv (d := z) d3
    exact ⟨i, j, by rw [rw1.int_inv, rw2.int_inv], h1, q _ _ _ _ _ t1 (walks_range i _) d4⟩⟩⟩
end
end Dl

set_option Elab.async false
set_option linter.all false
set_option maxRecDepth 100000
namespace Dl
open PySem PySem.Spec PyProof.Rows L2
theorem enumD_get (xs : List D) (i : Nat) : (enumD xs)[i]? = (xs[i]?).map fun x => .tup [.int (i : Nat), x] := by
  unfold enumD
  rw [List.getElem?_map, List.getElem?_zipIdx]
  cases xs[i]? <;> simp
theorem enumD_len (xs : List D) : (enumD xs).length = xs.length := by simp [enumD]
theorem zipD_len (xs ys : List D) : (zipD xs ys).length = min xs.length ys.length := by simp [zipD]
theorem zipD_get {xs ys : List D} {i : Nat} {x y : D} (h1 : xs[i]? = some x) (h2 : ys[i]? = some y) : (zipD xs ys)[i]? = some (.tup [x, y]) := by
  unfold zipD
  rw [List.getElem?_zipWith, h1, h2]
section
variable {X : Cx} {E : XK} {e e2 : Expr} {te : TE} {t : TA} {de : DTE} {d : DTA} {p pos tpos : Pos} {elts : List Expr} {kk : Nat}
theorem then_pair {K : PySem.W.Frag} {H : Hp} {μ : Mu} {T : Addr} {a b : V} {x y : D} (c : Cells K H μ) (n : H T = none) (h1 : Rep K H μ a x) (h2 : Rep K H μ b y) : Then K H μ (upd H T (.tup [a, b])) μ ∧ Rep K (upd H T (.tup [a, b])) μ (.ref T) (.tup [x, y]) :=
  ⟨.new c n, rep_tup c n (.cons h1 (.one h2))⟩
theorem di_enum {K : PySem.W.Frag} (hg : Gl X "enumerate") (hm : X.mg "enumerate" = none) (ha : DA X E [e] t d) (hs : starEach [e] X.env = [(false, eval e X.env)] := by rfl) (hK : X.K = K := by rfl) :
    DI X E (.Tuple elts kk tpos) (.Call (.Name "enumerate" p) [e] [] pos) (iEnum K t) (iEn d) := by
 subst hK
 exact ⟨pi_enum hg hm ha.pe hs, ⟨fun {σ H δ μ R R' E'} hh x d q => ha.sn.go hh x d fun vs ys H1 μ1 t1 r1 d1 => by
    obtain ⟨y, rfl, d2⟩ := one_inv d1
    obtain ⟨w, rfl, rw1⟩ := r1.inv1
    obtain ⟨xs, e1, d3⟩ := toL_inv d2
    obtain ⟨a, vs, rfl, ha, ra, st⟩ := stands t1.cells rw1 e1
    refine ⟨a, vs, rfl, SqL.of ha, q _ _ _ _ _ t1 (fun i H2 μ2 t2 c2 => ?_) d3⟩
    obtain ⟨ws, ha2, ra2⟩ := st H2 μ2 t2 c2
    rw [enumD_len]
    refine ⟨fun hi => ?_, fun hi => ⟨ws, SqL.of ha2, by rw [ra2.length, hi]; exact Nat.le_refl _⟩⟩
    obtain ⟨v, h1, h2⟩ := ra2.get (List.getElem?_eq_getElem hi)
    refine ⟨⟨ws, v, SqL.of ha2, h1⟩, fun x H' ⟨T, z, e1, nT, e2, y⟩ => ?_⟩
    subst e1; subst e2
    have := y ws (SqL.of ha2)
    rw [h1] at this
    cases this
    obtain ⟨g1, g2⟩ := then_pair t2.cells nT (.int (i : Nat)) h2
    exact ⟨_, by rw [enumD_get, List.getElem?_eq_getElem hi]; rfl, g1, g2⟩⟩⟩
theorem di_es (hg : Gl X "enumerate") (hm : X.mg "enumerate" = none) (ha : DA X E [e] t d) (hs : starEach [e] X.env = [(false, eval e X.env)] := by rfl) :
    DI X E (.Tuple elts kk tpos) (.Call (.Name "enumerate" p) [e] [] pos) (Ms.iEs t) (iEs d) :=
  ⟨Ms.pi_es hg hm ha.pe hs, ⟨fun {σ H δ μ R R' E'} hh x d q => ha.sn.go hh x d fun vs ys H1 μ1 t1 r1 d1 => by
    obtain ⟨y, rfl, d2⟩ := one_inv d1
    obtain ⟨w, rfl, rw1⟩ := r1.inv1
    obtain ⟨l, rfl, d3⟩ := toS_inv d2
    refine ⟨_, by rw [rw1.str_inv], q _ _ _ _ _ t1 (fun i H2 μ2 t2 _ => ?_) d3⟩
    have sz : (ofL l).cps.size = l.length := by simp [ofL]
    rw [enumD_len, List.length_map]
    refine ⟨fun hi => ⟨by show i < _; rw [sz]; exact hi, fun x H' ⟨T, c, e1, nT, e2, hc⟩ => ?_⟩, fun hi => by show i = _; rw [sz]; exact hi⟩
    subst e1; subst e2
    have hc' : l[i]? = some c := by simpa [ofL] using hc
    obtain ⟨g1, g2⟩ := then_pair t2.cells nT (.int (i : Nat)) (.str [c])
    exact ⟨_, by rw [enumD_get, List.getElem?_map, hc']; rfl, g1, g2⟩⟩⟩
theorem di_zip {K : PySem.W.Frag} (hg : Gl X "zip") (hm : X.mg "zip" = none) (ha : DA X E [e, e2] t d)
    (hs : starEach [e, e2] X.env = (false, eval e X.env) :: starEach [e2] X.env := by rfl) (hpl : (backTo pos (starEach [e2] X.env)).any (·.1) = false := by rfl) (hK : X.K = K := by rfl) :
    DI X E (.Tuple elts kk tpos) (.Call (.Name "zip" p) [e, e2] [] pos) (iZip K t) (iZp d) := by
 subst hK
 exact ⟨pi_zip hg hm ha.pe hs hpl, ⟨fun {σ H δ μ R R' E'} hh x d q => ha.sn.go hh x d fun vs ys H1 μ1 t1 r1 d1 => by
    obtain ⟨y, z, rfl, d2⟩ := two_inv d1
    obtain ⟨u, w, rfl, ru, rw1⟩ := r1.inv2
    obtain ⟨xs, e1, d3⟩ := toL_inv d2
    obtain ⟨zs, e2, d4⟩ := toL_inv d3
    obtain ⟨a, vs0, rfl, ha, _, st1⟩ := stands t1.cells ru e1
    obtain ⟨b, ws0, rfl, hb, _, st2⟩ := stands t1.cells rw1 e2
    refine ⟨a, b, vs0, ws0, rfl, SqL.of ha, SqL.of hb, q _ _ _ _ _ t1 (fun i H2 μ2 t2 c2 => ?_) d4⟩
    obtain ⟨vs, ha2, ra⟩ := st1 H2 μ2 t2 c2.1
    obtain ⟨ws, hb2, rb⟩ := st2 H2 μ2 t2 c2.2
    rw [zipD_len]
    refine ⟨fun hi => ?_, fun hi => ⟨vs, ws, SqL.of ha2, SqL.of hb2, by rw [ra.length, rb.length]; omega⟩⟩
    have g1 := List.getElem?_eq_getElem (show i < xs.length by omega)
    have g2 := List.getElem?_eq_getElem (show i < zs.length by omega)
    obtain ⟨v, h1, h2⟩ := ra.get g1
    obtain ⟨v', h1', h2'⟩ := rb.get g2
    refine ⟨⟨vs, ws, v, v', SqL.of ha2, SqL.of hb2, h1, h1'⟩, fun x H' ⟨T, z, z', e1, nT, e2, y, y'⟩ => ?_⟩
    subst e1; subst e2
    have k1 := y vs (SqL.of ha2)
    have k2 := y' ws (SqL.of hb2)
    rw [h1] at k1
    rw [h1'] at k2
    cases k1; cases k2
    obtain ⟨f1, f2⟩ := then_pair t2.cells nT h2 h2'
    exact ⟨_, zipD_get g1 g2, f1, f2⟩⟩⟩
theorem di_zs {K : PySem.W.Frag} (hg : Gl X "zip") (hm : X.mg "zip" = none) (ha : DA X E [e, e2] t d)
    (hs : starEach [e, e2] X.env = (false, eval e X.env) :: starEach [e2] X.env := by rfl) (hpl : (backTo pos (starEach [e2] X.env)).any (·.1) = false := by rfl) (hK : X.K = K := by rfl) :
    DI X E (.Tuple elts kk tpos) (.Call (.Name "zip" p) [e, e2] [] pos) (Ms.iZs K t) (iZs d) := by
 subst hK
 exact ⟨Ms.pi_zs hg hm ha.pe hs hpl, ⟨fun {σ H δ μ R R' E'} hh x d q => ha.sn.go hh x d fun vs ys H1 μ1 t1 r1 d1 => by
    obtain ⟨y, z, rfl, d2⟩ := two_inv d1
    obtain ⟨u, w, rfl, ru, rw1⟩ := r1.inv2
    obtain ⟨l, rfl, d3⟩ := toS_inv d2
    have sz : ∀ l : List Nat, (ofL l).cps.size = l.length := fun l => by simp [ofL]
    have cg : ∀ {l : List Nat} {i c : Nat}, (ofL l).cps[i]? = some c → l[i]? = some c := fun {l i c} h => by simpa [ofL] using h
    cases z with
    | str m =>
      refine ⟨_, _, by rw [ru.str_inv], .inl ⟨_, rw1.str_inv, q _ _ _ _ _ t1 (fun i H2 μ2 t2 _ => ?_) d3⟩⟩
      rw [zipD_len, List.length_map, List.length_map]
      refine ⟨fun hi => ⟨⟨by rw [sz]; omega, by rw [sz]; omega⟩, fun x H' ⟨T, c, k, e1, nT, e2, hc, hk⟩ => ?_⟩, fun hi => by show i ≤ _ ∧ i ≤ _ ∧ (i = _ ∨ i = _); rw [sz, sz]; omega⟩
      subst e1; subst e2
      obtain ⟨f1, f2⟩ := then_pair t2.cells nT (.str [c]) (.str [k])
      exact ⟨_, zipD_get (by rw [List.getElem?_map, cg hc]; rfl) (by rw [List.getElem?_map, cg hk]; rfl), f1, f2⟩
    | lst zs =>
      obtain ⟨b, ws, rfl, hm2, hb, rb⟩ := rw1.lst_inv
      refine ⟨_, _, by rw [ru.str_inv], .inr ⟨b, ws, rfl, SqL.of hb, q _ _ _ _ _ t1 (fun i H2 μ2 t2 _ => ?_) d3⟩⟩
      have hb2 := (t2.g.keep _ _ hb (fun _ z => by cases z) hm2).1
      rw [zipD_len, List.length_map]
      refine ⟨fun hi => ?_, fun hi => ⟨ws, SqL.of hb2, by rw [sz]; omega, by rw [rb.length]; omega, by rw [sz, rb.length]; omega⟩⟩
      have g2 := List.getElem?_eq_getElem (show i < zs.length by omega)
      obtain ⟨v', h1', h2'⟩ := rb.get g2
      refine ⟨⟨by rw [sz]; omega, ws, v', SqL.of hb2, h1'⟩, fun x H' ⟨T, c, z', e1, nT, e2, hc, y'⟩ => ?_⟩
      subst e1; subst e2
      have k2 := y' ws (SqL.of hb2)
      rw [h1'] at k2
      cases k2
      obtain ⟨f1, f2⟩ := then_pair t2.cells nT (.str [c]) (h2'.grow t2.g)
      exact ⟨_, zipD_get (by rw [List.getElem?_map, cg hc]; rfl) g2, f1, f2⟩
    | _ => exact d3.elim⟩⟩
end
/-! ### for -/
def forL (g : DTG) (b : DTS) (E : DX) (F : DEnds) (C : Mu → Prop) : List D → Sl → Mu → Prop
  | [], δ, μ => C μ ∧ F.nx δ μ
  | x :: xs, δ, μ => C μ ∧ g x δ μ fun δ2 μ2 => b E { F with nx := forL g b E F C xs, ct := forL g b E F C xs, bk := F.nx } δ2 μ2
def sFor (w : DTI) (g : DTG) (b : DTS) : DTS := fun E D δ μ => w E δ μ fun xs C μ1 => forL g b E D C xs δ μ1
theorem ds_for {X : Cx} {E : XK} {tg iter : Expr} {body : List Stmt} {wi : TI} {g : TG} {tb : TS} {dw : DTI} {dg : DTG} {db : DTS} {pos : Pos} (hp : PassesOwn (model X.prog X.w) X.A X.env X.xe) (hc : X.calm = true) (hi : DI X E tg iter wi dw) (hg : DG X tg g dg) (hb : DSs X E body tb db)
    (hs : ∀ x, foldedSetIterable iter X.env x = pure x := by intro _; rfl) : DS X E (.For tg iter body [] pos) (tFor wi g tb) (sFor dw dg db) :=
  ⟨ps_for hp hc hi.pe hg.pe hb.pe hs, ⟨fun {σ H δ μ D D' E'} hh x d q => hi.sn.go hh x d fun J xs C H1 μ1 t1 w1 d1 => by
    refine ⟨fun i m σ' H' => m = xs.length - i ∧ i ≤ xs.length ∧ ∃ δ' μ', Then X.K H1 μ1 H' μ' ∧ Slots X.K H' μ' σ' δ' ∧ forL dg db E' D' C (xs.drop i) δ' μ', ⟨xs.length, by simp, Nat.zero_le _, δ, μ1, .refl t1.cells, hh.slots.grow t1.g, by simpa using d1⟩, ?_⟩
    rintro i m σ2 H2 ⟨rfl, hi, δ2, μ2, t2, s2, f2⟩
    have c2 : C μ2 := by
      cases hxs : xs.drop i with
      | nil => rw [hxs] at f2; exact f2.1
      | cons a r => rw [hxs] at f2; exact f2.1
    obtain ⟨go, stop⟩ := w1 i H2 μ2 t2 c2
    by_cases hlt : i < xs.length
    · obtain ⟨jgo, yl⟩ := go hlt
      refine .inr ⟨jgo, fun σ' H' => ∃ δ' μ', Then X.K H1 μ1 H' μ' ∧ Slots X.K H' μ' σ' δ' ∧ forL dg db E' D' C (xs.drop (i + 1)) δ' μ', fun σ' H' ⟨δ', μ', a, b, c⟩ => ⟨xs.length - (i + 1), by omega, rfl, hlt, δ', μ', a, b, c⟩, fun v H3 y => ?_⟩
      obtain ⟨dv, ev, t3, rv⟩ := yl v H3 y
      rw [List.drop_eq_getElem_cons hlt] at f2
      have ed : dv = xs[i] := by rw [List.getElem?_eq_getElem hlt] at ev; exact (Option.some.inj ev).symm
      subst ed
      have t12 := t1.trans t2
      refine hg.sn.go ⟨t3.cells, s2.grow t3.g⟩ rv f2.2 fun σ4 δ4 H4 μ4 t4 s4 q4 => ?_
      have again : NR X.K H4 μ4 (fun σ' H' => ∃ δ' μ', Then X.K H1 μ1 H' μ' ∧ Slots X.K H' μ' σ' δ' ∧ forL dg db E' D' C (xs.drop (i + 1)) δ' μ') (forL dg db E' D' C (xs.drop (i + 1))) := fun σ5 δ5 H5 μ5 t5 s5 q5 => ⟨δ5, μ5, ((t2.trans t3).trans t4).trans t5, s5, q5⟩
      have t14 := (t12.trans t3).trans t4
      exact hb.sn.go ⟨t4.cells, s4⟩ (x.go t14) q4 ⟨again, (q.go t14).rt, (q.go t14).nx, again⟩
    · have e : i = xs.length := by omega
      subst e
      rw [List.drop_length] at f2
      exact .inl ⟨stop rfl, q.nx _ _ _ _ (t1.trans t2) s2 f2.2⟩⟩⟩
/-- by an invariant -/
theorem forL_inv {g : DTG} {b : DTS} {E : DX} {F : DEnds} {C : Mu → Prop} {xs : List D} {δ : Sl} {μ : Mu} (P : Nat → Sl → Mu → Prop) (h0 : P 0 δ μ) (hC : ∀ i δ μ, P i δ μ → C μ)
    (hs : ∀ i x δ μ (k : Sl → Mu → Prop), xs[i]? = some x → P i δ μ → (∀ δ' μ', P (i + 1) δ' μ' → k δ' μ') → g x δ μ fun δ2 μ2 => b E { F with nx := k, ct := k, bk := F.nx } δ2 μ2)
    (hd : ∀ δ μ, P xs.length δ μ → F.nx δ μ) : forL g b E F C xs δ μ := by
  have gen : ∀ (n : Nat) (i : Nat), xs.length - i = n → i ≤ xs.length → ∀ δ μ, P i δ μ → forL g b E F C (xs.drop i) δ μ := by
    intro n
    induction n with
    | zero =>
      intro i hn hi δ μ p
      have e : i = xs.length := by omega
      subst e
      rw [List.drop_length]
      exact ⟨hC _ _ _ p, hd δ μ p⟩
    | succ n ih =>
      intro i hn hi δ μ p
      have hlt : i < xs.length := by omega
      rw [List.drop_eq_getElem_cons hlt]
      exact ⟨hC _ _ _ p, hs i _ δ μ _ (List.getElem?_eq_getElem hlt) p fun δ' μ' p' => ih (i + 1) (by omega) hlt δ' μ' p'⟩
  simpa using gen _ 0 rfl (Nat.zero_le _) δ μ h0
end Dl

set_option Elab.async false
set_option linter.all false
set_option maxRecDepth 100000
namespace Dl
open PySem PySem.Spec PyProof.Rows L2
/-! ### comprehensions -/
def E0 : XK := fun _ _ _ => False
def wipeD (δ : Sl) : List Nat → Sl
  | [] => δ
  | v :: vs => (wipeD δ vs).set v none
structure SGw (K : PySem.W.Frag) (ws : List Nat) (t : TG) (d : DTG) : Prop where
  go : ∀ {v x σ H δ μ Q Q'}, Here K H μ σ δ → Rep K H μ v x → d x δ μ Q' → (∀ σ' δ' H' μ', Then K H μ H' μ' → Slots K H' μ' σ' δ' → wipe σ' ws = wipe σ ws → Q' δ' μ' → Q σ' H') → t v σ H Q
structure SGsw (K : PySem.W.Frag) (ws : List Nat) (t : TGs) (d : DTGs) : Prop where
  go : ∀ {v x σ H δ μ Q Q'}, Here K H μ σ δ → Reps K H μ v x → d x δ μ Q' → (∀ σ' δ' H' μ', Then K H μ H' μ' → Slots K H' μ' σ' δ' → wipe σ' ws = wipe σ ws → Q' δ' μ' → Q σ' H') → t v σ H Q
structure DGw (X : Cx) (ws : List Nat) (e : Expr) (t : TG) (d : DTG) : Prop where
  pe : PG X e t
  sn : SGw X.K ws t d
structure DGsw (X : Cx) (ws : List Nat) (e : List Expr) (t : TGs) (d : DTGs) : Prop where
  pe : PGs X e t
  sn : SGsw X.K ws t d
theorem wipe_set {σ : L2.St} {n : Nat} {v : Option V} : ∀ {ws : List Nat}, n ∈ ws → wipe (σ.set n v) ws = wipe σ ws
  | w :: ws, h => by
    show (wipe (σ.set n v) ws).set w none = (wipe σ ws).set w none
    by_cases e : n ∈ ws
    · rw [wipe_set e]
    · have hw : n = w := by
        rcases List.mem_cons.mp h with h | h
        · exact h
        · exact absurd h e
      subst hw
      have comm : ∀ ws : List Nat, n ∉ ws → wipe (σ.set n v) ws = (wipe σ ws).set n v := by
        intro ws
        induction ws with
        | nil => intro _; rfl
        | cons a r ih =>
          intro hn
          show (wipe (σ.set n v) r).set a none = ((wipe σ r).set a none).set n v
          rw [ih (fun h => hn (List.mem_cons_of_mem _ h)), List.set_comm _ _ (fun e => hn (by rw [e]; exact List.mem_cons_self))]
      rw [comm ws e, List.set_set]
  | [], h => by cases h
theorem wipe_wipe {σ : L2.St} {ws : List Nat} : wipe (wipe σ ws) ws = wipe σ ws := by
  have gen : ∀ vs : List Nat, (∀ v ∈ vs, v ∈ ws) → wipe (wipe σ vs) ws = wipe σ ws := by
    intro vs
    induction vs with
    | nil => intro _; rfl
    | cons v r ih =>
      intro h
      show wipe ((wipe σ r).set v none) ws = _
      rw [wipe_set (h v List.mem_cons_self)]
      exact ih fun w hw => h w (List.mem_cons_of_mem _ hw)
  exact gen ws fun _ h => h
section
variable {X : Cx} {E : XK} {e : Expr} {es : List Expr} {g : TG} {dg : DTG} {gs : TGs} {dgs : DTGs} {pos : Pos} {x : Str} {ws : List Nat}
theorem dgw_name {n : Nat} (hN : X.N.Nodup) (hi : X.N[n]? = some x) (hx : Loc X.env.scope x) (hw : n ∈ ws) (hf : X.fn x = true ∨ X.env.scope.names.lookup x = some .local := by first | exact .inl rfl | exact .inr rfl | assumption) : DGw X ws (.Name x pos) (L2.gName n) (gName n) :=
  ⟨pg_name hN hi hx hf, ⟨fun hh r d q => q _ _ _ _ hh.refl (hh.slots.set r) (wipe_set hw) d⟩⟩
theorem dgsw_nil : DGsw X ws [] L2.gNil gNil := ⟨pgs_nil, ⟨fun {v x σ H δ μ Q Q'} hh r d q => by
  obtain ⟨rfl, d⟩ := d
  exact ⟨r.nil_inv, q _ _ _ _ hh.refl hh.slots rfl d⟩⟩⟩
theorem dgsw_cons (h1 : DGw X ws e g dg) (h2 : DGsw X ws es gs dgs) (hs : (assignEach (e :: es) X.env).map (·.2) = assign e X.env :: (assignEach es X.env).map (·.2) := by rfl) : DGsw X ws (e :: es) (L2.gCons g gs) (gCons dg dgs) :=
  ⟨pgs_cons h1.pe h2.pe hs, ⟨fun {v x σ H δ μ Q Q'} hh r d q => by
    cases x with
    | nil => exact d.elim
    | cons y ys =>
      obtain ⟨w, r0, rfl, r1, r2⟩ := r.cons_inv
      exact ⟨w, r0, rfl, h1.sn.go hh r1 d fun σ' δ' H' μ' t1 s1 w1 d1 => h2.sn.go ⟨t1.cells, s1⟩ (r2.grow t1.g) d1 fun σ'' δ'' H'' μ'' t2 s2 w2 d2 => q _ _ _ _ (t1.trans t2) s2 (w2.trans w1) d2⟩⟩⟩
theorem dgw_tup {k n : Nat} {K : PySem.W.Frag} (hK : X.K = K) (hc : X.calm = true) (h : DGsw X ws es gs dgs) (hn : (assignEach es X.env).length = n := by rfl) (hst : (assignEach es X.env).findIdx? (·.1) = none := by rfl) :
    DGw X ws (.Tuple es k pos) (L2.gTup K n gs) (fun v δ μ Q => match v with | .tup xs => xs.length = n ∧ dgs xs δ μ Q | _ => False) := by
  subst hK
  refine ⟨pg_tup hc h.pe hn hst, ⟨fun {v x σ H δ μ Q Q'} hh r d q => ?_⟩⟩
  cases x with
  | tup xs =>
    obtain ⟨a, vs, rfl, ha, ra⟩ := r.tup_inv
    exact ⟨a, vs, rfl, ha, by rw [ra.length]; exact d.1, h.sn.go hh ra d.2 q⟩
  | _ => exact d.elim
structure DTs (X : Cx) (E : XK) (e : List Expr) (t : TT) (d : DTT) : Prop where
  pe : PTs X e t
  sn : ST X.K E t d
def dYes : DTT := fun _ _ μ Q => Q true μ
theorem dts_nil : DTs X E [] tYes dYes := ⟨pts_nil, ⟨fun hh x d q => q _ _ _ hh.refl d⟩⟩
theorem dts_one {t : TT} {d : DTT} (h : DT X E e t d) : DTs X E [e] t d := ⟨pts_one h.pe, h.sn⟩
end
def lcStep (g : DTG) (tt : DTT) (te : DTE) (δ : Sl) (x : D) (μ : Mu) (k : Option D → Mu → Prop) : Prop :=
  g x δ μ fun δ2 μ2 => tt noX δ2 μ2 fun b μ3 => bif b then te noX δ2 μ3 (fun y => k (some y)) else k none μ3
def lcL (g : DTG) (tt : DTT) (te : DTE) (δ : Sl) (L : Addr) (C : Mu → Prop) (k : List D → Mu → Prop) : List D → List D → Mu → Prop
  | [], acc, μ => C μ ∧ μ L = some (.lst acc) ∧ k acc μ
  | x :: xs, acc, μ => C μ ∧ lcStep g tt te δ x μ fun o μ4 => match o with
    | some y => μ4 L = some (.lst acc) ∧ acc.length < 16777216 ∧ lcL g tt te δ L C k xs (acc ++ [y]) (mup μ4 L (.lst (acc ++ [y])))
    | none => lcL g tt te δ L C k xs acc μ4
def dLc (w : DTI) (g : DTG) (tt : DTT) (te : DTE) (ws : List Nat) : DTE := fun E δ μ Q => w E δ μ fun xs C μ1 => ∀ L, μ1 L = none → lcL g tt te (wipeD δ ws) L C (fun acc μ2 => Q (.lst acc) (era μ2 L)) xs [] (mup μ1 L (.lst []))
def dLcC (w : DTI) (g : DTG) (tt : DTT) (te : DTE) (ws : List Nat) : DTE := fun E δ μ Q => w E δ μ fun xs C μ1 => ∀ L, μ1 L = none → lcL g tt te (wipeD δ ws) L C (fun _ μ2 => Q (.ref L) μ2) xs [] (mup μ1 L (.lst []))
theorem Slots.wipe {K : PySem.W.Frag} {H : Hp} {μ : Mu} {σ : L2.St} {δ : Sl} (s : Slots K H μ σ δ) : ∀ ws : List Nat, Slots K H μ (L2.wipe σ ws) (wipeD δ ws)
  | [] => s
  | v :: vs => by
    have ih := Slots.wipe s vs
    refine ⟨by show ((L2.wipe σ vs).set v none).length = ((wipeD δ vs).set v none).length; rw [List.length_set, List.length_set]; exact ih.1, fun i d e => ?_⟩
    have e : ((wipeD δ vs).set v none)[i]? = some (some d) := e
    by_cases h : v = i
    · subst h
      by_cases hl : v < (wipeD δ vs).length
      · rw [List.getElem?_set_self hl] at e; cases e
      · rw [List.getElem?_eq_none (by rw [List.length_set]; omega)] at e; cases e
    · rw [List.getElem?_set_ne h] at e
      obtain ⟨u, h1, h2⟩ := ih.2 i d e
      exact ⟨u, by show ((L2.wipe σ vs).set v none)[i]? = _; rw [List.getElem?_set_ne h]; exact h1, h2⟩
theorem se_lc {K : PySem.W.Frag} {E : XK} {wi : TI} {g : TG} {tt : TT} {te : TE} {dw : DTI} {dg : DTG} {dt : DTT} {de : DTE} {ws : List Nat} (hi : SI K E wi dw) (hg : SGw K ws g dg) (ht : ST K E0 tt dt) (he : SE K E0 te de)
    (fin : DK → Addr → List D → Mu → Prop)
    (hf : ∀ {H μ Q Q' L acc}, Cells K H μ → QR K H μ Q Q' → μ L = some (.lst acc) → fin Q' L acc μ → Q (.ref L) H) :
    SE K E (tLc wi g tt te ws) (fun E δ μ Q => dw E δ μ fun xs C μ1 => ∀ L, μ1 L = none → lcL dg dt de (wipeD δ ws) L C (fin Q L) xs [] (mup μ1 L (.lst []))) :=
  ⟨fun {σ H δ μ Q Q' E'} hh x d q => hi.go hh x d fun J xs C H1 μ1 t1 w1 d1 L hL => by
    have d2 := d1 L (mu_none t1.cells hL)
    have t2 : Then K H1 μ1 (upd H1 L (.lst [])) (mup μ1 L (.lst [])) := .cell t1.cells hL (con_lst hL .nil)
    refine ⟨fun i m H' => m = xs.length - i ∧ i ≤ xs.length ∧ ∃ acc μ', Then K H1 μ1 H' μ' ∧ lcL dg dt de (wipeD δ ws) L C (fin Q' L) (xs.drop i) acc μ', ⟨xs.length, by simp, Nat.zero_le _, [], _, t2, by simpa using d2⟩, ?_⟩
    rintro i m H3 ⟨rfl, hi, acc, μ3, t3, f3⟩
    have c3 : C μ3 := by
      cases hxs : xs.drop i with
      | nil => rw [hxs] at f3; exact f3.1
      | cons a r => rw [hxs] at f3; exact f3.1
    obtain ⟨go, stop⟩ := w1 i H3 μ3 t3 c3
    by_cases hlt : i < xs.length
    · obtain ⟨jgo, yl⟩ := go hlt
      refine .inr ⟨jgo, fun H' => ∃ acc μ', Then K H1 μ1 H' μ' ∧ lcL dg dt de (wipeD δ ws) L C (fin Q' L) (xs.drop (i + 1)) acc μ', fun H' ⟨a, b, c, e⟩ => ⟨xs.length - (i + 1), by omega, rfl, hlt, a, b, c, e⟩, fun v H4 y => ?_⟩
      obtain ⟨dv, ev, t4, rv⟩ := yl v H4 y
      rw [List.drop_eq_getElem_cons hlt] at f3
      have ed : dv = xs[i] := by rw [List.getElem?_eq_getElem hlt] at ev; exact (Option.some.inj ev).symm
      subst ed
      have s4 : Slots K H4 μ3 (wipe σ ws) (wipeD δ ws) := ((hh.slots.wipe ws).grow ((t1.trans t3).g)).grow t4.g
      refine hg.go ⟨t4.cells, s4⟩ rv f3.2 fun σ5 δ5 H5 μ5 t5 s5 e5 q5 => ⟨e5.trans wipe_wipe, ht.go ⟨t5.cells, s5⟩ xr_no q5 fun b H6 μ6 t6 q6 => ?_⟩
      have t16 := ((t3.trans t4).trans t5).trans t6
      cases b with
      | false =>
        rw [if_neg Bool.false_ne_true]
        exact ⟨acc, μ6, t16, q6⟩
      | true =>
        rw [if_pos rfl]
        refine he.go ⟨t6.cells, s5.grow t6.g⟩ xr_no q6 fun w z H7 μ7 t7 r7 q7 => ?_
        obtain ⟨m7, l7, f7⟩ := q7
        have c7 := (t7.cells L _ m7).1
        cases c7 with | @lst _ us _ h7 rr =>
        exact ⟨us, h7, by rw [rr.length, sizeLine_eq]; exact l7, acc ++ [z], _, (t16.trans t7).trans (then_lst t7.cells m7 h7 (rr.append (.one r7))), f7⟩
    · have e : i = xs.length := by omega
      subst e
      rw [List.drop_length] at f3
      exact .inl ⟨stop rfl, hf t3.cells ((q.go t1).go t3) f3.2.1 f3.2.2⟩⟩
theorem fin_v {K : PySem.W.Frag} {H : Hp} {μ : Mu} {Q : VK} {Q' : DK} {L : Addr} {acc : List D} (c : Cells K H μ) (q : QR K H μ Q Q') (m : μ L = some (.lst acc)) (f : Q' (.lst acc) (era μ L)) : Q (.ref L) H := q _ _ _ _ (.freeze c) (rep_freeze c m) f
theorem fin_c {K : PySem.W.Frag} {H : Hp} {μ : Mu} {Q : VK} {Q' : DK} {L : Addr} {acc : List D} (c : Cells K H μ) (q : QR K H μ Q Q') (m : μ L = some (.lst acc)) (f : Q' (.ref L) μ) : Q (.ref L) H := q _ _ _ _ (.refl c) (.ref L) f
section
variable {X : Cx} {E : XK} {elt tg iter : Expr} {ifs : List Expr} {scope : Scope} {own : List (Str × Nat)} {pos : Pos} {wi : TI} {g : TG} {tt : TT} {te : TE} {dw : DTI} {dg : DTG} {dt : DTT} {de : DTE}
abbrev bk (X : Cx) (scope : Scope) (s : Shared) (H : Hp) (C : Addr) (cl : List (Str × Addr)) (fp : List Addr) : Cx := X.blk s H scope (compEnvC scope cl C X.env) fp
theorem de_lc (hc : X.calm = true) (hN : X.N.Nodup) (hi : DI X E tg iter wi dw) (ok : BlkOk X.N X.env.scope scope own)
    (hg : ∀ s H C cl fp, DGw (bk X scope s H C cl fp) (own.map (·.2)) tg g dg) (ht : ∀ s H C cl fp, DTs (bk X scope s H C cl fp) E0 ifs tt dt) (he : ∀ s H C cl fp, DE (bk X scope s H C cl fp) E0 elt te de)
    (hs : ∀ x, foldedSetIterable iter X.env x = pure x := by intro _; rfl) : DE X E (.ListComp elt [⟨tg, iter, ifs, 0⟩] scope pos) (tLc wi g tt te (own.map (·.2))) (dLc dw dg dt de (own.map (·.2))) :=
  ⟨pe_lc hc hN hi.pe ok (fun s H C cl fp => (hg s H C cl fp).pe) (fun s H C cl fp => (ht s H C cl fp).pe) (fun s H C cl fp => (he s H C cl fp).pe) hs,
    se_lc hi.sn (hg X.s_0 X.H_0 0 [] []).sn (ht X.s_0 X.H_0 0 [] []).sn (he X.s_0 X.H_0 0 [] []).sn (fun Q' L acc μ => Q' (.lst acc) (era μ L)) fin_v⟩
theorem de_lcC (hc : X.calm = true) (hN : X.N.Nodup) (hi : DI X E tg iter wi dw) (ok : BlkOk X.N X.env.scope scope own)
    (hg : ∀ s H C cl fp, DGw (bk X scope s H C cl fp) (own.map (·.2)) tg g dg) (ht : ∀ s H C cl fp, DTs (bk X scope s H C cl fp) E0 ifs tt dt) (he : ∀ s H C cl fp, DE (bk X scope s H C cl fp) E0 elt te de)
    (hs : ∀ x, foldedSetIterable iter X.env x = pure x := by intro _; rfl) : DE X E (.ListComp elt [⟨tg, iter, ifs, 0⟩] scope pos) (tLc wi g tt te (own.map (·.2))) (dLcC dw dg dt de (own.map (·.2))) :=
  ⟨pe_lc hc hN hi.pe ok (fun s H C cl fp => (hg s H C cl fp).pe) (fun s H C cl fp => (ht s H C cl fp).pe) (fun s H C cl fp => (he s H C cl fp).pe) hs,
    se_lc hi.sn (hg X.s_0 X.H_0 0 [] []).sn (ht X.s_0 X.H_0 0 [] []).sn (he X.s_0 X.H_0 0 [] []).sn (fun Q' L _ μ => Q' (.ref L) μ) fin_c⟩
theorem ds_setLc {i : Nat} {y : Str} {py spos : Pos} (hc : X.calm = true) (hN : X.N.Nodup) (hy : X.N[i]? = some y) (hyl : X.env.scope.names.lookup y = some .local)
    (hsw : swapsWith (.ListComp elt [⟨tg, iter, ifs, 0⟩] scope pos) (some (.Name y py)) spos.line X.env = pure true) (hi : DI X E tg iter wi dw) (ok : BlkOk X.N X.env.scope scope own)
    (hg : ∀ s H C cl fp, DGw (bk X scope s H C cl fp) (own.map (·.2)) tg g dg) (ht : ∀ s H C cl fp, DTs (bk X scope s H C cl fp) E0 ifs tt dt) (he : ∀ s H C cl fp, DE (bk X scope s H C cl fp) E0 elt te de)
    (hs : ∀ x, foldedSetIterable iter X.env x = pure x := by intro _; rfl) : DS X E (.Assign [.Name y py] (.ListComp elt [⟨tg, iter, ifs, 0⟩] scope pos) spos) (tAsg (tLc wi g tt te (own.map (·.2))) (L2.gName i)) (sAsg (dLc dw dg dt de (own.map (·.2))) (gName i)) :=
  ⟨ps_setLc hc hN hy hyl hsw hi.pe ok (fun s H C cl fp => (hg s H C cl fp).pe) (fun s H C cl fp => (ht s H C cl fp).pe) (fun s H C cl fp => (he s H C cl fp).pe) hs,
    ss_asg (se_lc hi.sn (hg X.s_0 X.H_0 0 [] []).sn (ht X.s_0 X.H_0 0 [] []).sn (he X.s_0 X.H_0 0 [] []).sn (fun Q' L acc μ => Q' (.lst acc) (era μ L)) fin_v) sg_name⟩
theorem ds_setLcC {i : Nat} {y : Str} {py spos : Pos} (hc : X.calm = true) (hN : X.N.Nodup) (hy : X.N[i]? = some y) (hyl : X.env.scope.names.lookup y = some .local)
    (hsw : swapsWith (.ListComp elt [⟨tg, iter, ifs, 0⟩] scope pos) (some (.Name y py)) spos.line X.env = pure true) (hi : DI X E tg iter wi dw) (ok : BlkOk X.N X.env.scope scope own)
    (hg : ∀ s H C cl fp, DGw (bk X scope s H C cl fp) (own.map (·.2)) tg g dg) (ht : ∀ s H C cl fp, DTs (bk X scope s H C cl fp) E0 ifs tt dt) (he : ∀ s H C cl fp, DE (bk X scope s H C cl fp) E0 elt te de)
    (hs : ∀ x, foldedSetIterable iter X.env x = pure x := by intro _; rfl) : DS X E (.Assign [.Name y py] (.ListComp elt [⟨tg, iter, ifs, 0⟩] scope pos) spos) (tAsg (tLc wi g tt te (own.map (·.2))) (L2.gName i)) (sAsg (dLcC dw dg dt de (own.map (·.2))) (gName i)) :=
  ⟨ps_setLc hc hN hy hyl hsw hi.pe ok (fun s H C cl fp => (hg s H C cl fp).pe) (fun s H C cl fp => (ht s H C cl fp).pe) (fun s H C cl fp => (he s H C cl fp).pe) hs,
    ss_asg (se_lc hi.sn (hg X.s_0 X.H_0 0 [] []).sn (ht X.s_0 X.H_0 0 [] []).sn (he X.s_0 X.H_0 0 [] []).sn (fun Q' L _ μ => Q' (.ref L) μ) fin_c) sg_name⟩
end
/-- by an invariant; the cells stay -/
theorem lcL_inv {g : DTG} {tt : DTT} {te : DTE} {δ : Sl} {L : Addr} {C : Mu → Prop} {k : List D → Mu → Prop} {xs : List D} {μ : Mu} (P : Nat → List D → Prop) (h0 : P 0 []) (hl : xs.length ≤ 16777216) (hC : ∀ μ' : Mu, (∀ a, a ≠ L → μ' a = μ a) → C μ')
    (hs : ∀ i x acc (μ' : Mu) (c : Option D → Mu → Prop), xs[i]? = some x → P i acc → acc.length ≤ i → (∀ y, P (i + 1) (acc ++ [y]) → c (some y) μ') → (P (i + 1) acc → c none μ') → (∀ a, a ≠ L → μ' a = μ a) → lcStep g tt te δ x μ' c)
    (hd : ∀ acc, P xs.length acc → acc.length ≤ xs.length → k acc (mup μ L (.lst acc))) : lcL g tt te δ L C k xs [] (mup μ L (.lst [])) := by
  have gen : ∀ (n : Nat) (i : Nat), xs.length - i = n → i ≤ xs.length → ∀ acc, acc.length ≤ i → P i acc → lcL g tt te δ L C k (xs.drop i) acc (mup μ L (.lst acc)) := by
    intro n
    induction n with
    | zero =>
      intro i hn hi acc ha p
      have e : i = xs.length := by omega
      subst e
      rw [List.drop_length]
      exact ⟨hC _ fun a ne => mup_ne ne, mup_same, hd acc p ha⟩
    | succ n ih =>
      intro i hn hi acc ha p
      have hlt : i < xs.length := by omega
      rw [List.drop_eq_getElem_cons hlt]
      rw [lcL]
      refine ⟨hC _ fun a ne => mup_ne ne, hs i _ acc (mup μ L (.lst acc)) _ (List.getElem?_eq_getElem hlt) p ha (fun y p' => ?_) (fun p' => ?_) fun a ne => mup_ne ne⟩
      · refine ⟨mup_same, by omega, ?_⟩
        rw [mup_mup]
        exact ih (i + 1) (by omega) hlt _ (by rw [List.length_append]; simp; omega) p'
      · exact ih (i + 1) (by omega) hlt _ (by omega) p'
  simpa using gen _ 0 rfl (Nat.zero_le _) [] (Nat.le_refl _) h0
/-- each thing to its own -/
theorem lcL_map {g : DTG} {tt : DTT} {te : DTE} {δ : Sl} {L : Addr} {C : Mu → Prop} {k : List D → Mu → Prop} {xs : List D} {μ : Mu} (f : D → Option D) (hl : xs.length ≤ 16777216) (hC : ∀ μ' : Mu, (∀ a, a ≠ L → μ' a = μ a) → C μ')
    (hs : ∀ x ∈ xs, ∀ (μ' : Mu) (c : Option D → Mu → Prop), (∀ a, a ≠ L → μ' a = μ a) → c (f x) μ' → lcStep g tt te δ x μ' c) (hd : k (xs.filterMap f) (mup μ L (.lst (xs.filterMap f)))) : lcL g tt te δ L C k xs [] (mup μ L (.lst [])) := by
  refine lcL_inv (fun i acc => acc = (xs.take i).filterMap f) rfl hl hC (fun i x acc μ' c hx p ha h1 h2 hm => ?_) (fun acc p _ => ?_)
  · subst p
    refine hs x (List.mem_of_getElem? hx) μ' c hm ?_
    have e : (xs.take (i + 1)).filterMap f = (xs.take i).filterMap f ++ (f x).toList := by
      rw [List.take_add_one, hx, List.filterMap_append]
      cases h : f x <;> simp [h]
    cases h : f x with
    | none => rw [h] at e; exact h2 (by rw [e]; simp)
    | some y => rw [h] at e; exact h1 y (by rw [e]; simp)
  · rw [List.take_length] at p
    subst p
    exact hd
end Dl

set_option Elab.async false
set_option linter.all false
set_option maxRecDepth 100000
namespace Dl
open PySem PySem.Spec PyProof.Rows L2
/-! ### what a def promises, by data -/
abbrev DSp := List D → Mu → DK → DX → Prop
def lift (K : PySem.W.Frag) (sp : DSp) : Sp := fun vs H Q E => ∃ ds μ Q' E', Reps K H μ vs ds ∧ Cells K H μ ∧ sp ds μ Q' E' ∧ QR K H μ Q Q' ∧ XR K H μ E E'
theorem passN {X : Cx} {E : XK} : Passes L2.CX0 X E := fun _ _ _ _ _ _ _ h => h.elim
def dCall (sp : DSp) (dds : List D) (a : DTA) : DTE := fun E δ μ Q => a E δ μ fun ds μ1 => sp (ds ++ dds) μ1 Q E
def insOf (C : Addr) (ks : List Str) (d : D) : Prop := match d with | .ins C' ks' _ => C' = C ∧ ks' = ks | _ => False
def dMeth (C : Addr) (ks : List Str) (sp : DSp) (dds : List D) (o : DTE) (a : DTA) : DTE := fun E δ μ Q => o E δ μ fun x μ1 => insOf C ks (rd μ1 x) ∧ a E δ μ1 fun ds μ2 => sp (x :: (ds ++ dds)) μ2 Q E
def dMake (C : Addr) (sp : DSp) (dds : List D) (a : DTA) : DTE := fun E δ μ Q => a E δ μ fun ds μ1 => ∀ p, μ1 p = none → sp (.ref p :: (ds ++ dds)) (mup μ1 p (.ins C [] [])) (fun v μ2 => v = .non ∧ Q (.ref p) μ2) E
theorem insOf_inv {C : Addr} {ks : List Str} {d : D} (h : insOf C ks d) : ∃ xs, d = .ins C ks xs := by
  cases d with
  | ins C' ks' xs => obtain ⟨rfl, rfl⟩ := h; exact ⟨xs, rfl⟩
  | _ => exact h.elim
theorem lookup_none : ∀ {fs : List (Str × V)} {m : Str}, m ∉ fs.map (·.1) → fs.lookup m = none
  | [], _, _ => rfl
  | (g, w) :: fs, m, h => by
    simp at h
    have hb : (m == g) = false := beq_eq_false_iff_ne.mpr h.1
    rw [List.lookup, hb]
    exact lookup_none (by simpa using h.2)
section
variable {X : Cx} {E : XK} {CX : CXT} {k : Nat} {f C : Addr} {fd : FuncData} {ps : List Str} {sp : DSp} {dvs : List V} {dds : List D} {ds : List Value} {x m : Str} {p pos apos : Pos} {e o : Expr} {es : List Expr} {ta : TE} {t : TA} {dob : DTE} {d : DTA} {K : PySem.W.Frag}
theorem reps_nil {K : PySem.W.Frag} {H : Hp} {μ : Mu} : Reps K H μ [] [] := .nil
theorem de_call (F : FnOk X.prog X.w X.K X.mg X.base CX k f fd ps (lift K sp)) (hr : Room k X.A) (hg : Gl X x) (hm : X.mg x = some (.ref f)) (hk : PySem.W.keepIn X.K (.ref f) = true) (hb : Binds X.K fd ps ds) (hd : Vals dvs ds) (hq : ∀ H μ, Reps K H μ dvs dds) (hx : Passes CX X E)
    (ha : DA X E (e :: es) t d) (hdb : (x == ("__debug__" : Str)) = false := by decide) (he : starEach (e :: es) X.env = (false, eval e X.env) :: starEach es X.env := by rfl) (hpl : (backTo pos (starEach es X.env)).any (·.1) = false := by rfl) (hK : X.K = K := by rfl) :
    DE X E (.Call (.Name x p) (e :: es) [] pos) (tCall (lift K sp) dvs E t) (dCall sp dds d) := by
 subst hK
 exact ⟨pe_call F hr hg hm hk hb hd hx ha.pe hdb he hpl, ⟨fun {σ H δ μ Q Q' E'} hh x d q => ha.sn.go hh x d fun vs xs H1 μ1 t1 r1 d1 => ⟨_, _, _, _, r1.append (hq _ _), t1.cells, d1, q.go t1, x.go t1⟩⟩⟩
theorem de_call0 (F : FnOk X.prog X.w X.K X.mg X.base CX k f fd ps (lift K sp)) (hr : Room k X.A) (hg : Gl X x) (hm : X.mg x = some (.ref f)) (hk : PySem.W.keepIn X.K (.ref f) = true) (hb : Binds X.K fd ps ds) (hd : Vals dvs ds) (hq : ∀ H μ, Reps K H μ dvs dds) (hx : Passes CX X E)
    (hdb : (x == ("__debug__" : Str)) = false := by decide) (hK : X.K = K := by rfl) : DE X E (.Call (.Name x p) [] [] pos) (tCall (lift K sp) dvs E tNil) (dCall sp dds dNil) := by
 subst hK
 exact ⟨pe_call0 F hr hg hm hk hb hd hx hdb, ⟨fun {σ H δ μ Q Q' E'} hh x d q => ⟨_, _, _, _, hq _ _, hh.cells, d, q, x⟩⟩⟩
theorem se_meth {K : PySem.W.Frag} {ks : List Str} (ho : SE K E ta dob) (ha : SA K E t d) (hn : m ∉ ks) (hq : ∀ H μ, Reps K H μ dvs dds) : SE K E (tMeth C m (lift K sp) dvs E ta t) (dMeth C ks sp dds dob d) :=
  ⟨fun {σ H δ μ Q Q' E'} hh x d q => ho.go hh x d fun v y H1 μ1 t1 r1 d1 => by
    obtain ⟨d1, d2⟩ := d1
    obtain ⟨xs, e⟩ := insOf_inv d1
    obtain ⟨a, dx, fs, rfl, ha1, hk, rr⟩ := rd_ins t1.cells r1 e
    subst hk
    exact ⟨a, dx, fs, rfl, ha1, lookup_none hn, ha.go (hh.go t1) (x.go t1) d2 fun vs zs H2 μ2 t2 r2 d3 => ⟨_, _, _, _, .cons (r1.grow t2.g) (r2.append (hq _ _)), t2.cells, d3, (q.go t1).go t2, (x.go t1).go t2⟩⟩⟩
theorem de_meth {pl : Sem Bool} {ks : List Str} (ho : DE X E o ta dob) (c : Cls X.K C) (hm : Meth X.K C m f) (F : FnOk X.prog X.w X.K X.mg X.base CX k f fd ps (lift K sp)) (hr : Room k X.A) (hb : Binds X.K fd ps ds) (hd : Vals dvs ds) (hq : ∀ H μ, Reps K H μ dvs dds) (hx : Passes CX X E) (hn : m ∉ ks) (ha : DA X E (e :: es) t d)
    (hst : starEach (e :: es) X.env = (false, eval e X.env) :: starEach es X.env := by rfl) (hpl : (backTo pos (starEach es X.env)).any (·.1) = false := by rfl)
    (ht : eval (.Call (.Attribute o m apos) (e :: es) [] pos) X.env = (do
      let ov ← eval o X.env
      standAt apos.atName
      let (f, first) ← holding [ov] (getMethod ov m pl)
      callWith pos f first (backTo pos (starEach (e :: es) X.env)) (backToKw pos (keywordEach [] X.env))) := by rfl) (hK : X.K = K := by rfl) :
    DE X E (.Call (.Attribute o m apos) (e :: es) [] pos) (tMeth C m (lift K sp) dvs E ta t) (dMeth C ks sp dds dob d) := by
 subst hK
 exact ⟨pe_meth ho.pe c hm F hr hb hd hx ha.pe hst hpl ht, se_meth ho.sn ha.sn hn hq⟩
theorem de_meth0 {pl : Sem Bool} {ks : List Str} (ho : DE X E o ta dob) (c : Cls X.K C) (hm : Meth X.K C m f) (F : FnOk X.prog X.w X.K X.mg X.base CX k f fd ps (lift K sp)) (hr : Room k X.A) (hb : Binds X.K fd ps ds) (hd : Vals dvs ds) (hq : ∀ H μ, Reps K H μ dvs dds) (hx : Passes CX X E) (hn : m ∉ ks)
    (ht : eval (.Call (.Attribute o m apos) [] [] pos) X.env = (do
      let ov ← eval o X.env
      standAt apos.atName
      let (f, first) ← holding [ov] (getMethod ov m pl)
      callWith pos f first (backTo pos (starEach [] X.env)) (backToKw pos (keywordEach [] X.env))) := by rfl) (hK : X.K = K := by rfl) :
    DE X E (.Call (.Attribute o m apos) [] [] pos) (tMeth C m (lift K sp) dvs E ta tNil) (dMeth C ks sp dds dob dNil) := by
 subst hK
 exact ⟨pe_meth0 ho.pe c hm F hr hb hd hx ht, se_meth ho.sn da_nil.sn hn hq⟩
theorem se_make {K : PySem.W.Frag} (ha : SA K E t d) (hq : ∀ H μ, Reps K H μ dvs dds) : SE K E (tMake C (lift K sp) dvs E t) (dMake C sp dds d) :=
  ⟨fun {σ H δ μ Q Q' E'} hh x d q => ha.go hh x d fun vs xs H1 μ1 t1 r1 d1 p dx hp hdx hne => by
    have t2 : Then K H1 μ1 (upd H1 dx (.own p)) μ1 := .new t1.cells hdx
    have hp2 : upd H1 dx (.own p) p = none := by rw [upd_ne (Ne.symm hne)]; exact hp
    have t3 : Then K (upd H1 dx (.own p)) μ1 (upd (upd H1 dx (.own p)) p (.ins C dx [])) (mup μ1 p (.ins C [] [])) := .cell t2.cells hp2 (con_ins upd_same rfl .nil)
    have t23 := t2.trans t3
    refine ⟨_, _, _, _, .cons (.ref p) ((r1.grow t23.g).append (hq _ _)), t3.cells, d1 p (mu_none t1.cells hp), fun v z H' μ' t4 r4 q4 => ?_, (x.go t1).go t23⟩
    obtain ⟨rfl, q5⟩ := q4
    exact ⟨r4.non_inv, q _ _ _ _ ((t1.trans t23).trans t4) (.ref p) q5⟩⟩
theorem de_make (M : Mk X.K C f) (F : FnOk X.prog X.w X.K X.mg X.base CX k f fd ps (lift K sp)) (hr : Room (k + 1) X.A) (hg : Gl X x) (hm : X.mg x = some (.ref C)) (hb : Binds X.K fd ps ds) (hd : Vals dvs ds) (hq : ∀ H μ, Reps K H μ dvs dds) (hx : Passes CX X E)
    (ha : DA X E (e :: es) t d) (hdb : (x == ("__debug__" : Str)) = false := by decide) (he : starEach (e :: es) X.env = (false, eval e X.env) :: starEach es X.env := by rfl) (hpl : (backTo pos (starEach es X.env)).any (·.1) = false := by rfl) (hK : X.K = K := by rfl) :
    DE X E (.Call (.Name x p) (e :: es) [] pos) (tMake C (lift K sp) dvs E t) (dMake C sp dds d) := by
 subst hK
 exact ⟨pe_make M F hr hg hm hb hd hx ha.pe hdb he hpl, se_make ha.sn hq⟩
theorem de_make0 (M : Mk X.K C f) (F : FnOk X.prog X.w X.K X.mg X.base CX k f fd ps (lift K sp)) (hr : Room (k + 1) X.A) (hg : Gl X x) (hm : X.mg x = some (.ref C)) (hb : Binds X.K fd ps ds) (hd : Vals dvs ds) (hq : ∀ H μ, Reps K H μ dvs dds) (hx : Passes CX X E)
    (hdb : (x == ("__debug__" : Str)) = false := by decide) (hK : X.K = K := by rfl) : DE X E (.Call (.Name x p) [] [] pos) (tMake C (lift K sp) dvs E tNil) (dMake C sp dds dNil) := by
 subst hK
 exact ⟨pe_make0 M F hr hg hm hb hd hx hdb, se_make da_nil.sn hq⟩
/-! raise -/
def sRaise (C : Addr) (f : Str) (a : DTA) : DTS := fun E _ δ μ => a E δ μ fun vs μ1 => one vs fun x => E C f x μ1
theorem ds_raise {a : Expr} {nm fld : Str} {C fI : Addr} {pos2 : Pos} (hc : X.calm = true) (T : Sx.Txt X.prog X.K X.mg nm fld C fI) (hr : Room k X.A) (tk : Takes X (fun cls d _ H => E cls d H)) (ha : DA X E [a] t d) (hg : Gl X nm := by rfl) (hdb : (nm == ("__debug__" : Str)) = false := by decide)
    (he : starEach (a :: []) X.env = (false, eval a X.env) :: starEach [] X.env := by rfl) (hpl : (backTo pos (starEach [] X.env)).any (·.1) = false := by rfl) :
    DS X E (.Raise (some (.Call (.Name nm p) [a] [] pos)) none pos2) (Ms.tRaiseS fld C (fun cls d _ H => E cls d H) t) (sRaise C fld d) :=
  ⟨Ms.ps_raiseS hc T hr tk ha.pe hg hdb he hpl, ⟨fun {σ H δ μ D D' E'} hh x d q => ha.sn.go hh x d fun vs xs H1 μ1 t1 r1 d1 => by
    obtain ⟨y, rfl, d2⟩ := one_inv d1
    obtain ⟨v, rfl, r0⟩ := r1.inv1
    refine ⟨v, rfl, fun a ha => ?_⟩
    have t2 : Then X.K H1 μ1 (upd H1 a (.xd [(fld, v)])) μ1 := .new t1.cells ha
    exact x C fld y v a _ _ (t1.trans t2) (r0.grow t2.g) upd_same d2⟩⟩
end
/-! ### a def's body -/
def startD (N : List Str) (ds : List D) : Sl := ds.map some ++ List.replicate (N.length - ds.length) none
theorem slots_start {K : PySem.W.Frag} {H : Hp} {μ : Mu} {N : List Str} {vs : List V} {ds : List D} (r : Reps K H μ vs ds) : Slots K H μ (L2.start N vs) (startD N ds) := by
  unfold L2.start startD
  refine ⟨by rw [List.length_append, List.length_append, List.length_map, List.length_map, List.length_replicate, List.length_replicate, r.length], fun i d e => ?_⟩
  have hi : i < ds.length := by
    rcases Nat.lt_or_ge i ds.length with h | h
    · exact h
    · rw [List.getElem?_append_right (by simpa using h), List.getElem?_replicate] at e
      split at e <;> cases e
  rw [List.getElem?_append_left (by simpa using hi), List.getElem?_map] at e
  cases h : ds[i]? with
  | none => rw [h] at e; cases e
  | some y =>
    rw [h] at e
    cases e
    obtain ⟨v, h1, h2⟩ := r.get h
    exact ⟨v, by rw [List.getElem?_append_left (by rw [List.length_map, r.length]; exact hi), List.getElem?_map, h1]; rfl, h2⟩
section
variable {P : Program} {w : World} {K : PySem.W.Frag} {mg : Str → Option Value} {base : Heap} {x qual : Str} {st : Stmt} {dvs : List V} {f : Addr} {fd : FuncData} {c : Addr} {N ps : List Str} {k : Nat} {sp : DSp}
theorem er_of {H : Hp} {μ : Mu} {Q : VK} {Q' : DK} (q : QR K H μ Q Q') : ER K H μ { nx := fun _ H' => Q .non H', rt := Q } { nx := fun _ μ' => Q' .non μ', rt := Q' } :=
  ⟨fun _ _ _ _ t _ h => q _ _ _ _ t .non h, q, .none, .none⟩
theorem fn_n (F : Ms.FunC K x qual st dvs f fd c) (S : FnScope N ps (defScope st)) (len : ∀ ds μ Q E, sp ds μ Q E → ds.length = ps.length)
    (body : ∀ (A : Around) (outer : List Env) (s : Shared) (H : Hp) (E : XK), Room k (A.deeper (envOfC qual (defScope st) s.heap.objs.size f (.ref c))) →
      ∃ t d, DSs (cxOf L2.CX0 P w K mg base N qual (defScope st) f (.ref c) A outer s H E).nox E0 (defBody st) t d ∧ ∀ ds μ Q' E', sp ds μ Q' E' → d noX { nx := fun _ μ' => Q' .non μ', rt := Q' } (startD N ds) μ) : FnOk P w K mg base L2.CX0 (k + 1) f fd ps (lift K sp) :=
  F.ok S (fun vs H Q E h => by obtain ⟨ds, μ, Q', E', r, _, h, _⟩ := h; rw [r.length]; exact len _ _ _ _ h) fun A outer s H vs Q E hr h => by
    obtain ⟨t, d, hd, hb⟩ := body A outer s H E hr
    obtain ⟨ds, μ, Q', E', r, c, h, q, xr⟩ := h
    exact ⟨t, hd.pe, hd.sn.go ⟨c, slots_start r⟩ xr_no (hb _ _ _ _ h) (er_of q)⟩
theorem fn_x (F : Ms.FunC K x qual st dvs f fd c) (S : FnScope N ps (defScope st)) (len : ∀ ds μ Q E, sp ds μ Q E → ds.length = ps.length)
    (body : ∀ (A : Around) (outer : List Env) (s : Shared) (H : Hp) (E : XK), Room k (A.deeper (envOfC qual (defScope st) s.heap.objs.size f (.ref c))) →
      ∃ t d, DSs (cxOf (L2.CX P w) P w K mg base N qual (defScope st) f (.ref c) A outer s H E) E (defBody st) t d ∧ ∀ ds μ Q' E', sp ds μ Q' E' → d E' { nx := fun _ μ' => Q' .non μ', rt := Q' } (startD N ds) μ) : FnOk P w K mg base (L2.CX P w) (k + 1) f fd ps (lift K sp) :=
  F.okX S (fun vs H Q E h => by obtain ⟨ds, μ, Q', E', r, _, h, _⟩ := h; rw [r.length]; exact len _ _ _ _ h) fun A outer s H vs Q E hr h => by
    obtain ⟨t, d, hd, hb⟩ := body A outer s H E hr
    obtain ⟨ds, μ, Q', E', r, c, h, q, xr⟩ := h
    exact ⟨t, hd.pe, hd.sn.go ⟨c, slots_start r⟩ xr (hb _ _ _ _ h) (er_of q)⟩
end
end Dl

set_option Elab.async false
set_option linter.all false
set_option maxRecDepth 100000
namespace Dl
open PySem PySem.Spec PyProof.Rows L2
/-! ### == of data at any depth -/
mutual
def toP : D → PyData
  | .bl b => .bool b
  | .int i => .int i
  | .str l => .str (ofL l)
  | .lst xs => .list (toPs xs)
  | .tup xs => .tuple (toPs xs)
  | .non | .ty _ | .ref _ | .ins .. | .dK .. | .dT .. | .src | .scr _ | .tab _ | .lam .. | .exc .. => .none
def toPs : List D → List PyData
  | [] => []
  | x :: xs => toP x :: toPs xs
end
mutual
/-- plain data, at most so deep -/
def isP : Nat → D → Bool
  | _, .non | _, .bl _ | _, .int _ => true
  | _, .str l => l.all (· < 0x110000)
  | n + 1, .lst xs => isPs n xs
  | n + 1, .tup xs => isPs n xs
  | 0, .lst _ | 0, .tup _ | _, .ty _ | _, .ref _ | _, .ins .. | _, .dK .. | _, .dT .. | _, .src | _, .scr _ | _, .tab _ | _, .lam .. | _, .exc .. => false
def isPs : Nat → List D → Bool
  | _, [] => true
  | n, x :: xs => isP n x && isPs n xs
end
theorem isPs_iff {n : Nat} : ∀ {xs : List D}, isPs n xs = true ↔ ∀ x ∈ xs, isP n x = true
  | [] => by simp [isPs]
  | x :: xs => by rw [isPs, Bool.and_eq_true, isPs_iff]; simp
mutual
theorem isP_ok : ∀ (d : D) {n : Nat}, isP n d = true → (toP d).canLay0 = true ∧ (toP d).depth ≤ n
  | .non, n, _ => ⟨by simp [toP, PyData.canLay0], by simp [toP, PyData.depth]⟩
  | .bl b, n, _ => ⟨by simp [toP, PyData.canLay0], by simp [toP, PyData.depth]⟩
  | .int b, n, _ => ⟨by simp [toP, PyData.canLay0], by simp [toP, PyData.depth]⟩
  | .str l, n, h => ⟨by
      have h : l.all (· < 0x110000) = true := by cases n <;> exact h
      show (ofL l).cps.all (· < 0x110000) = true
      rw [List.all_toArray]; exact h, by simp [toP, PyData.depth]⟩
  | .lst xs, 0, h => by cases h
  | .lst xs, n + 1, h => by
    obtain ⟨a, b⟩ := isPs_ok xs (n := n) h
    exact ⟨by rw [toP, PyData.canLay0]; exact a, by rw [toP, PyData.depth]; omega⟩
  | .tup xs, 0, h => by cases h
  | .tup xs, n + 1, h => by
    obtain ⟨a, b⟩ := isPs_ok xs (n := n) h
    exact ⟨by rw [toP, PyData.canLay0]; exact a, by rw [toP, PyData.depth]; omega⟩
  | .ty _, n, h => by cases n <;> cases h
  | .ref _, n, h => by cases n <;> cases h
  | .ins .., n, h => by cases n <;> cases h
  | .dK .., n, h => by cases n <;> cases h
  | .dT .., n, h => by cases n <;> cases h
  | .src, n, h => by cases n <;> cases h
  | .scr _, n, h => by cases n <;> cases h
  | .tab _, n, h => by cases n <;> cases h
  | .lam .., n, h => by cases n <;> cases h
  | .exc .., n, h => by cases n <;> cases h
theorem isPs_ok : ∀ (xs : List D) {n : Nat}, isPs n xs = true → PyData.canLayAll0 (toPs xs) = true ∧ PyData.depthAll (toPs xs) ≤ n
  | [], n, _ => ⟨by simp [toPs, PyData.canLayAll0], by simp [toPs, PyData.depthAll]⟩
  | x :: xs, n, h => by
    rw [isPs, Bool.and_eq_true] at h
    obtain ⟨a, b⟩ := isP_ok x h.1
    obtain ⟨c, d⟩ := isPs_ok xs h.2
    exact ⟨by rw [toPs, PyData.canLayAll0, a, c]; rfl, by rw [toPs, PyData.depthAll]; omega⟩
end
theorem isP_shaped {d : D} {n : Nat} (hn : n ≤ 64) (h : isP n d = true) : SeqAt.shaped (toP d) = true := by
  obtain ⟨a, b⟩ := isP_ok d h
  unfold SeqAt.shaped
  rw [a, decide_eq_true (by omega)]
  rfl
section
variable {K : PySem.W.Frag} {H : Hp} {μ : Mu}
mutual
theorem rep_dp : ∀ (d : D) {n : Nat} {v : V}, isP n d = true → Rep K H μ v d → Dp K H v (toP d)
  | .non, n, v, _, r => by cases r.non_inv; rw [toP]; exact .non
  | .bl b, n, v, _, r => by cases r.bl_inv; rw [toP]; exact .bl b
  | .int b, n, v, _, r => by cases r.int_inv; rw [toP]; exact .int b
  | .str l, n, v, _, r => by cases r.str_inv; rw [toP]; exact .str _
  | .lst xs, 0, v, h, r => by cases h
  | .lst xs, n + 1, v, h, r => by
    obtain ⟨a, vs, rfl, _, ha, ra⟩ := r.lst_inv
    rw [toP]
    exact .lst (SqL.of ha) (reps_dp xs (n := n) h ra)
  | .tup xs, 0, v, h, r => by cases h
  | .tup xs, n + 1, v, h, r => by
    obtain ⟨a, vs, rfl, ha, ra⟩ := r.tup_inv
    rw [toP]
    exact .tup ha (reps_dp xs (n := n) h ra)
  | .ty _, n, v, h, r => by cases n <;> cases h
  | .ref _, n, v, h, r => by cases n <;> cases h
  | .ins .., n, v, h, r => by cases n <;> cases h
  | .dK .., n, v, h, r => by cases n <;> cases h
  | .dT .., n, v, h, r => by cases n <;> cases h
  | .src, n, v, h, r => by cases n <;> cases h
  | .scr _, n, v, h, r => by cases n <;> cases h
  | .tab _, n, v, h, r => by cases n <;> cases h
  | .lam .., n, v, h, r => by cases n <;> cases h
  | .exc .., n, v, h, r => by cases n <;> cases h
theorem reps_dp : ∀ (xs : List D) {n : Nat} {vs : List V}, isPs n xs = true → Reps K H μ vs xs → DpAll K H vs (toPs xs)
  | [], n, vs, _, r => by cases r.nil_inv; rw [toPs]; exact .nil
  | x :: xs, n, vs, h, r => by
    obtain ⟨v, r0, rfl, h1, h2⟩ := r.cons_inv
    rw [isPs, Bool.and_eq_true] at h
    rw [toPs]
    exact .cons (rep_dp x h.1 h1) (reps_dp xs h.2 h2)
end
theorem con_dp {d : D} {n : Nat} {v : V} (c : Cells K H μ) (r : Rep K H μ v d) (h : isP n (rd μ d) = true) : Dp K H v (toP (rd μ d)) := by
  rcases rd_inv c r with q | ⟨a, rfl, _, _, q⟩
  · rw [q] at h ⊢
    exact rep_dp d h r
  · generalize rd μ d = z at h q
    cases q with
    | lst g rr =>
      cases n with
      | zero => cases h
      | succ n => rw [toP]; exact .lst (SqL.of g) (reps_dp _ (n := n) h rr)
    | tup g rr =>
      cases n with
      | zero => cases h
      | succ n => rw [toP]; exact .tup (.inl g) (reps_dp _ (n := n) h rr)
    | ins g rr => cases n <;> cases h
    | dK g rr => cases n <;> cases h
    | dT g rr => cases n <;> cases h
    | src x y z g => cases n <;> cases h
    | tab g => cases n <;> cases h
end
def gEqD (neg : Bool) : G2 := fun x y μ Q => isP 9 (rd μ x) = true ∧ isP 9 (rd μ y) = true ∧ Q (.bl (if neg then !PyData.eqv (toP (rd μ x)) (toP (rd μ y)) else PyData.eqv (toP (rd μ x)) (toP (rd μ y)))) μ
theorem o_eqD {K : PySem.W.Frag} {X : Cx} (hu : X.A.units + 64 < cLine) (hK : X.K = K := by rfl) : DOp X (compareOp .Eq) (rEqD K) (gEqD false) := by
 subst hK
 exact ⟨op_eqD hu, fun {x y dx dy H μ Q Q'} c r1 r2 d q =>
  ⟨_, _, con_dp c r1 d.1, con_dp c r2 d.2.1, isP_shaped (by decide) d.1, isP_shaped (by decide) d.2.1, q _ _ _ _ (.refl c) (.bl _) d.2.2⟩⟩
theorem o_neD {K : PySem.W.Frag} {X : Cx} (hu : X.A.units + 64 < cLine) (hK : X.K = K := by rfl) : DOp X (compareOp .NotEq) (rNeD K) (gEqD true) := by
 subst hK
 exact ⟨op_neD hu, fun {x y dx dy H μ Q Q'} c r1 r2 d q =>
  ⟨_, _, con_dp c r1 d.1, con_dp c r2 d.2.1, isP_shaped (by decide) d.1, isP_shaped (by decide) d.2.1, q _ _ _ _ (.refl c) (.bl _) d.2.2⟩⟩
mutual
/-- data without a truth -/
def noB : D → Bool
  | .non | .int _ | .str _ => true
  | .lst xs => noBs xs
  | .tup xs => noBs xs
  | .bl _ | .ty _ | .ref _ | .ins .. | .dK .. | .dT .. | .src | .scr _ | .tab _ | .lam .. | .exc .. => false
def noBs : List D → Bool
  | [] => true
  | x :: xs => noB x && noBs xs
end
theorem noBs_iff : ∀ {xs : List D}, noBs xs = true ↔ ∀ x ∈ xs, noB x = true
  | [] => by simp [noBs]
  | x :: xs => by rw [noBs, Bool.and_eq_true, noBs_iff]; simp
mutual
theorem eqv_iff : ∀ (x y : D), noB x = true → noB y = true → (PyData.eqv (toP x) (toP y) = true ↔ x = y)
  | .non, y, _, h => by cases y <;> simp [noB, toP, PyData.eqv] at h ⊢
  | .int i, y, _, h => by cases y <;> simp [noB, toP, PyData.eqv] at h ⊢
  | .str l, y, _, h => by
    cases y <;> simp [noB, toP, PyData.eqv] at h ⊢
  | .lst xs, y, h', h => by
    cases y with
    | lst ys => rw [toP, toP, PyData.eqv, D.lst.injEq]; exact eqvs_iff xs ys (by simpa [noB] using h') (by simpa [noB] using h)
    | _ => simp [noB, toP, PyData.eqv] at h ⊢
  | .tup xs, y, h', h => by
    cases y with
    | tup ys => rw [toP, toP, PyData.eqv, D.tup.injEq]; exact eqvs_iff xs ys (by simpa [noB] using h') (by simpa [noB] using h)
    | _ => simp [noB, toP, PyData.eqv] at h ⊢
  | .bl _, y, h, _ => by cases h
  | .ty _, y, h, _ => by cases h
  | .ref _, y, h, _ => by cases h
  | .ins .., y, h, _ => by cases h
  | .dK .., y, h, _ => by cases h
  | .dT .., y, h, _ => by cases h
  | .src, y, h, _ => by cases h
  | .scr _, y, h, _ => by cases h
  | .tab _, y, h, _ => by cases h
  | .lam .., y, h, _ => by cases h
  | .exc .., y, h, _ => by cases h
theorem eqvs_iff : ∀ (xs ys : List D), noBs xs = true → noBs ys = true → (PyData.eqvAll (toPs xs) (toPs ys) = true ↔ xs = ys)
  | [], [], _, _ => by simp [toPs, PyData.eqvAll]
  | [], y :: ys, _, _ => by simp [toPs, PyData.eqvAll]
  | x :: xs, [], _, _ => by simp [toPs, PyData.eqvAll]
  | x :: xs, y :: ys, h1, h2 => by
    rw [noBs, Bool.and_eq_true] at h1 h2
    rw [toPs, toPs, PyData.eqvAll, Bool.and_eq_true, eqv_iff x y h1.1 h2.1, eqvs_iff xs ys h1.2 h2.2, List.cons.injEq]
end
theorem eqv_dec (x y : D) (h1 : noB x = true) (h2 : noB y = true) {p : Prop} [Decidable p] (e : x = y ↔ p) : PyData.eqv (toP x) (toP y) = decide p := by
  rw [Bool.eq_iff_iff, eqv_iff x y h1 h2, e, decide_eq_true_iff]
/-! more operators -/
def gScr : G2 := fun x y μ Q => match x with | .scr ns => (rd μ y).toL fun m => ns.length + m.length ≤ 16777216 ∧ Q (.lst (ns.map .int ++ m)) μ | _ => False
def gCatC : G2 := fun x y μ Q => (rd μ x).toL fun l => (rd μ y).toL fun m => l.length + m.length ≤ 16777216 ∧ ∀ p, μ p = none → Q (.ref p) (mup μ p (.lst (l ++ m)))
def gRepC : G2 := fun x y μ Q => (rd μ x).toL fun l => y.toI fun k => k < 2 ^ 62 ∧ -(2 ^ 62) < k ∧ l.length * k.toNat ≤ 16777216 ∧ ∀ p, μ p = none → Q (.ref p) (mup μ p (.lst (List.replicate k.toNat l).flatten))
section
variable {X : Cx} {E : XK} {a e o i : Expr} {ta te to ti : TE} {da de dob di : DTE} {pos : Pos} {x : Str}
theorem o_catC : DOp X (binaryOp .Add) rCat gCatC := ⟨op_cat, fun {x y dx dy H μ Q Q'} c r1 r2 d q => by
  obtain ⟨l, e1, d1⟩ := toL_inv d
  obtain ⟨m, e2, hl, d2⟩ := toL_inv d1
  obtain ⟨a, vs, rfl, ha, ra⟩ := rd_lst c r1 e1
  obtain ⟨b, ws, rfl, hb, rb⟩ := rd_lst c r2 e2
  exact ⟨a, b, vs, ws, rfl, rfl, ha, hb, by rw [ra.length, rb.length, sizeLine_eq]; exact hl, fun p hp => q _ _ _ _ (.cell c hp (con_lst hp (ra.append rb))) (.ref p) (d2 p (mu_none c hp))⟩⟩
theorem o_repC : DOp X (binaryOp .Mult) rRep gRepC := ⟨op_rep, fun {x y dx dy H μ Q Q'} c r1 r2 d q => by
  obtain ⟨l, e1, d1⟩ := toL_inv d
  obtain ⟨k, rfl, h1, h2, h3, d2⟩ := toI_inv (d := dy) d1
  obtain ⟨a, vs, rfl, ha, ra⟩ := rd_lst c r1 e1
  exact ⟨a, k, vs, rfl, r2.int_inv, ha, by omega, by omega, by rw [ra.length, sizeLine_eq]; exact h3, fun p hp => q _ _ _ _ (.cell c hp (con_lst hp (ra.rep _))) (.ref p) (d2 p (mu_none c hp))⟩⟩
def dNeg (a : DTE) : DTE := fun E δ μ Q => a E δ μ fun x μ1 => x.toI fun i => Q (.int (-i)) μ1
theorem de_neg (h : DE X E a ta da) : DE X E (.UnaryOp .USub a pos) (tUn (rU fun i => .int (-i)) ta) (dNeg da) := ⟨pe_un un_neg h.pe, ⟨fun {σ H δ μ Q Q' E'} hh x d q => h.sn.go hh x d fun v y H1 μ1 t1 r1 d1 => by
  obtain ⟨i, rfl, d2⟩ := toI_inv d1
  exact ⟨i, r1.int_inv, q _ _ _ _ t1 (.int _) d2⟩⟩⟩
/-- text * number -/
def gMulS : G2 := fun x y μ Q => x.toS fun l => y.toI fun k => k < 2 ^ 31 ∧ -(2 ^ 31) < k ∧ l.length * k.toNat ≤ 1000000 ∧ Q (.str (List.replicate k.toNat l).flatten) μ
/-- x in a list of plain things -/
def flatD : D → Bool
  | .non | .bl _ | .int _ | .str _ => true
  | _ => false
def gInL (neg : Bool) : G2 := fun x y μ Q => flatD x = true ∧ match rd μ y with
  | .lst xs => xs.all flatD = true ∧ Q (.bl (if neg then !xs.any (fun z => PyData.eqv (toP z) (toP x)) else xs.any (fun z => PyData.eqv (toP z) (toP x)))) μ
  | .tup xs => xs.all flatD = true ∧ Q (.bl (if neg then !xs.any (fun z => PyData.eqv (toP z) (toP x)) else xs.any (fun z => PyData.eqv (toP z) (toP x)))) μ
  | _ => False
theorem flat_ok {K : PySem.W.Frag} {H : Hp} {μ : Mu} {v : V} {d : D} (r : Rep K H μ v d) (h : flatD d = true) : flatV v = true := by
  cases d with
  | non => cases r.non_inv; rfl
  | bl b => cases r.bl_inv; rfl
  | int b => cases r.int_inv; rfl
  | str b => cases r.str_inv; rfl
  | _ => cases h
theorem eqV_ok {K : PySem.W.Frag} {H : Hp} {μ : Mu} {v w : V} {d e : D} (r : Rep K H μ v d) (s : Rep K H μ w e) (h : flatD d = true) (h2 : flatD e = true) : eqV v w = PyData.eqv (toP d) (toP e) := by
  cases d with
  | non =>
    cases r.non_inv
    cases e with
    | non => cases s.non_inv; rfl
    | bl b => cases s.bl_inv; rfl
    | int b => cases s.int_inv; rfl
    | str b => cases s.str_inv; rfl
    | _ => cases h2
  | bl b =>
    cases r.bl_inv
    cases e with
    | non => cases s.non_inv; rfl
    | bl b => cases s.bl_inv; rfl
    | int b => cases s.int_inv; rfl
    | str b => cases s.str_inv; rfl
    | _ => cases h2
  | int b =>
    cases r.int_inv
    cases e with
    | non => cases s.non_inv; rfl
    | bl b => cases s.bl_inv; rfl
    | int b => cases s.int_inv; rfl
    | str b => cases s.str_inv; rfl
    | _ => cases h2
  | str b =>
    cases r.str_inv
    cases e with
    | non => cases s.non_inv; rfl
    | bl b => cases s.bl_inv; rfl
    | int b => cases s.int_inv; rfl
    | str b => cases s.str_inv; rfl
    | _ => cases h2
  | _ => cases h
end
end Dl

set_option Elab.async false
set_option linter.all false
set_option maxRecDepth 100000
namespace Dl
open PySem PySem.Spec PyProof.Rows L2
section
variable {X : Cx} {E : XK} {a e o i : Expr} {ta te to ti : TE} {da de dob di : DTE} {pos pos' : Pos} {x : Str}
theorem o_scr {K : PySem.W.Frag} (hK : X.K = K := by rfl) : DOp X (binaryOp .Add) (fun x y H Q => ∃ l b xs zs, x = .ref l ∧ y = .ref b ∧ SqL K H l xs ∧ SqL K H b zs ∧ xs.length + zs.length ≤ sizeLine ∧ ∀ p, H p = none → Q (.ref p) (upd H p (.lst (xs ++ zs)))) gScr := by
 subst hK
 exact ⟨Ms.op_catS, fun {x y dx dy H μ Q Q'} c r1 r2 d q => by
  cases dx with
  | scr ns =>
    obtain ⟨m, e2, hl, d2⟩ := toL_inv (show (rd μ dy).toL _ from d)
    obtain ⟨a, rfl, ha⟩ := r1.scr_inv
    obtain ⟨b, ws, rfl, hb, rb⟩ := rd_lst c r2 e2
    exact ⟨a, b, _, ws, rfl, rfl, ha, SqL.of hb, by rw [List.length_map, rb.length, sizeLine_eq]; exact hl, fun p hp => q _ _ _ _ (.new c hp) (rep_lst c hp ((reps_ints ns).append rb)) d2⟩
  | _ => exact d.elim⟩
theorem inV_ok {K : PySem.W.Frag} {H : Hp} {μ : Mu} {v : V} {d : D} (r : Rep K H μ v d) (h : flatD d = true) : ∀ {vs : List V} {xs : List D}, Reps K H μ vs xs → xs.all flatD = true → vs.all flatV = true ∧ inV v vs = xs.any (fun z => PyData.eqv (toP z) (toP d))
  | _, _, .nil, _ => ⟨rfl, rfl⟩
  | _, _, .cons h1 h2, hx => by
    rw [List.all_cons, Bool.and_eq_true] at hx
    obtain ⟨a, b⟩ := inV_ok r h h2 hx.2
    refine ⟨by rw [List.all_cons, flat_ok h1 hx.1, a]; rfl, ?_⟩
    show (eqV _ v || inV v _) = _
    rw [List.any_cons, ← b, eqV_ok h1 r hx.1 h]
theorem in_ok {K : PySem.W.Frag} {neg : Bool} {x y : V} {dx dy : D} {H : Hp} {μ : Mu} {Q : VK} {Q' : DK} (c : Cells K H μ) (r1 : Rep K H μ x dx) (r2 : Rep K H μ y dy) (d : gInL neg dx dy μ Q') (q : QR K H μ Q Q') : rIn K neg x y H Q := by
  obtain ⟨hf, d⟩ := d
  cases e : rd μ dy with
  | lst xs =>
    simp only [e] at d
    obtain ⟨p, vs, rfl, hp, rp⟩ := rd_lst c r2 e
    obtain ⟨h1, h2⟩ := inV_ok r1 hf rp d.1
    exact ⟨p, vs, rfl, .inl (SqL.of hp), flat_ok r1 hf, h1, by rw [h2]; exact q _ _ _ _ (.refl c) (.bl _) d.2⟩
  | tup xs =>
    simp only [e] at d
    obtain ⟨p, vs, rfl, hp, rp⟩ := rd_tup c r2 e
    obtain ⟨h1, h2⟩ := inV_ok r1 hf rp d.1
    exact ⟨p, vs, rfl, .inr hp, flat_ok r1 hf, h1, by rw [h2]; exact q _ _ _ _ (.refl c) (.bl _) d.2⟩
  | _ => simp only [e] at d
theorem o_inL {K : PySem.W.Frag} (hK : X.K = K) : DOp X (compareOp .In) (rIn K false) (gInL false) := by subst hK; exact ⟨op_in_seq, in_ok⟩
theorem o_ninL {K : PySem.W.Frag} (hK : X.K = K) : DOp X (compareOp .NotIn) (rIn K true) (gInL true) := by subst hK; exact ⟨op_notIn_seq, in_ok⟩
/-! text * number -/
theorem mul_ofL (l : List Nat) (k : Int) : Txt.mul (ofL l) k = ofL (List.replicate k.toNat l).flatten := by
  unfold Txt.mul
  split
  · rename_i h
    rw [show k.toNat = 0 by omega]
    rfl
  · split
    · rename_i h1 h2
      rw [Bool.or_eq_true, beq_iff_eq, beq_iff_eq, ofL_len] at h2
      rcases h2 with rfl | h2
      · simp
      · rw [List.eq_nil_of_length_eq_zero h2]
        refine congrArg (fun l => (⟨List.toArray l⟩ : Str)) ?_
        rw [List.flatten_eq_nil_iff.mpr]
        intro l hl
        exact (List.mem_replicate.mp hl).2
    · refine Str.ext' ?_
      show (List.replicate k.toNat l.toArray).foldl (· ++ ·) #[] = _
      have gen : ∀ (n : Nat) (a : Array Nat), (List.replicate n l.toArray).foldl (· ++ ·) a = a ++ (List.replicate n l).flatten.toArray := by
        intro n
        induction n with
        | zero => intro a; simp
        | succ n ih => intro a; rw [List.replicate_succ, List.foldl_cons, ih, List.replicate_succ, List.flatten_cons]; simp
      rw [gen]
      simp
theorem mulOk_small {l : List Nat} {k : Int} (h1 : k < 2 ^ 31) (h2 : -(2 ^ 31) < k) (h3 : l.length * k.toNat ≤ 1000000) : MulOk (ofL l) k := by
  refine ⟨?_, fun hk _ => ?_, fun hk _ => ?_⟩
  · rw [Bool.or_eq_false_iff, decide_eq_false_iff_not, decide_eq_false_iff_not]
    omega
  · rw [ofL_len]
    intro h
    have h0 : (0 : Int) < k := by omega
    have e : (l.length : Int) * k ≤ 1000000 := by
      have : ((l.length * k.toNat : Nat) : Int) ≤ 1000000 := by omega
      rwa [Int.natCast_mul, Int.toNat_of_nonneg (by omega)] at this
    have := (Int.ediv_lt_iff_lt_mul h0).mp h
    omega
  · unfold Builtin.Str.tooLong
    rw [ofL_len, sizeLine_eq]
    exact decide_eq_false (by omega)
theorem o_mulS : DOp X (binaryOp .Mult) (fun x y H Q => ∃ z n, x = .str z ∧ y = .int n ∧ MulOk z n ∧ Q (.str (Txt.mul z n)) H) gMulS := ⟨Ms.op_mulS, fun {x y dx dy H μ Q Q'} c r1 r2 d q => by
  obtain ⟨l, rfl, d1⟩ := toS_inv d
  obtain ⟨k, rfl, h1, h2, h3, d2⟩ := toI_inv (d := dy) d1
  exact ⟨_, k, r1.str_inv, r2.int_inv, mulOk_small h1 h2 h3, by rw [mul_ofL]; exact q _ _ _ _ (.refl c) (.str _) d2⟩⟩
/-! sorted(a text) -/
theorem rising_le : ∀ {r : List Nat} {p : Nat}, risingS (ofL [p]) (r.map fun c => ofL [c]) = true → (∀ y ∈ r, p ≤ y) ∧ r.Pairwise (· ≤ ·)
  | [], _, _ => ⟨fun _ h => (nomatch h), .nil⟩
  | x :: r, p, h => by
    rw [List.map_cons, risingS, Bool.and_eq_true] at h
    obtain ⟨a, b⟩ := rising_le h.2
    have e : p ≤ x := by
      have h1 := h.1
      simp only [ofL, ltCps, Bool.not_eq_true'] at h1
      simp at h1
      omega
    exact ⟨fun y hy => by
      rcases List.mem_cons.mp hy with rfl | hy
      · exact e
      · have := a y hy; omega, .cons a b⟩
theorem sorted_le : ∀ {m : List Nat}, sortedS (m.map fun c => ofL [c]) = true → m.Pairwise (· ≤ ·)
  | [], _ => .nil
  | x :: r, h => let ⟨a, b⟩ := rising_le (p := x) h; .cons a b
theorem c_sortT (hc : X.calm = true) : DCl X (.builtin "sorted") (fun vs H Q => ∃ z : Str, vs = [V.str z] ∧ z.length ≤ sizeLine ∧ ∀ (ys : List Str) (p : Addr), ys.Perm (z.cps.toList.map fun c => ⟨#[c]⟩) → sortedS ys = true → H p = none → Q (.ref p) (upd H p (.lst (ys.map V.str)))) gSortT := ⟨Ms.cr_sortedT hc, fun {xs ds H μ Q Q'} c r d q => by
  obtain ⟨x, rfl, d1⟩ := one_inv d
  obtain ⟨v, rfl, r0⟩ := r.inv1
  obtain ⟨l, rfl, hl, d2⟩ := toS_inv d1
  refine ⟨_, by rw [r0.str_inv], by rw [ofL_len, sizeLine_eq]; exact hl, fun ys p hperm hs hp => ?_⟩
  obtain ⟨m, pm, rfl⟩ := perm_one (z := l) hperm
  exact q _ _ _ _ (.new c hp) (rep_lst c hp (reps_signs m)) (d2 m pm (sorted_le hs))⟩
def dRevS (a : DTE) : DTE := fun E δ μ Q => a E δ μ fun x μ1 => x.toS fun l => l.length ≤ 16777216 ∧ Q (.str l.reverse) μ1
theorem fm_congr {α β : Type} {f : α → Option β} {g : α → β} : ∀ {l : List α}, (∀ x ∈ l, f x = some (g x)) → l.filterMap f = l.map g
  | [], _ => rfl
  | x :: l, h => by
    rw [List.filterMap_cons, h x List.mem_cons_self]
    exact congrArg (g x :: ·) (fm_congr fun y hy => h y (List.mem_cons_of_mem _ hy))
theorem picked_rev (z : List Nat) : Ms.pickedS (ofL z) = ofL z.reverse := by
  have cps_get : ∀ (i : Nat), (ofL z).cps[i]? = z[i]? := fun i => by simp [ofL]
  refine Str.ext' (Array.toList_inj.mp ?_)
  show (List.filterMap (fun i => (ofL z).cps[i]?) (sliceRange (((ofL z).length : Int) - 1) (-1) (-1))) = z.reverse
  rw [ofL_len]
  have e : sliceRange ((z.length : Int) - 1) (-1) (-1) = (List.range z.length).map fun k => z.length - 1 - k := by
    have c : (if ((z.length : Int) - 1) > -1 then (((z.length : Int) - 1) - (-1) - (-1) - 1) / (-(-1)) else 0).toNat = z.length := by
      split
      · have : (((z.length : Int) - 1) - (-1) - (-1) - 1) / (-(-1)) = z.length := by
          rw [show (-(-1) : Int) = 1 from rfl, Int.ediv_one]
          omega
        rw [this]
        omega
      · omega
    show (List.range (if (-1 : Int) > 0 then _ else _ : Int).toNat).map _ = _
    rw [if_neg (by decide), c]
    refine List.map_congr_left fun k hk => ?_
    have := List.mem_range.mp hk
    show ((z.length : Int) - 1 + -1 * (k : Int)).toNat = _
    omega
  rw [e, List.filterMap_map]
  have f : ∀ k ∈ List.range z.length, ((fun i => (ofL z).cps[i]?) ∘ fun k => z.length - 1 - k) k = some (z.reverse.getD k 0) := by
    intro k hk
    have hk := List.mem_range.mp hk
    show (ofL z).cps[z.length - 1 - k]? = _
    rw [cps_get, List.getD_eq_getElem?_getD, List.getElem?_reverse hk]
    rw [List.getElem?_eq_getElem (by omega)]
    rfl
  rw [fm_congr f]
  apply List.ext_getElem
  · rw [List.length_map, List.length_range, List.length_reverse]
  · intro i h1 h2
    rw [List.getElem_map, List.getElem_range]
    show z.reverse.getD i 0 = _
    rw [List.getD_eq_getElem?_getD, List.getElem?_eq_getElem h2]
    rfl
theorem de_revS {k : Nat} {p1 p2 p3 : Pos} (h : DE X E e te de) : DE X E (e.Subscript (.Slice none none (some (.UnaryOp .USub (.Constant (.int 1) k p1) p2)) p3) pos) (Ms.tRevS te) (dRevS de) :=
  ⟨Ms.pe_revS h.pe, ⟨fun {σ H δ μ Q Q' E'} hh x d q => h.sn.go hh x d fun v y H1 μ1 t1 r1 d1 => by
    obtain ⟨l, rfl, hl, d2⟩ := toS_inv d1
    exact ⟨_, r1.str_inv, by rw [ofL_len, sizeLine_eq]; exact hl, by rw [picked_rev]; exact q _ _ _ _ t1 (.str _) d2⟩⟩⟩
/-! a tuple walked -/
theorem di_tup {K : PySem.W.Frag} {tg : Expr} (h : DE X E e te de) (hK : X.K = K := by rfl) : DI X E tg e (iTup K te) (iT de) := by
 subst hK
 exact ⟨pi_tup h.pe, ⟨fun {σ H δ μ R R' E'} hh x d q => h.sn.go hh x d fun v y H1 μ1 t1 r1 d1 => by
    obtain ⟨xs, rfl, d2⟩ := toT_inv d1
    have key : ∃ a vs, v = .ref a ∧ Reps X.K H1 μ1 vs xs ∧ SqT X.K H1 a vs ∧ ∀ H2 μ2, Then X.K H1 μ1 H2 μ2 → SqT X.K H2 a vs := by
      cases r1 with
      | obj m nt c => cases c with | tup h r => exact ⟨_, _, rfl, r, .inl h, fun H2 μ2 t2 => .inl (rd_tbl t2.g h (fun _ z => by cases z) m)⟩
      | ktup h r => exact ⟨_, _, rfl, r, .inr h, fun _ _ _ => .inr h⟩
    obtain ⟨a, vs, rfl, ra, ha, ha2⟩ := key
    refine ⟨a, rfl, ⟨vs, ha⟩, q _ xs _ _ _ t1 (fun i H2 μ2 t2 _ => ?_) d2⟩
    have ha2 := ha2 _ _ t2
    refine ⟨fun hi => ?_, fun hi => ⟨vs, ha2, by rw [ra.length, hi]; exact Nat.le_refl _⟩⟩
    obtain ⟨v, h1, h2⟩ := ra.get (List.getElem?_eq_getElem hi)
    refine ⟨⟨vs, v, ha2, h1⟩, fun x H' ⟨e, y⟩ => ?_⟩
    subst e
    have := y vs ha2
    rw [h1] at this
    cases this
    exact ⟨_, List.getElem?_eq_getElem hi, .refl t2.cells, h2.grow t2.g⟩⟩⟩
/-! name //= -/
theorem ds_augD {n : Nat} (hN : X.N.Nodup) (hi : X.N[n]? = some x) (hx : Loc X.env.scope x) (he : DE X E e te de) (ho : PIp X .FloorDiv (rI CDiv fun i j => .int (i / j)) := iop_fdiv) (hf : X.fn x = true ∨ X.env.scope.names.lookup x = some .local := by first | exact .inl rfl | exact .inr rfl | assumption) :
    DS X E (.AugAssign (.Name x pos') .FloorDiv e pos) (tAug n te (rI CDiv fun i j => .int (i / j))) (sAugD n de) :=
  ⟨ps_aug hN hi hx he.pe ho hf, ⟨fun {σ H δ μ D D' E'} hh x d q => by
    cases e1 : δ[n]? with
    | none => simp only [sAugD, e1] at d
    | some v0 =>
      cases v0 with
      | none => simp only [sAugD, e1] at d
      | some v =>
        simp only [sAugD, e1] at d
        obtain ⟨u, h1, r⟩ := hh.slots.2 n v e1
        refine ⟨u, h1, he.sn.go hh x d fun w y H1 μ1 t1 r1 d1 => ?_⟩
        obtain ⟨i, rfl, d2⟩ := toI_inv d1
        obtain ⟨j, rfl, hc, d3⟩ := toI_inv (d := y) d2
        exact ⟨i, j, (r.grow t1.g).int_inv, r1.int_inv, hc, q.nx _ _ _ _ t1 ((hh.slots.grow t1.g).set (.int _)) d3⟩⟩⟩
end
end Dl

set_option Elab.async false
set_option linter.all false
set_option maxRecDepth 100000
namespace Dl
open PySem PySem.Spec PyProof.Rows L2
/-! ### f-texts -/
def decN (i : Int) : List Nat := (Str.ofString (toString i)).cps.toList
def dFmt (a : DTE) : DTE := fun E δ μ Q => a E δ μ fun x μ1 => match x with
  | .str l => l.length ≤ 16777216 ∧ Q (.str l) μ1
  | .int i => i.natAbs.log2 < 1920 ∧ Q (.str (decN i)) μ1
  | _ => False
def dJs : List DTE → List Nat → DX → Sl → Mu → (List Nat → Mu → Prop) → Prop
  | [], acc, _, _, μ, Q => Q acc μ
  | t :: ts, acc, E, δ, μ, Q => t E δ μ fun x μ1 => x.toS fun l => acc.length + l.length ≤ 16777216 ∧ dJs ts (acc ++ l) E δ μ1 Q
section
variable {X : Cx} {E : XK}
theorem de_fmt {e : Expr} {te : TE} {de : DTE} {pos : Pos} (h : DE X E e te de) : DE X E (.FormattedValue e (-1) none pos) (tFmt te) (dFmt de) :=
  ⟨pe_fmt h.pe, ⟨fun {σ H δ μ Q Q' E'} hh x d q => h.sn.go hh x d fun v y H1 μ1 t1 r1 d1 => by
    cases y with
    | str l => exact .inl ⟨_, r1.str_inv, by rw [ofL_len, sizeLine_eq]; exact d1.1, q _ _ _ _ t1 (.str l) d1.2⟩
    | int i => exact .inr ⟨i, r1.int_inv, d1.1, q _ _ _ _ t1 (rep_str _ rfl) d1.2⟩
    | _ => exact d1.elim⟩⟩
inductive SJ (K : PySem.W.Frag) (E : XK) : List TE → List DTE → Prop where
  | nil : SJ K E [] []
  | cons {t : TE} {d : DTE} {ts : List TE} {ds : List DTE} (h : SE K E t d) (r : SJ K E ts ds) : SJ K E (t :: ts) (d :: ds)
structure DJ (X : Cx) (E : XK) (es : List Expr) (ts : List TE) (ds : List DTE) : Prop where
  pe : PJ X es ts
  sn : SJ X.K E ts ds
theorem dj_nil : DJ X E [] [] [] := ⟨.nil, .nil⟩
theorem dj_cons {e : Expr} {t : TE} {d : DTE} {es : List Expr} {ts : List TE} {ds : List DTE} (h : DE X E e t d) (r : DJ X E es ts ds) : DJ X E (e :: es) (t :: ts) (d :: ds) := ⟨.cons h.pe r.pe, .cons h.sn r.sn⟩
theorem js_run {K : PySem.W.Frag} {σ : L2.St} {δ : Sl} {E' : DX} {ts : List TE} {ds : List DTE} (h : SJ K E ts ds) : ∀ {acc : List Nat} {H : Hp} {μ : Mu} {Q : Str → Hp → Prop} {Q' : List Nat → Mu → Prop}, Here K H μ σ δ → XR K H μ E E' → dJs ds acc E' δ μ Q' →
    (∀ l H' μ', Then K H μ H' μ' → Q' l μ' → Q (ofL l) H') → tJs ts (ofL acc) σ H Q := by
  induction h with
  | nil => intro acc H μ Q Q' hh x d q; exact q acc H μ hh.refl d
  | cons h r ih =>
    intro acc H μ Q Q' hh x d q
    refine h.go hh x d fun v y H1 μ1 t1 r1 d1 => ?_
    obtain ⟨l, rfl, hl, d2⟩ := toS_inv d1
    refine ⟨_, r1.str_inv, by rw [ofL_app, ofL_len, List.length_append, sizeLine_eq]; exact hl, ?_⟩
    rw [ofL_app]
    exact ih (hh.go t1) (x.go t1) d2 fun l H' μ' t2 q2 => q l H' μ' (t1.trans t2) q2
theorem de_joined {v1 v2 : Expr} {rest : List Expr} {ts : List TE} {ds : List DTE} {pos : Pos} (h : DJ X E (v1 :: v2 :: rest) ts ds) : DE X E (.JoinedStr (v1 :: v2 :: rest) pos) (fun σ H Q => tJs ts Str.empty σ H fun out H1 => Q (.str out) H1) (fun E δ μ Q => dJs ds [] E δ μ fun l μ1 => Q (.str l) μ1) :=
  ⟨pe_joined h.pe, ⟨fun {σ H δ μ Q Q' E'} hh x d q => js_run h.sn (acc := []) hh x d fun l H' μ' t q2 => q _ _ _ _ t (.str l) q2⟩⟩
theorem de_joined1 {e : Expr} {te : TE} {de : DTE} {pos : Pos} (h : DE X E e te de) : DE X E (.JoinedStr [e] pos) te de := ⟨pe_joined1 h.pe, h.sn⟩
end
/-! ### str(x) by an own __str__ -/
def rStrO (K : PySem.W.Frag) (C : Addr) (sp : Sp) : List V → Hp → VK → Prop := fun vs H Q => ∃ a dx fs, vs = [.ref a] ∧ H a = some (.ins C dx fs) ∧ sp [.ref a] H (fun v H' => ∃ z, v = .str z ∧ Q v H') E0
section
variable {X : Cx} {CX : CXT} {k : Nat} {f C : Addr} {fd : FuncData} {ps : List Str} {sp : DSp}
theorem call_strO {sp : Sp} (F : FnOk X.prog X.w X.K X.mg X.base CX k f fd ps sp) (hr : Room (k + 2) X.A) (hm : Meth X.K C "__str__" f) (hb : Binds X.K fd ps []) (hx : Passes CX X E0) : CallR X (.type "str") (rStrO X.K C sp) := by
  intro pins s σ H xs us Q I r h
  obtain ⟨a, dx, fs, rfl, ha, hsp⟩ := h
  cases r with
  | cons r rr =>
    cases rr
    cases r
    obtain ⟨mA, J, _⟩ := ins_get I.hok ha
    obtain ⟨od, J, _⟩ := J.look
    have hr1 : Room k X.A.in1.in1 := (hr.in1).in1
    refine PySem.W.kso_call (by have := hr1.units; omega) I.kIn J hm.at_ hm.fn ?_
    have e0 : Env0 X.prog X.w X.K X.mg X.base X.A.in1.in1 X.stack s H := by
      have e := I.env0
      exact ⟨e.frames, e.mod, e.bs, e.bsz, e.funs, e.frf, e.hok, e.bare⟩
    have hl := F.len _ _ _ _ hsp
    have r2 : Vals [V.ref a] [Value.ref a] := .cons rfl .nil
    refine wpAny_call (codeAny_mono (F.run X.A.in1.in1 X.stack s H ⟨[.ref a], []⟩ [.ref a] [.ref a] _ E0 hr1 e0 (by
      have := hb s [.ref a] I.kIn (by simpa using hl)
      simpa using this) r2 hsp) fun r s' hq => ?_)
    cases r with
    | error e => exact hx pins σ H s e s' I hq
    | ok fl =>
      cases fl with
      | ret w =>
        obtain ⟨v, H', I', rz, z, rfl, q⟩ := I.after hq
        obtain ⟨t, rfl⟩ := rz
        exact ⟨.str z, H', I', ⟨t, rfl⟩, q⟩
      | next => exact False.elim hq
      | brk => exact False.elim hq
      | cont => exact False.elim hq
def gStrO (C : Addr) (ks : List Str) (sp : DSp) : GC := fun ds μ Q => one ds fun x => insOf C ks (rd μ x) ∧ sp [x] μ (fun v μ' => (match v with | .str _ => True | _ => False) ∧ Q v μ') noX
theorem c_strO {K : PySem.W.Frag} {ks : List Str} (F : FnOk X.prog X.w X.K X.mg X.base CX k f fd ps (lift K sp)) (hr : Room (k + 2) X.A) (hm : Meth X.K C "__str__" f) (hb : Binds X.K fd ps []) (hx : Passes CX X E0) (hK : X.K = K := by rfl) : DCl X (.type "str") (rStrO K C (lift K sp)) (gStrO C ks sp) := by
 subst hK
 exact
  ⟨call_strO F hr hm hb hx, fun {xs ds H μ Q Q'} c r d q => by
    obtain ⟨x, rfl, d1, d2⟩ := one_inv d
    obtain ⟨v, rfl, r0⟩ := r.inv1
    obtain ⟨zs, e⟩ := insOf_inv d1
    obtain ⟨a, dx, fs, rfl, ha, hk, rr⟩ := rd_ins c r0 e
    refine ⟨a, dx, fs, rfl, ha, _, _, _, _, r, c, d2, fun v y H' μ' t r1 q1 => ?_, xr_no⟩
    obtain ⟨m, q2⟩ := q1
    cases y with
    | str l => exact ⟨_, r1.str_inv, q _ _ _ _ t r1 q2⟩
    | _ => exact m.elim⟩
end
/-! ### == through cells -/
def rd2 (μ : Mu) (d : D) : D := match rd μ d with
  | .lst xs => .lst (xs.map (rd μ))
  | .tup xs => .tup (xs.map (rd μ))
  | d => d
section
variable {K : PySem.W.Frag} {H : Hp} {μ : Mu}
theorem cons_dp (c : Cells K H μ) : ∀ {xs : List D} {n : Nat} {vs : List V}, isPs n (xs.map (rd μ)) = true → Reps K H μ vs xs → DpAll K H vs (toPs (xs.map (rd μ)))
  | [], n, vs, _, r => by cases r.nil_inv; rw [List.map_nil, toPs]; exact .nil
  | x :: xs, n, vs, h, r => by
    obtain ⟨v, r0, rfl, h1, h2⟩ := r.cons_inv
    rw [List.map_cons, isPs, Bool.and_eq_true] at h
    rw [List.map_cons, toPs]
    exact .cons (con_dp c h1 h.1) (cons_dp c h.2 h2)
theorem con_dp2 {d : D} {n : Nat} {v : V} (c : Cells K H μ) (r : Rep K H μ v d) (h : isP n (rd2 μ d) = true) : Dp K H v (toP (rd2 μ d)) := by
  unfold rd2 at h ⊢
  cases e : rd μ d with
  | lst xs =>
    simp only [e] at h ⊢
    obtain ⟨a, vs, rfl, ha, ra⟩ := rd_lst c r e
    cases n with
    | zero => cases h
    | succ n => rw [toP]; exact .lst (SqL.of ha) (cons_dp c (n := n) h ra)
  | tup xs =>
    simp only [e] at h ⊢
    obtain ⟨a, vs, rfl, ha, ra⟩ := rd_tup c r e
    cases n with
    | zero => cases h
    | succ n => rw [toP]; exact .tup ha (cons_dp c (n := n) h ra)
  | _ => simp only [e] at h ⊢; rw [← e] at h ⊢; exact con_dp c r h
end
def gEqR (neg : Bool) : G2 := fun x y μ Q => isP 9 (rd2 μ x) = true ∧ isP 9 (rd2 μ y) = true ∧ Q (.bl (if neg then !PyData.eqv (toP (rd2 μ x)) (toP (rd2 μ y)) else PyData.eqv (toP (rd2 μ x)) (toP (rd2 μ y)))) μ
theorem o_eqR {K : PySem.W.Frag} {X : Cx} (hu : X.A.units + 64 < cLine) (hK : X.K = K := by rfl) : DOp X (compareOp .Eq) (rEqD K) (gEqR false) := by
 subst hK
 exact ⟨op_eqD hu, fun {x y dx dy H μ Q Q'} c r1 r2 d q =>
  ⟨_, _, con_dp2 c r1 d.1, con_dp2 c r2 d.2.1, isP_shaped (by decide) d.1, isP_shaped (by decide) d.2.1, q _ _ _ _ (.refl c) (.bl _) d.2.2⟩⟩
theorem o_neR {K : PySem.W.Frag} {X : Cx} (hu : X.A.units + 64 < cLine) (hK : X.K = K := by rfl) : DOp X (compareOp .NotEq) (rNeD K) (gEqR true) := by
 subst hK
 exact ⟨op_neD hu, fun {x y dx dy H μ Q Q'} c r1 r2 d q =>
  ⟨_, _, con_dp2 c r1 d.1, con_dp2 c r2 d.2.1, isP_shaped (by decide) d.1, isP_shaped (by decide) d.2.1, q _ _ _ _ (.refl c) (.bl _) d.2.2⟩⟩
end Dl

set_option Elab.async false
set_option linter.all false
set_option maxRecDepth 100000
namespace Dl
open PySem PySem.Spec PyProof.Rows L2
/-! what is read of written data -/
theorem rd_non' {μ : Mu}  : rd μ D.non = D.non := Eq.trans (Eq.symm (Eq.refl _)) (Eq.refl _)
theorem tyN_non  : tyN D.non = some "NoneType" := Eq.trans (Eq.symm (Eq.refl _)) (Eq.refl _)
theorem isN_non  : isN D.non = true := Eq.trans (Eq.symm (Eq.refl _)) (Eq.refl _)
theorem isS_non  : isS D.non = false := Eq.trans (Eq.symm (Eq.refl _)) (Eq.refl _)
theorem keeps_non {xs : List D}  : keeps D.non xs = yes := Eq.trans (Eq.symm (Eq.refl _)) (Eq.refl _)
theorem rd_bl' {μ : Mu} (b : Bool) : rd μ (D.bl b) = (D.bl b) := Eq.trans (Eq.symm (Eq.refl _)) (Eq.refl _)
theorem tyN_bl (b : Bool) : tyN (D.bl b) = some "bool" := Eq.trans (Eq.symm (Eq.refl _)) (Eq.refl _)
theorem isN_bl (b : Bool) : isN (D.bl b) = false := Eq.trans (Eq.symm (Eq.refl _)) (Eq.refl _)
theorem isS_bl (b : Bool) : isS (D.bl b) = false := Eq.trans (Eq.symm (Eq.refl _)) (Eq.refl _)
theorem keeps_bl {xs : List D} (b : Bool) : keeps (D.bl b) xs = yes := Eq.trans (Eq.symm (Eq.refl _)) (Eq.refl _)
theorem rd_int' {μ : Mu} (i : Int) : rd μ (D.int i) = (D.int i) := Eq.trans (Eq.symm (Eq.refl _)) (Eq.refl _)
theorem tyN_int (i : Int) : tyN (D.int i) = some "int" := Eq.trans (Eq.symm (Eq.refl _)) (Eq.refl _)
theorem isN_int (i : Int) : isN (D.int i) = false := Eq.trans (Eq.symm (Eq.refl _)) (Eq.refl _)
theorem isS_int (i : Int) : isS (D.int i) = false := Eq.trans (Eq.symm (Eq.refl _)) (Eq.refl _)
theorem keeps_int {xs : List D} (i : Int) : keeps (D.int i) xs = yes := Eq.trans (Eq.symm (Eq.refl _)) (Eq.refl _)
theorem rd_str' {μ : Mu} (l : List Nat) : rd μ (D.str l) = (D.str l) := Eq.trans (Eq.symm (Eq.refl _)) (Eq.refl _)
theorem tyN_str (l : List Nat) : tyN (D.str l) = some "str" := Eq.trans (Eq.symm (Eq.refl _)) (Eq.refl _)
theorem isN_str (l : List Nat) : isN (D.str l) = false := Eq.trans (Eq.symm (Eq.refl _)) (Eq.refl _)
theorem isS_str (l : List Nat) : isS (D.str l) = true := Eq.trans (Eq.symm (Eq.refl _)) (Eq.refl _)
theorem keeps_str {xs : List D} (l : List Nat) : keeps (D.str l) xs = yes := Eq.trans (Eq.symm (Eq.refl _)) (Eq.refl _)
theorem rd_ty' {μ : Mu} (n : String) : rd μ (D.ty n) = (D.ty n) := Eq.trans (Eq.symm (Eq.refl _)) (Eq.refl _)
theorem tyN_ty (n : String) : tyN (D.ty n) = none := Eq.trans (Eq.symm (Eq.refl _)) (Eq.refl _)
theorem isN_ty (n : String) : isN (D.ty n) = false := Eq.trans (Eq.symm (Eq.refl _)) (Eq.refl _)
theorem isS_ty (n : String) : isS (D.ty n) = false := Eq.trans (Eq.symm (Eq.refl _)) (Eq.refl _)
theorem keeps_ty {xs : List D} (n : String) : keeps (D.ty n) xs = yes := Eq.trans (Eq.symm (Eq.refl _)) (Eq.refl _)
theorem tyN_ref (a : Addr) : tyN (D.ref a) = none := Eq.trans (Eq.symm (Eq.refl _)) (Eq.refl _)
theorem isN_ref (a : Addr) : isN (D.ref a) = false := Eq.trans (Eq.symm (Eq.refl _)) (Eq.refl _)
theorem isS_ref (a : Addr) : isS (D.ref a) = false := Eq.trans (Eq.symm (Eq.refl _)) (Eq.refl _)
theorem rd_lst' {μ : Mu} (xs : List D) : rd μ (D.lst xs) = (D.lst xs) := Eq.trans (Eq.symm (Eq.refl _)) (Eq.refl _)
theorem tyN_lst (xs : List D) : tyN (D.lst xs) = some "list" := Eq.trans (Eq.symm (Eq.refl _)) (Eq.refl _)
theorem isN_lst (xs : List D) : isN (D.lst xs) = false := Eq.trans (Eq.symm (Eq.refl _)) (Eq.refl _)
theorem isS_lst (xs : List D) : isS (D.lst xs) = false := Eq.trans (Eq.symm (Eq.refl _)) (Eq.refl _)
theorem keeps_lst {xs : List D} (zs : List D) : keeps (D.lst zs) xs = yes := Eq.trans (Eq.symm (Eq.refl _)) (Eq.refl _)
theorem rd_tup' {μ : Mu} (xs : List D) : rd μ (D.tup xs) = (D.tup xs) := Eq.trans (Eq.symm (Eq.refl _)) (Eq.refl _)
theorem tyN_tup (xs : List D) : tyN (D.tup xs) = some "tuple" := Eq.trans (Eq.symm (Eq.refl _)) (Eq.refl _)
theorem isN_tup (xs : List D) : isN (D.tup xs) = false := Eq.trans (Eq.symm (Eq.refl _)) (Eq.refl _)
theorem isS_tup (xs : List D) : isS (D.tup xs) = false := Eq.trans (Eq.symm (Eq.refl _)) (Eq.refl _)
theorem keeps_tup {xs : List D} (zs : List D) : keeps (D.tup zs) xs = yes := Eq.trans (Eq.symm (Eq.refl _)) (Eq.refl _)
theorem rd_ins' {μ : Mu} (C : Addr) (ks : List Str) (xs : List D) : rd μ (D.ins C ks xs) = (D.ins C ks xs) := Eq.trans (Eq.symm (Eq.refl _)) (Eq.refl _)
theorem tyN_ins (C : Addr) (ks : List Str) (xs : List D) : tyN (D.ins C ks xs) = none := Eq.trans (Eq.symm (Eq.refl _)) (Eq.refl _)
theorem isN_ins (C : Addr) (ks : List Str) (xs : List D) : isN (D.ins C ks xs) = false := Eq.trans (Eq.symm (Eq.refl _)) (Eq.refl _)
theorem isS_ins (C : Addr) (ks : List Str) (xs : List D) : isS (D.ins C ks xs) = false := Eq.trans (Eq.symm (Eq.refl _)) (Eq.refl _)
theorem keeps_ins {xs : List D} (C : Addr) (ks : List Str) (zs : List D) : keeps (D.ins C ks zs) xs = yes := Eq.trans (Eq.symm (Eq.refl _)) (Eq.refl _)
theorem rd_dK' {μ : Mu} (ks : List Key) (xs : List D) : rd μ (D.dK ks xs) = (D.dK ks xs) := Eq.trans (Eq.symm (Eq.refl _)) (Eq.refl _)
theorem tyN_dK (ks : List Key) (xs : List D) : tyN (D.dK ks xs) = some "dict" := Eq.trans (Eq.symm (Eq.refl _)) (Eq.refl _)
theorem isN_dK (ks : List Key) (xs : List D) : isN (D.dK ks xs) = false := Eq.trans (Eq.symm (Eq.refl _)) (Eq.refl _)
theorem isS_dK (ks : List Key) (xs : List D) : isS (D.dK ks xs) = false := Eq.trans (Eq.symm (Eq.refl _)) (Eq.refl _)
theorem keeps_dK {xs : List D} (ks : List Key) (zs : List D) : keeps (D.dK ks zs) xs = yes := Eq.trans (Eq.symm (Eq.refl _)) (Eq.refl _)
theorem rd_dT' {μ : Mu} (ks : List (List Key)) (xs : List D) : rd μ (D.dT ks xs) = (D.dT ks xs) := Eq.trans (Eq.symm (Eq.refl _)) (Eq.refl _)
theorem tyN_dT (ks : List (List Key)) (xs : List D) : tyN (D.dT ks xs) = none := Eq.trans (Eq.symm (Eq.refl _)) (Eq.refl _)
theorem isN_dT (ks : List (List Key)) (xs : List D) : isN (D.dT ks xs) = false := Eq.trans (Eq.symm (Eq.refl _)) (Eq.refl _)
theorem isS_dT (ks : List (List Key)) (xs : List D) : isS (D.dT ks xs) = false := Eq.trans (Eq.symm (Eq.refl _)) (Eq.refl _)
theorem keeps_dT {xs : List D} (ks : List (List Key)) (zs : List D) : keeps (D.dT ks zs) xs = yes := Eq.trans (Eq.symm (Eq.refl _)) (Eq.refl _)
theorem rd_src' {μ : Mu}  : rd μ D.src = D.src := Eq.trans (Eq.symm (Eq.refl _)) (Eq.refl _)
theorem tyN_src  : tyN D.src = none := Eq.trans (Eq.symm (Eq.refl _)) (Eq.refl _)
theorem isN_src  : isN D.src = false := Eq.trans (Eq.symm (Eq.refl _)) (Eq.refl _)
theorem isS_src  : isS D.src = false := Eq.trans (Eq.symm (Eq.refl _)) (Eq.refl _)
theorem keeps_src {xs : List D}  : keeps D.src xs = yes := Eq.trans (Eq.symm (Eq.refl _)) (Eq.refl _)
theorem rd_scr' {μ : Mu} (ns : List Int) : rd μ (D.scr ns) = (D.scr ns) := Eq.trans (Eq.symm (Eq.refl _)) (Eq.refl _)
theorem tyN_scr (ns : List Int) : tyN (D.scr ns) = none := Eq.trans (Eq.symm (Eq.refl _)) (Eq.refl _)
theorem isN_scr (ns : List Int) : isN (D.scr ns) = false := Eq.trans (Eq.symm (Eq.refl _)) (Eq.refl _)
theorem isS_scr (ns : List Int) : isS (D.scr ns) = false := Eq.trans (Eq.symm (Eq.refl _)) (Eq.refl _)
theorem keeps_scr {xs : List D} (ns : List Int) : keeps (D.scr ns) xs = yes := Eq.trans (Eq.symm (Eq.refl _)) (Eq.refl _)
theorem keeps_ref {xs : List D} {a : Addr} {μ : Mu} : keeps (.ref a) xs μ = (μ a = some (.lst xs)) := Eq.trans (Eq.symm (Eq.refl _)) (Eq.refl _)
theorem yes_any {μ : Mu} : yes μ = True := Eq.trans (Eq.symm (Eq.refl _)) (Eq.refl _)
theorem rd_ref_mup {μ : Mu} {a : Addr} {d : D} : rd (mup μ a d) (.ref a) = d := by show ((mup μ a d) a).getD _ = d; rw [mup_same]; rfl
theorem toI_int {i : Int} {k : Int → Prop} : (D.int i).toI k = k i := Eq.trans (Eq.symm (Eq.refl _)) (Eq.refl _)
theorem toB_bl {b : Bool} {k : Bool → Prop} : (D.bl b).toB k = k b := Eq.trans (Eq.symm (Eq.refl _)) (Eq.refl _)
theorem toS_str {l : List Nat} {k : List Nat → Prop} : (D.str l).toS k = k l := Eq.trans (Eq.symm (Eq.refl _)) (Eq.refl _)
theorem toR_ref {a : Addr} {k : Addr → Prop} : (D.ref a).toR k = k a := Eq.trans (Eq.symm (Eq.refl _)) (Eq.refl _)
theorem toL_lst {xs : List D} {k : List D → Prop} : (D.lst xs).toL k = k xs := Eq.trans (Eq.symm (Eq.refl _)) (Eq.refl _)
theorem toT_tup {xs : List D} {k : List D → Prop} : (D.tup xs).toT k = k xs := Eq.trans (Eq.symm (Eq.refl _)) (Eq.refl _)
theorem toO_ins {C : Addr} {ks : List Str} {xs : List D} {k : Addr → List Str → List D → Prop} : (D.ins C ks xs).toO k = k C ks xs := Eq.trans (Eq.symm (Eq.refl _)) (Eq.refl _)
theorem one_one {x : D} {k : D → Prop} : one [x] k = k x := Eq.trans (Eq.symm (Eq.refl _)) (Eq.refl _)
theorem two_two {x y : D} {k : D → D → Prop} : two [x, y] k = k x y := Eq.trans (Eq.symm (Eq.refl _)) (Eq.refl _)
theorem insOf_ins {C : Addr} {ks : List Str} {xs : List D} : insOf C ks (.ins C ks xs) := ⟨rfl, rfl⟩
def optK (o : Option D) (k : D → Prop) : Prop := match o with | some y => k y | none => False
theorem optK_some {d : D} {k : D → Prop} : optK (some d) k = k d := Eq.trans (Eq.symm (Eq.refl _)) (Eq.refl _)
theorem fld_ins {C : Addr} {ks : List Str} {xs : List D} {i : Nat} {k : D → Prop} : fld C ks i (.ins C ks xs) k = optK (xs[i]?) k := by
  cases h : xs[i]? <;> simp [fld, optK, h]
theorem eqF_non_non : eqF D.non D.non = some true := Eq.trans (Eq.symm (Eq.refl _)) (Eq.refl _)
theorem eqF_non_int {i2 : Int} : eqF D.non (D.int i2) = some false := Eq.trans (Eq.symm (Eq.refl _)) (Eq.refl _)
theorem eqF_non_bl {b2 : Bool} : eqF D.non (D.bl b2) = some false := Eq.trans (Eq.symm (Eq.refl _)) (Eq.refl _)
theorem eqF_non_str {l2 : List Nat} : eqF D.non (D.str l2) = some false := Eq.trans (Eq.symm (Eq.refl _)) (Eq.refl _)
theorem eqF_int_non {i1 : Int} : eqF (D.int i1) D.non = some false := Eq.trans (Eq.symm (Eq.refl _)) (Eq.refl _)
theorem eqF_int_int {i1 : Int} {i2 : Int} : eqF (D.int i1) (D.int i2) = some (decide (i1 = i2)) := Eq.trans (Eq.symm (Eq.refl _)) (Eq.refl _)
theorem eqF_int_str {i1 : Int} {l2 : List Nat} : eqF (D.int i1) (D.str l2) = some false := Eq.trans (Eq.symm (Eq.refl _)) (Eq.refl _)
theorem eqF_bl_non {b1 : Bool} : eqF (D.bl b1) D.non = some false := Eq.trans (Eq.symm (Eq.refl _)) (Eq.refl _)
theorem eqF_bl_bl {b1 : Bool} {b2 : Bool} : eqF (D.bl b1) (D.bl b2) = some (decide (b1 = b2)) := Eq.trans (Eq.symm (Eq.refl _)) (Eq.refl _)
theorem eqF_bl_str {b1 : Bool} {l2 : List Nat} : eqF (D.bl b1) (D.str l2) = some false := Eq.trans (Eq.symm (Eq.refl _)) (Eq.refl _)
theorem eqF_str_non {l1 : List Nat} : eqF (D.str l1) D.non = some false := Eq.trans (Eq.symm (Eq.refl _)) (Eq.refl _)
theorem eqF_str_int {l1 : List Nat} {i2 : Int} : eqF (D.str l1) (D.int i2) = some false := Eq.trans (Eq.symm (Eq.refl _)) (Eq.refl _)
theorem eqF_str_bl {l1 : List Nat} {b2 : Bool} : eqF (D.str l1) (D.bl b2) = some false := Eq.trans (Eq.symm (Eq.refl _)) (Eq.refl _)
theorem eqF_str_str {l1 : List Nat} {l2 : List Nat} : eqF (D.str l1) (D.str l2) = some (decide (l1 = l2)) := Eq.trans (Eq.symm (Eq.refl _)) (Eq.refl _)
theorem tru_non {k : Bool → Prop} : tru .non k = k false := Eq.trans (Eq.symm (Eq.refl _)) (Eq.refl _)
theorem tru_bl {b : Bool} {k : Bool → Prop} : tru (.bl b) k = k b := Eq.trans (Eq.symm (Eq.refl _)) (Eq.refl _)
theorem tru_int {i : Int} {k : Bool → Prop} : tru (.int i) k = k (i != 0) := Eq.trans (Eq.symm (Eq.refl _)) (Eq.refl _)
theorem tru_str {l : List Nat} {k : Bool → Prop} : tru (.str l) k = (l.length ≤ 16777216 ∧ k (!l.isEmpty)) := Eq.trans (Eq.symm (Eq.refl _)) (Eq.refl _)
theorem tru_lst {l : List D} {k : Bool → Prop} : tru (.lst l) k = k (!l.isEmpty) := Eq.trans (Eq.symm (Eq.refl _)) (Eq.refl _)
theorem tru_tup {l : List D} {k : Bool → Prop} : tru (.tup l) k = k (!l.isEmpty) := Eq.trans (Eq.symm (Eq.refl _)) (Eq.refl _)
theorem flatD_non  : flatD D.non = true := Eq.trans (Eq.symm (Eq.refl _)) (Eq.refl _)
theorem flatD_bl (b : Bool) : flatD (D.bl b) = true := Eq.trans (Eq.symm (Eq.refl _)) (Eq.refl _)
theorem flatD_int (i : Int) : flatD (D.int i) = true := Eq.trans (Eq.symm (Eq.refl _)) (Eq.refl _)
theorem flatD_str (l : List Nat) : flatD (D.str l) = true := Eq.trans (Eq.symm (Eq.refl _)) (Eq.refl _)
theorem flatD_lst (xs : List D) : flatD (D.lst xs) = false := Eq.trans (Eq.symm (Eq.refl _)) (Eq.refl _)
theorem flatD_tup (xs : List D) : flatD (D.tup xs) = false := Eq.trans (Eq.symm (Eq.refl _)) (Eq.refl _)
theorem kit_NoneType_str : kitB "NoneType" "str" = some false := by decide +kernel
theorem kit_NoneType_int : kitB "NoneType" "int" = some false := by decide +kernel
theorem kit_NoneType_list : kitB "NoneType" "list" = some false := by decide +kernel
theorem kit_NoneType_tuple : kitB "NoneType" "tuple" = some false := by decide +kernel
theorem kit_NoneType_dict : kitB "NoneType" "dict" = some false := by decide +kernel
theorem kit_NoneType_bool : kitB "NoneType" "bool" = some false := by decide +kernel
theorem kit_bool_str : kitB "bool" "str" = some false := by decide +kernel
theorem kit_bool_int : kitB "bool" "int" = some true := by decide +kernel
theorem kit_bool_list : kitB "bool" "list" = some false := by decide +kernel
theorem kit_bool_tuple : kitB "bool" "tuple" = some false := by decide +kernel
theorem kit_bool_dict : kitB "bool" "dict" = some false := by decide +kernel
theorem kit_bool_bool : kitB "bool" "bool" = some true := by decide +kernel
theorem kit_int_str : kitB "int" "str" = some false := by decide +kernel
theorem kit_int_int : kitB "int" "int" = some true := by decide +kernel
theorem kit_int_list : kitB "int" "list" = some false := by decide +kernel
theorem kit_int_tuple : kitB "int" "tuple" = some false := by decide +kernel
theorem kit_int_dict : kitB "int" "dict" = some false := by decide +kernel
theorem kit_int_bool : kitB "int" "bool" = some false := by decide +kernel
theorem kit_str_str : kitB "str" "str" = some true := by decide +kernel
theorem kit_str_int : kitB "str" "int" = some false := by decide +kernel
theorem kit_str_list : kitB "str" "list" = some false := by decide +kernel
theorem kit_str_tuple : kitB "str" "tuple" = some false := by decide +kernel
theorem kit_str_dict : kitB "str" "dict" = some false := by decide +kernel
theorem kit_str_bool : kitB "str" "bool" = some false := by decide +kernel
theorem kit_list_str : kitB "list" "str" = some false := by decide +kernel
theorem kit_list_int : kitB "list" "int" = some false := by decide +kernel
theorem kit_list_list : kitB "list" "list" = some true := by decide +kernel
theorem kit_list_tuple : kitB "list" "tuple" = some false := by decide +kernel
theorem kit_list_dict : kitB "list" "dict" = some false := by decide +kernel
theorem kit_list_bool : kitB "list" "bool" = some false := by decide +kernel
theorem kit_tuple_str : kitB "tuple" "str" = some false := by decide +kernel
theorem kit_tuple_int : kitB "tuple" "int" = some false := by decide +kernel
theorem kit_tuple_list : kitB "tuple" "list" = some false := by decide +kernel
theorem kit_tuple_tuple : kitB "tuple" "tuple" = some true := by decide +kernel
theorem kit_tuple_dict : kitB "tuple" "dict" = some false := by decide +kernel
theorem kit_tuple_bool : kitB "tuple" "bool" = some false := by decide +kernel
theorem kit_dict_str : kitB "dict" "str" = some false := by decide +kernel
theorem kit_dict_int : kitB "dict" "int" = some false := by decide +kernel
theorem kit_dict_list : kitB "dict" "list" = some false := by decide +kernel
theorem kit_dict_tuple : kitB "dict" "tuple" = some false := by decide +kernel
theorem kit_dict_dict : kitB "dict" "dict" = some true := by decide +kernel
theorem kit_dict_bool : kitB "dict" "bool" = some false := by decide +kernel
theorem cel_mup {μ : Mu} {a : Addr} {xs : List D} {k : Addr → List D → Prop} : cel (mup μ a (.lst xs)) (.ref a) k = k a xs := by simp only [cel, mup_same]
theorem isC_mup {μ : Mu} {a : Addr} {xs : List D} : isC (mup μ a (.lst xs)) (.ref a) := by simp only [isC, mup_same]
theorem dFz_mup {a : Addr} {d : D} {μ : Mu} (h : μ a = none) : era (mup μ a d) a = μ := era_mup h
end Dl

set_option Elab.async false
set_option linter.all false
set_option maxRecDepth 100000
namespace Dl
open PySem PySem.Spec PyProof.Rows L2
/-! comprehensions that map -/
abbrev Off (L : Addr) (μ μ' : Mu) : Prop := ∀ a, a ≠ L → μ' a = μ a
theorem keeps_off {d : D} {xs : List D} {L : Addr} {μ : Mu} (hd : rd μ d = .lst xs) (hL : μ L = none) : ∀ μ', Off L μ μ' → keeps d xs μ' := by
  intro μ' h
  cases d with
  | ref a =>
    show μ' a = some (.lst xs)
    have hd : (μ a).getD (.ref a) = .lst xs := hd
    have ne : a ≠ L := fun z => by rw [z, hL] at hd; cases hd
    rw [h a ne]
    cases e : μ a with
    | none => rw [e] at hd; cases hd
    | some y => rw [e] at hd; exact congrArg some hd
  | _ => trivial
theorem yes_off {L : Addr} {μ : Mu} : ∀ μ', Off L μ μ' → yes μ' := fun _ _ => trivial
theorem rd_off {d : D} {L : Addr} {μ μ' : Mu} (h : Off L μ μ') (hL : μ L = none) (n : d ≠ .ref L) : rd μ' d = rd μ d := by
  cases d with
  | ref a =>
    have ne : a ≠ L := fun z => n (by rw [z])
    show (μ' a).getD _ = (μ a).getD _
    rw [h a ne]
  | _ => rfl
theorem rd_ref {μ : Mu} {p : Addr} {d : D} (h : μ p = some d) : rd μ (.ref p) = d := by show (μ p).getD _ = d; rw [h]; rfl
theorem rd_mup_ne {μ : Mu} {p : Addr} {d e : D} (h : e ≠ .ref p) : rd (mup μ p d) e = rd μ e := by
  cases e with
  | ref a => show (mup μ p d a).getD _ = (μ a).getD _; rw [mup_ne (fun z => h (by rw [z]))]
  | _ => rfl
theorem rd_new {μ : Mu} {p : Addr} {d e : D} {xs : List D} (h : rd μ e = .lst xs) (hp : μ p = none) : rd (mup μ p d) e = .lst xs := by
  rw [rd_mup_ne, h]
  rintro rfl
  have h : (μ p).getD (.ref p) = .lst xs := h
  rw [hp] at h
  cases h
theorem off_mup {L : Addr} {μ : Mu} {d : D} : Off L μ (mup μ L d) := fun _ n => mup_ne n
theorem lcL_pure {g : DTG} {tt : DTT} {te : DTE} {δ : Sl} {L : Addr} {C : Mu → Prop} {k : List D → Mu → Prop} {xs : List D} {μ : Mu} (f : D → D) (hl : xs.length ≤ 16777216) (hC : ∀ μ', Off L μ μ' → C μ')
    (hs : ∀ x ∈ xs, ∀ (μ' : Mu) (c : Option D → Mu → Prop), Off L μ μ' → c (some (f x)) μ' → lcStep g tt te δ x μ' c) (hd : k (xs.map f) (mup μ L (.lst (xs.map f)))) : lcL g tt te δ L C k xs [] (mup μ L (.lst [])) := by
  refine lcL_map (fun x => some (f x)) hl hC hs ?_
  have e : xs.filterMap (fun x => some (f x)) = xs.map f := by
    rw [← List.filterMap_eq_map]; rfl
  rw [e]
  exact hd
theorem asB_mapf (f : D → Bool) (xs : List D) : asB (xs.map fun x => .bl (f x)) = some (xs.map f) := by
  have := asB_map (xs.map f)
  rw [List.map_map] at this
  exact this
theorem asS_mapf (f : D → List Nat) (xs : List D) : asS (xs.map fun x => .str (f x)) = some (xs.map f) := by
  have := asS_map (xs.map f)
  rw [List.map_map] at this
  exact this
theorem asI_mapf (f : D → Int) (xs : List D) : asI (xs.map fun x => .int (f x)) = some (xs.map f) := by
  have := asI_map (xs.map f)
  rw [List.map_map] at this
  exact this
theorem all_id (f : D → Bool) (xs : List D) : (xs.map f).all id = xs.all f := by rw [List.all_map]; rfl
theorem any_id (f : D → Bool) (xs : List D) : (xs.map f).any id = xs.any f := by rw [List.any_map]; rfl
/-- things that are drawn -/
theorem lcL_draw {g : DTG} {tt : DTT} {te : DTE} {δ : Sl} {L : Addr} {C : Mu → Prop} {k : List D → Mu → Prop} {xs : List D} {μ : Mu} (Pr : D → Prop) (hl : xs.length ≤ 16777216) (hC : ∀ μ', Off L μ μ' → C μ')
    (hs : ∀ x ∈ xs, ∀ (μ' : Mu) (c : Option D → Mu → Prop), Off L μ μ' → (∀ y, Pr y → c (some y) μ') → lcStep g tt te δ x μ' c) (hd : ∀ acc, acc.length = xs.length → (∀ y ∈ acc, Pr y) → k acc (mup μ L (.lst acc))) : lcL g tt te δ L C k xs [] (mup μ L (.lst [])) := by
  refine lcL_inv (fun i acc => acc.length = i ∧ ∀ y ∈ acc, Pr y) ⟨rfl, fun _ h => nomatch h⟩ hl hC (fun i x acc μ' c hx p ha h1 h2 hm => ?_) (fun acc p _ => hd acc p.1 p.2)
  refine hs x (List.mem_of_getElem? hx) μ' c hm fun y hy => h1 y ⟨by rw [List.length_append, p.1]; rfl, fun z hz => ?_⟩
  rcases List.mem_append.mp hz with hz | hz
  · exact p.2 z hz
  · rw [List.mem_singleton.mp hz]; exact hy
theorem txs_of {Pr : List Nat → Prop} : ∀ {acc : List D}, (∀ y ∈ acc, ∃ w, y = .str w ∧ Pr w) → ∃ ws : List (List Nat), acc = ws.map .str ∧ ∀ w ∈ ws, Pr w
  | [], _ => ⟨[], rfl, fun _ h => nomatch h⟩
  | y :: r, h => by
    obtain ⟨w, rfl, hw⟩ := h y (.head _)
    obtain ⟨ws, rfl, hr⟩ := txs_of fun z hz => h z (.tail _ hz)
    exact ⟨w :: ws, rfl, fun z hz => by rcases List.mem_cons.mp hz with rfl | hz; exact hw; exact hr z hz⟩
theorem ints_of {Pr : Int → Prop} : ∀ {acc : List D}, (∀ y ∈ acc, ∃ w, y = .int w ∧ Pr w) → ∃ ws : List Int, acc = ws.map .int ∧ ∀ w ∈ ws, Pr w
  | [], _ => ⟨[], rfl, fun _ h => nomatch h⟩
  | y :: r, h => by
    obtain ⟨w, rfl, hw⟩ := h y (.head _)
    obtain ⟨ws, rfl, hr⟩ := ints_of fun z hz => h z (.tail _ hz)
    exact ⟨w :: ws, rfl, fun z hz => by rcases List.mem_cons.mp hz with rfl | hz; exact hw; exact hr z hz⟩
theorem signs_of {Pr : Nat → Prop} : ∀ {acc : List D}, (∀ y ∈ acc, ∃ c, y = .str [c] ∧ Pr c) → ∃ b : List Nat, acc = b.map (fun c => D.str [c]) ∧ ∀ c ∈ b, Pr c
  | [], _ => ⟨[], rfl, fun _ h => nomatch h⟩
  | y :: r, h => by
    obtain ⟨w, rfl, hw⟩ := h y (.head _)
    obtain ⟨ws, rfl, hr⟩ := signs_of fun z hz => h z (.tail _ hz)
    exact ⟨w :: ws, rfl, fun z hz => by rcases List.mem_cons.mp hz with rfl | hz; exact hw; exact hr z hz⟩
theorem str_inj : Function.Injective D.str := fun _ _ h => by cases h; rfl
theorem txs_inj {a b : List (List Nat)} : a.map D.str = b.map D.str ↔ a = b := by
  constructor
  · intro h
    exact List.map_inj_right (fun _ _ h => str_inj h) |>.mp h
  · rintro rfl; rfl
/-- texts of true signs -/
def Uni (w : List Nat) : Prop := ∀ c ∈ w, c < 0x110000
theorem isP_str {n : Nat} {w : List Nat} (h : Uni w) : isP n (.str w) = true := by
  simp only [isP, List.all_eq_true, decide_eq_true_eq]
  exact h
theorem isP_txs {n : Nat} (ws : List (List Nat)) (h : ∀ w ∈ ws, Uni w) : isP (n + 1) (.lst (ws.map .str)) = true := by
  show isPs n _ = true
  rw [isPs_iff]
  intro x hx
  obtain ⟨w, hw, rfl⟩ := List.mem_map.mp hx
  exact isP_str (h w hw)
theorem noB_txs (ws : List (List Nat)) : noB (.lst (ws.map .str)) = true := by
  show noBs _ = true
  rw [noBs_iff]
  intro x hx
  obtain ⟨w, _, rfl⟩ := List.mem_map.mp hx
  rfl
theorem eqv_txs (a b : List (List Nat)) : PyData.eqv (toP (.lst (a.map .str))) (toP (.lst (b.map .str))) = decide (a = b) :=
  eqv_dec _ _ (noB_txs a) (noB_txs b) (by rw [D.lst.injEq, txs_inj])
theorem ixN_nat {n i : Nat} (h : i < n) : ixN n (i : Int) = some i := by
  unfold ixN
  rw [if_pos (by omega), if_pos (by omega)]
  rfl
theorem ixN_zero {n : Nat} (h : 0 < n) : ixN n 0 = some 0 := ixN_nat h
theorem ixN_last {n : Nat} (h : 0 < n) : ixN n (-1) = some (n - 1) := by
  unfold ixN
  rw [if_neg (by decide), if_pos (by omega)]
  congr 1
  omega
theorem rngD_len (lo : Int) (n : Nat) : (rngD lo n).length = n := by unfold rngD; simp
theorem cel_ref {μ : Mu} {p : Addr} {xs : List D} {k : Addr → List D → Prop} (h : μ p = some (.lst xs)) : cel μ (.ref p) k = k p xs := by unfold cel; simp only [h]
/-- the signs of a text in their order -/
def srt (l : List Nat) : List Nat := l.mergeSort (fun a b => decide (a ≤ b))
theorem srt_perm (l : List Nat) : (srt l).Perm l := List.mergeSort_perm l _
theorem srt_le (l : List Nat) : (srt l).Pairwise (· ≤ ·) := by
  have h := List.pairwise_mergeSort (le := fun a b : Nat => decide (a ≤ b)) (fun a b c h1 h2 => by simp at *; omega) (fun a b => by simp; omega) l
  exact h.imp (fun h => by simpa using h)
theorem srt_of {l m : List Nat} (p : m.Perm l) (h : m.Pairwise (· ≤ ·)) : m = srt l :=
  List.Perm.eq_of_pairwise (le := (· ≤ ·)) (fun a b _ _ h1 h2 => Nat.le_antisymm h1 h2) h (srt_le l) (p.trans (srt_perm l).symm)
theorem srt_rev (l : List Nat) : srt l.reverse = srt l := srt_of ((srt_perm _).trans (List.reverse_perm l)) (srt_le _)
theorem srt_len (l : List Nat) : (srt l).length = l.length := (srt_perm l).length_eq
/-! items, cuts -/
theorem atI_zero {α : Type} (x : α) (xs : List α) : atI (x :: xs) 0 = some x := atI_nat (j := 0) rfl
theorem atI_one {α : Type} (x y : α) (xs : List α) : atI (x :: y :: xs) 1 = some y := atI_nat (j := 1) rfl
theorem atI_two {α : Type} (x y z : α) (xs : List α) : atI (x :: y :: z :: xs) 2 = some z := atI_nat (j := 2) rfl
theorem eqv_self {d : D} (h : noB d = true) : PyData.eqv (toP d) (toP d) = true := (eqv_iff d d h h).mpr rfl
theorem atI_last {α : Type} (x : α) (xs : List α) : atI (xs ++ [x]) (-1) = some x := by
  show (ixN (xs ++ [x]).length (-1)).bind _ = _
  have e : ixN (xs ++ [x]).length (-1) = some xs.length := by
    unfold ixN
    rw [List.length_append]
    simp
    omega
  rw [e]
  show (xs ++ [x])[xs.length]? = some x
  simp
theorem cutL_from1 {α : Type} (x : α) (xs : List α) : cutL (x :: xs) (some 1) none = xs := by
  unfold cutL HT.sIx
  have e : min (1 : Int).toNat (x :: xs).length = 1 := by rw [List.length_cons]; simp
  simp [e]
theorem cutL_to {α : Type} (xs : List α) (n : Nat) : cutL xs none (some (n : Int)) = xs.take n := by
  unfold cutL HT.sIx
  have e : ¬ ((n : Int) < 0) := by omega
  simp only [e, if_false, List.drop_zero, Nat.sub_zero, Int.toNat_natCast]
  rw [← List.take_take, List.take_length]
theorem cutL_from {α : Type} (xs : List α) (n : Nat) : cutL xs (some (n : Int)) none = xs.drop n := by
  unfold cutL HT.sIx
  have e : ¬ ((n : Int) < 0) := by omega
  simp only [e, if_false, Int.toNat_natCast]
  rcases Nat.le_total n xs.length with h | h
  · rw [Nat.min_eq_left h, List.take_of_length_le (by simp)]
  · rw [Nat.min_eq_right h, Nat.sub_self, List.take_zero, List.drop_eq_nil_of_le h]
theorem cutL_init {α : Type} (x : α) (xs : List α) : cutL (xs ++ [x]) none (some (-1)) = xs := by
  unfold cutL HT.sIx
  have e : ((-1 : Int) + (xs ++ [x]).length).toNat = xs.length := by rw [List.length_append, List.length_singleton]; omega
  simp only [show (-1 : Int) < 0 from by decide, if_true, e, List.drop_zero, Nat.sub_zero]
  simp
theorem script3 {ns : List Int} {x : D} {i : Nat} (h : (cutL (ns.map D.int ++ [D.int 0]) none (some 3))[i]? = some x) : ∃ c, x = .int c := by
  have e : cutL (ns.map D.int ++ [D.int 0]) none (some 3) = (ns.map D.int ++ [D.int 0]).take 3 := cutL_to _ 3
  rw [e] at h
  have := List.mem_of_mem_take (List.mem_of_getElem? h)
  rcases List.mem_append.mp this with h | h
  · obtain ⟨c, _, rfl⟩ := List.mem_map.mp h
    exact ⟨c, rfl⟩
  · exact ⟨0, List.mem_singleton.mp h⟩
end Dl

set_option Elab.async false
set_option linter.all false
set_option maxRecDepth 100000
namespace Dl
open PySem PySem.Spec PyProof.Rows L2
/-! ### an own class: isinstance, == and != by its own __eq__ -/
section
open PySem.W
variable {prog : Program} {w : World} {A : Around} {E : Value → Shared → Prop} {s : Shared} {K : PySem.W.Frag} {x C L f : Addr} {h₀ : Heap} {m : Str → Option Value} {ox : Obj} {od : Option Obj} {name : Str} {b tb : Value} {id : String}
theorem ifBound_slot {M : Model} {args : List Value} {Q : Option Value → Shared → Prop} (X : K.In s.heap) (I : InstAt s.heap x ox C od) (hs : PySem.W.findIn K (.ref C) name = some (some (.builtin id))) (hb : ∀ self, bindSpecial (.builtin id) self = pure (.builtin id, [self]))
    (h : wpAny M A (call (.builtin id) (.ref x :: args)) (fun v => Q (some v)) E s) : wpAny M A (callSpecialIfBound? (.ref x) name args) Q E s := by
  simp only [callSpecialIfBound?, bindSpecialIfBound?]
  refine wpAny_holding (wpAny_bind (wpAny_bind (wpAny_bind (I.type.here ((looks_findIn X hs).here ?_)))))
  refine wpAny_bind (wpAny_askSetting (wpAny_ite ?_))
  have fin : wpAny M A (call (.builtin id) ([.ref x] ++ args) >>= fun v => pure (some v)) Q E s := wpAny_bind (wpAny_mono h (fun v s' h' => wpAny_pure h') fun _ _ h' => h')
  have bd : Looks M s.heap (bindSpecial (.builtin id) (.ref x)) (.builtin id, [.ref x]) := Looks.of_pure (hb _)
  split
  · exact wpAny_bind (bd.here (wpAny_pure (by exact fin)))
  · exact wpAny_tryCatch (wpAny_bind (bd.here (wpAny_pure (by exact fin))))
theorem objNe_K (X : K.In s.heap) (I : InstAt s.heap x ox C od) (hu : A.units < cLine) (hs : PySem.W.findIn K (.ref C) "__eq__" = some (some (.ref f))) (hf : PySem.W.isFn K (.ref f) = true) {Q : Fin → Shared → Prop}
    (hcall : wpAny (model prog w) A (call (.ref f) [.ref x, b]) (fun v s' => ∃ r, v = .bool r ∧ Q (.done (.ret (.bool (!r)))) s') E s) :
    wpAny (model prog w) A (Builtin.«object.__ne__» ⟨[.ref x, b], []⟩) Q E s := by
  unfold Builtin.«object.__ne__»
  repeat (first
    | with_reducible refine wpAny_cRoomFor hu ?_
    | (refine wpAny_bind (m := callSpecialIfBound? (.ref x) (Str.ofString "__eq__") [b])
        (ifBound_K X I hs hf (wpAny_mono hcall (fun r s' hr => by
          obtain ⟨b, rfl, hq⟩ := hr
          repeat (first | exact hq | exact wpAny_pure hq | exact wpAny_truthy_bool hq | (refine wpAny_bind (m := truthy (.bool _)) (wpAny_truthy_bool ?_)) | wp_step)) fun _ _ e => e)))
    | wp_step)
theorem ne_K {Q : Value → Shared → Prop} (hu : A.units + 1 < cLine) (X : K.In s.heap) (I : InstAt s.heap x ox C od) (hb : Looks (model prog w) s.heap (typeOf b) tb) (hn : notFirst K C tb = true)
    (hne : PySem.W.findIn K (.ref C) "__ne__" = some (some (.builtin "object.__ne__"))) (hm : PySem.W.mroIn K C (.type "object") = some true) (hs : PySem.W.findIn K (.ref C) "__eq__" = some (some (.ref f))) (hf : PySem.W.isFn K (.ref f) = true)
    (h : wpAny (model prog w) A.in1 (call (.ref f) [.ref x, b]) (fun v s' => ∃ r, v = .bool r ∧ Q (.bool (!r)) s') E s) : wpAny (model prog w) A (richCompare .NotEq (.ref x) b) Q E s := by
  have one : wpAny (model prog w) A (tryCompare (.ref x) (cmpInfo .NotEq).2.1 b) (fun r s' => ∃ v, r = some v ∧ Q v s') E s := by
    unfold tryCompare
    refine wpAny_bind (ifBound_slot X I hne F.cmp_object.ne.bind (wpAny_call (codeAny_call_builtin F.cmp_object.ne.plain F.cmpEntry_ne
      (check_slot F.cmpKind_ne F.cmpSplit_ne (I.type.andThen (looks_mroIn X hm)) (F.cmpArgs_ne _ _) (objNe_K (A := A.in1) X I hu hs hf (wpAny_mono h (fun v s' hv => ?_) fun _ _ e => e))))))
    obtain ⟨r, rfl, q⟩ := hv
    exact ⟨r, rfl, wpAny_pure ⟨_, rfl, q⟩⟩
  unfold richCompare
  simp only [oneThing_ref]
  refine wpAny_holding (wpAny_bind (wpAny_cRoomFor (Nat.lt_of_succ_lt hu) ?_))
  refine wpAny_bind (I.type.here (wpAny_bind (hb.here ?_)))
  split
  · rename_i q
    have e : subIn K tb (.ref C) = some false := by
      rcases Bool.or_eq_true_iff.mp hn with e | e
      · rw [beq_iff_eq.mp e] at q; simp at q
      · exact beq_iff_eq.mp e
    refine wpAny_bind ((looks_subIn X e).here ?_)
    simp only [Bool.false_eq_true, if_false]
    refine wpAny_bind (wpAny_mono one (fun r s' z => ?_) fun _ _ e => e)
    obtain ⟨v, rfl, hq⟩ := z
    exact wpAny_pure hq
  · refine wpAny_bind (wpAny_pure ?_)
    simp only [Bool.false_eq_true, if_false]
    refine wpAny_bind (wpAny_mono one (fun r s' z => ?_) fun _ _ e => e)
    obtain ⟨v, rfl, hq⟩ := z
    exact wpAny_pure hq
end
/-- the names of the kinds of plain things -/
def kts : List String := ["NoneType", "bool", "int", "str", "list", "tuple", "dict"]
/-- what the law's text says of an own class -/
structure OwnC (K : PySem.W.Frag) (C : Addr) : Prop where
  ha : PySem.W.findIn K (.ref C) "__class__" = some (some (.builtin "object.__class__"))
  hn : PySem.W.specialIn K (.builtin "object.__class__") "__get__" = some (some (.builtin "getset_descriptor.__get__"))
  htk : PySem.W.takesIn K (.builtin "object.__class__") = some true
  hm : PySem.W.mroIn K C (.type "object") = some true
  hne : PySem.W.findIn K (.ref C) "__ne__" = some (some (.builtin "object.__ne__"))
  me : PySem.W.kitOne K (.ref C) (.ref C) = some true
  k1 : PySem.W.kitOne K (.type "NoneType") (.ref C) = some false
  k2 : PySem.W.kitOne K (.type "bool") (.ref C) = some false
  k3 : PySem.W.kitOne K (.type "int") (.ref C) = some false
  k4 : PySem.W.kitOne K (.type "str") (.ref C) = some false
  k5 : PySem.W.kitOne K (.type "list") (.ref C) = some false
  k6 : PySem.W.kitOne K (.type "tuple") (.ref C) = some false
  k7 : PySem.W.kitOne K (.type "dict") (.ref C) = some false
  s1 : PySem.W.notFirst K C (.type "NoneType") = true
  s2 : PySem.W.notFirst K C (.type "bool") = true
  s3 : PySem.W.notFirst K C (.type "int") = true
  s4 : PySem.W.notFirst K C (.type "str") = true
  s5 : PySem.W.notFirst K C (.type "list") = true
  s6 : PySem.W.notFirst K C (.type "tuple") = true
  s7 : PySem.W.notFirst K C (.type "dict") = true
theorem OwnC.kit {K : PySem.W.Frag} {C : Addr} (o : OwnC K C) {t : String} (h : t ∈ kts) : PySem.W.kitOne K (.type t) (.ref C) = some false := by
  simp only [kts, List.mem_cons, List.not_mem_nil, or_false] at h
  rcases h with rfl | rfl | rfl | rfl | rfl | rfl | rfl
  · exact o.k1
  · exact o.k2
  · exact o.k3
  · exact o.k4
  · exact o.k5
  · exact o.k6
  · exact o.k7
theorem OwnC.not {K : PySem.W.Frag} {C : Addr} (o : OwnC K C) {t : String} (h : t ∈ kts) : PySem.W.notFirst K C (.type t) = true := by
  simp only [kts, List.mem_cons, List.not_mem_nil, or_false] at h
  rcases h with rfl | rfl | rfl | rfl | rfl | rfl | rfl
  · exact o.s1
  · exact o.s2
  · exact o.s3
  · exact o.s4
  · exact o.s5
  · exact o.s6
  · exact o.s7
/-- an instance of the class -/
def isO (C : Addr) (d : D) : Bool := match d with
  | .ins C' _ _ => decide (C' = C)
  | _ => false
/-- another own class -/
structure ON (K : PySem.W.Frag) (C C' : Addr) : Prop where
  o : OwnC K C'
  cl : Cls K C'
  kit : PySem.W.kitOne K (.ref C') (.ref C) = some false
  nf : PySem.W.notFirst K C (.ref C') = true
/-- it may be asked whether this is one -/
def okO (K : PySem.W.Frag) (C : Addr) (d : D) : Prop := match d with
  | .ins C' _ _ => C' = C ∨ ON K C C'
  | d => ∃ t, tyN d = some t ∧ t ∈ kts
theorem isO_ins {C : Addr} {ks : List Str} {xs : List D} : isO C (.ins C ks xs) = true := decide_eq_true rfl
theorem isO_non {C : Addr} : isO C .non = false := rfl
theorem isO_bl {C : Addr} {b : Bool} : isO C (.bl b) = false := rfl
theorem isO_int {C : Addr} {i : Int} : isO C (.int i) = false := rfl
theorem isO_str {C : Addr} {l : List Nat} : isO C (.str l) = false := rfl
theorem isO_lst {C : Addr} {xs : List D} : isO C (.lst xs) = false := rfl
theorem isO_tup {C : Addr} {xs : List D} : isO C (.tup xs) = false := rfl
theorem isO_oth {K : PySem.W.Frag} {C C' : Addr} {ks : List Str} {xs : List D} (h : ON K C C') : isO C (.ins C' ks xs) = false := decide_eq_false fun e => by
  subst e
  have := h.o.me
  rw [h.kit] at this
  cases this
theorem okO_ins {K : PySem.W.Frag} {C : Addr} {ks : List Str} {xs : List D} : okO K C (.ins C ks xs) = True := eq_true (.inl rfl)
theorem okO_oth {K : PySem.W.Frag} {C C' : Addr} {ks : List Str} {xs : List D} (h : ON K C C') : okO K C (.ins C' ks xs) := .inr h
theorem okO_non {K : PySem.W.Frag} {C : Addr} : okO K C .non = True := eq_true ⟨_, rfl, by decide⟩
theorem okO_bl {K : PySem.W.Frag} {C : Addr} {b : Bool} : okO K C (.bl b) = True := eq_true ⟨_, rfl, by decide⟩
theorem okO_int {K : PySem.W.Frag} {C : Addr} {i : Int} : okO K C (.int i) = True := eq_true ⟨_, rfl, by decide⟩
theorem okO_str {K : PySem.W.Frag} {C : Addr} {l : List Nat} : okO K C (.str l) = True := eq_true ⟨_, rfl, by decide⟩
theorem okO_lst {K : PySem.W.Frag} {C : Addr} {xs : List D} : okO K C (.lst xs) = True := eq_true ⟨_, rfl, by decide⟩
theorem okO_tup {K : PySem.W.Frag} {C : Addr} {xs : List D} : okO K C (.tup xs) = True := eq_true ⟨_, rfl, by decide⟩
section
variable {K : PySem.W.Frag} {H : Hp} {μ : Mu}
theorem isO_ty {C : Addr} {v : V} {d : D} (o : OwnC K C) (cl : Cls K C) (c : Cells K H μ) (r : Rep K H μ v d) (h : okO K C (rd μ d)) : ∃ t, TyX K H v t ∧ PySem.W.kitOne K t (.ref C) = some (isO C (rd μ d)) ∧ PySem.W.notFirst K C t = true := by
  have pl : (∃ t, tyN (rd μ d) = some t ∧ t ∈ kts) → ∃ t, TyX K H v t ∧ PySem.W.kitOne K t (.ref C) = some false ∧ PySem.W.notFirst K C t = true := by
    rintro ⟨t, ht, hk⟩
    exact ⟨.type t, ty_ok c r ht, o.kit hk, o.not hk⟩
  cases e : rd μ d with
  | ins C' ks xs =>
    rw [e] at h
    obtain ⟨a, dx, fs, rfl, ha, _, _⟩ := rd_ins c r e
    rcases h with h | h
    · subst h
      exact ⟨.ref C', .base (.ins ha cl o.ha o.hn o.htk o.hm), by rw [isO_ins]; exact o.me, by simp [PySem.W.notFirst]⟩
    · exact ⟨.ref C', .base (.ins ha h.cl h.o.ha h.o.hn h.o.htk h.o.hm), by rw [isO_oth h]; exact h.kit, h.nf⟩
  | _ => rw [e] at h; exact pl (by rw [e]; exact h)
end
def gIsiO (K : PySem.W.Frag) (C : Addr) : GC := fun xs μ Q => two xs fun x y => y = .ref C ∧ okO K C (rd μ x) ∧ Q (.bl (isO C (rd μ x))) μ
theorem c_isiO {X : Cx} {K : PySem.W.Frag} {C : Addr} (o : OwnC K C) (cl : Cls K C) (hK : X.K = K := by rfl) : DCl X (.builtin "isinstance") (rIsi K) (gIsiO K C) := by
 subst hK
 exact ⟨call_isi, fun {xs ds H μ Q Q'} c r d q => by
  obtain ⟨x, y, rfl, rfl, ok, d1⟩ := two_inv d
  obtain ⟨v, w, rfl, r1, r2⟩ := r.inv2
  obtain ⟨t, h1, h2, _⟩ := isO_ty o cl c r1 ok
  exact ⟨v, .ref C, t, .ref C, _, by rw [r2.ref_inv], .own C, h1, h2, q _ _ _ _ (.refl c) (.bl _) d1⟩⟩
/-! == and != -/
def rEqO (K : PySem.W.Frag) (C : Addr) (sp : Sp) (neg : Bool) : R2 := fun x y H Q => ∃ a dx fs t, x = .ref a ∧ H a = some (.ins C dx fs) ∧ TyX K H y t ∧ PySem.W.notFirst K C t = true ∧ sp [x, y] H (fun v H' => ∃ b, v = .bl b ∧ Q (.bl (if neg then !b else b)) H') E0
section
variable {X : Cx} {CX : CXT} {k : Nat} {f C : Addr} {fd : FuncData} {ps : List Str} {sp : DSp}
theorem op_eqO {sp : Sp} {op : CmpOp} (neg : Bool) (hop : op = if neg then .NotEq else .Eq) (F : FnOk X.prog X.w X.K X.mg X.base CX k f fd ps sp) (hr : Room (k + 1) X.A) (o : OwnC X.K C) (hm : Meth X.K C "__eq__" f) (hb : Binds X.K fd ps []) (hx : Passes CX X E0) : OpR X (compareOp op) (rEqO X.K C sp neg) := by
  intro pins s σ H x y v u Q I rx ry hq
  obtain ⟨a, dx, fs, t, rfl, ha, ty, hn, hsp⟩ := hq
  cases rx
  obtain ⟨mA, J, _⟩ := ins_get I.hok ha
  obtain ⟨od, J, _⟩ := J.look
  obtain ⟨P, Z, p, _⟩ := kit_of I ry ty
  have hl := F.len _ _ _ _ hsp
  have r2 : Vals [V.ref a, y] [Value.ref a, u] := .cons rfl (.cons ry .nil)
  have go : ∀ {A' : Around}, Room k A' → A'.frames = X.A.frames → wpAny (model X.prog X.w) A' (call (.ref f) [.ref a, u]) (fun v s' => ∃ r, v = .bool r ∧ EP X pins σ Q (.bool (if neg then !r else r)) s') X.xe s := by
    intro A' hr' hfr
    have e0 : Env0 X.prog X.w X.K X.mg X.base A' X.stack s H := by
      have e := I.env0
      exact ⟨by rw [hfr]; exact e.frames, e.mod, e.bs, e.bsz, e.funs, e.frf, e.hok, e.bare⟩
    refine wpAny_call (codeAny_mono (F.run A' X.stack s H ⟨[.ref a, u], []⟩ [.ref a, u] [.ref a, y] _ E0 hr' e0 (by
      have := hb s [.ref a, u] I.kIn (by simpa using hl)
      simpa using this) r2 hsp) fun r s' hq => ?_)
    cases r with
    | error e => exact hx pins σ H s e s' I hq
    | ok fl =>
      cases fl with
      | ret w =>
        obtain ⟨v, H', I', rz, b, rfl, q⟩ := I.after hq
        cases rz
        exact ⟨b, rfl, .bl (if neg then !b else b), H', I', rfl, q⟩
      | next => exact False.elim hq
      | brk => exact False.elim hq
      | cont => exact False.elim hq
  obtain ⟨m, hF⟩ := I.fr
  cases neg with
  | false =>
    subst hop
    show wpAny _ X.A (richCompare .Eq _ _) _ _ _
    refine PySem.W.cmp_K (op := .Eq) (tb := t) hr.units0 hF I.ok.mod.kin J (Z.ty _ _ I.kIn p) hn hm.at_ hm.fn (wpAny_mono (go (hr.mono (Nat.le_succ _)) rfl) (fun v s' hv => ?_) fun _ _ x => x)
    obtain ⟨r, rfl, q⟩ := hv
    exact q
  | true =>
    subst hop
    show wpAny _ X.A (richCompare .NotEq _ _) _ _ _
    exact ne_K (by have := hr.units; omega) I.kIn J (Z.ty _ _ I.kIn p) hn o.hne o.hm hm.at_ hm.fn (go hr.in1 rfl)
def gEqO (K : PySem.W.Frag) (C : Addr) (ks : List Str) (sp : DSp) (neg : Bool) : G2 := fun x y μ Q => insOf C ks (rd μ x) ∧ okO K C (rd μ y) ∧ sp [x, y] μ (fun v μ' => v.toB fun b => Q (.bl (if neg then !b else b)) μ') noX
theorem o_eqO {K : PySem.W.Frag} {ks : List Str} {op : CmpOp} (neg : Bool) (hop : op = if neg then .NotEq else .Eq) (F : FnOk X.prog X.w X.K X.mg X.base CX k f fd ps (lift K sp)) (hr : Room (k + 1) X.A) (o : OwnC K C) (cl : Cls K C) (hm : Meth K C "__eq__" f) (hb : Binds X.K fd ps []) (hx : Passes CX X E0) (hK : X.K = K := by rfl) :
    DOp X (compareOp op) (rEqO K C (lift K sp) neg) (gEqO K C ks sp neg) := by
 subst hK
 exact ⟨op_eqO neg hop F hr o hm hb hx, fun {x y dx dy H μ Q Q'} c r1 r2 d q => by
  obtain ⟨d1, d2, d3⟩ := d
  obtain ⟨zs, e⟩ := insOf_inv d1
  obtain ⟨a, dx, fs, rfl, ha, hk, rr⟩ := rd_ins c r1 e
  obtain ⟨t, h1, _, h3⟩ := isO_ty o cl c r2 d2
  refine ⟨a, dx, fs, t, rfl, ha, h1, h3, _, _, _, _, .cons r1 (.one r2), c, d3, fun v z H' μ' t4 r4 q4 => ?_, xr_no⟩
  cases z with
  | bl b => exact ⟨b, r4.bl_inv, q _ _ _ _ t4 (.bl _) q4⟩
  | _ => exact q4.elim⟩
end
/-! ### steps from the head on -/
section
variable {E : DX} {δ : Sl} {μ : Mu} {x : Option D} {d v : D} {n i : Nat}
theorem dVar_zero {Q : DK} : dVar 0 E (some d :: δ) μ Q = Q d μ := Eq.trans (Eq.symm (Eq.refl _)) (Eq.refl _)
theorem dVar_succ {Q : DK} : dVar (n + 1) E (x :: δ) μ Q = dVar n E δ μ Q := by simp [dVar]
theorem gName_zero {Q : Sl → Mu → Prop} : Dl.gName 0 v (x :: δ) μ Q = Q (some v :: δ) μ := Eq.trans (Eq.symm (Eq.refl _)) (Eq.refl _)
theorem gName_succ {Q : Sl → Mu → Prop} : Dl.gName (i + 1) v (x :: δ) μ Q = Dl.gName i v δ μ fun δ' μ' => Q (x :: δ') μ' := Eq.trans (Eq.symm (Eq.refl _)) (Eq.refl _)
theorem sNext_mk {a b c d} : sNext E ⟨a, b, c, d⟩ δ μ = a δ μ := Eq.trans (Eq.symm (Eq.refl _)) (Eq.refl _)
theorem sBreak_mk {a b c d} : sBreak E ⟨a, b, c, d⟩ δ μ = c δ μ := Eq.trans (Eq.symm (Eq.refl _)) (Eq.refl _)
theorem sCont_mk {a b c d} : sCont E ⟨a, b, c, d⟩ δ μ = d δ μ := Eq.trans (Eq.symm (Eq.refl _)) (Eq.refl _)
theorem sSeq_mk {t u : DTS} {a b c d} : sSeq t u E ⟨a, b, c, d⟩ δ μ = t E ⟨u E ⟨a, b, c, d⟩, b, c, d⟩ δ μ := Eq.trans (Eq.symm (Eq.refl _)) (Eq.refl _)
theorem sDrop_mk {e : DTE} {a b c d} : sDrop e E ⟨a, b, c, d⟩ δ μ = e E δ μ fun _ μ1 => a δ μ1 := Eq.trans (Eq.symm (Eq.refl _)) (Eq.refl _)
theorem sRet_mk {e : DTE} {a b c d} : sRet e E ⟨a, b, c, d⟩ δ μ = e E δ μ b := Eq.trans (Eq.symm (Eq.refl _)) (Eq.refl _)
theorem sRetN_mk {a b c d} : sRetN E ⟨a, b, c, d⟩ δ μ = b .non μ := Eq.trans (Eq.symm (Eq.refl _)) (Eq.refl _)
theorem sAsg_mk {e : DTE} {g : DTG} {a b c d} : sAsg e g E ⟨a, b, c, d⟩ δ μ = e E δ μ fun x μ1 => g x δ μ1 a := Eq.trans (Eq.symm (Eq.refl _)) (Eq.refl _)
theorem gEq_str {neg : Bool} {a b : List Nat} {Q : DK} : gEq neg (.str a) (.str b) μ Q = Q (.bl (if neg then !decide (a = b) else decide (a = b))) μ := Eq.trans (Eq.symm (Eq.refl _)) (Eq.refl _)
theorem gEq_int {neg : Bool} {a b : Int} {Q : DK} : gEq neg (.int a) (.int b) μ Q = Q (.bl (if neg then !decide (a = b) else decide (a = b))) μ := Eq.trans (Eq.symm (Eq.refl _)) (Eq.refl _)
theorem gLenL_lst {xs : List D} {Q : DK} : gLenL [.lst xs] μ Q = Q (.int xs.length) μ := Eq.trans (Eq.symm (Eq.refl _)) (Eq.refl _)
theorem wipe_nil : wipeD δ [] = δ := Eq.trans (Eq.symm (Eq.refl _)) (Eq.refl _)
theorem gCons_cons {t : DTG} {u : DTGs} {r : List D} {Q : Sl → Mu → Prop} : Dl.gCons t u (v :: r) δ μ Q = t v δ μ fun δ' μ' => u r δ' μ' Q := Eq.trans (Eq.symm (Eq.refl _)) (Eq.refl _)
theorem gNil_nil {Q : Sl → Mu → Prop} : Dl.gNil [] δ μ Q = Q δ μ := by simp [Dl.gNil]
end
end Dl

set_option Elab.async false
set_option linter.all false
set_option maxRecDepth 100000
namespace Dl
open PySem PySem.Spec PyProof.Rows L2
/-! each step once more as an equation that is proved, not one by definition: what simp writes with these is checked fast -/
theorem dC_p (d : D) : ∀ z1 z2 μ Q, Dl.dC d z1 z2 μ Q = (Q d μ) := fun _ _ _ _ => Eq.trans (Eq.symm (Eq.refl _)) (Eq.refl _)
theorem dOp_p (g : G2) (a b : DTE) : ∀ E δ μ Q, Dl.dOp g a b E δ μ Q = (a E δ μ fun x μ1 => b E δ μ1 fun y μ2 => g x y μ2 Q) := fun _ _ _ _ => Eq.trans (Eq.symm (Eq.refl _)) (Eq.refl _)
theorem dB_p (a : DTE) : ∀ E δ μ Q, Dl.dB a E δ μ Q = (a E δ μ fun x μ1 => x.toB fun k => Q k μ1) := fun _ _ _ _ => Eq.trans (Eq.symm (Eq.refl _)) (Eq.refl _)
theorem dChain_p (g g' : G2) (a b c : DTE) : ∀ E δ μ Q, Dl.dChain g g' a b c E δ μ Q = (a E δ μ fun x μ1 => b E δ μ1 fun y μ2 => g x y μ2 fun z μ3 => z.toB fun k => bif k then c E δ μ3 fun w μ4 => g' y w μ4 Q else Q (.bl false) μ3) := fun _ _ _ _ => Eq.trans (Eq.symm (Eq.refl _)) (Eq.refl _)
theorem gI_p (C : Int → Int → Prop) (g : Int → Int → D) : ∀ x y μ Q, Dl.gI C g x y μ Q = (x.toI fun i => y.toI fun j => C i j ∧ Q (g i j) μ) := fun _ _ _ _ => Eq.trans (Eq.symm (Eq.refl _)) (Eq.refl _)
theorem gI0_p (g : Int → Int → D) : ∀ x y μ Q, Dl.gI0 g x y μ Q = (x.toI fun i => y.toI fun j => Q (g i j) μ) := fun _ _ _ _ => Eq.trans (Eq.symm (Eq.refl _)) (Eq.refl _)
theorem gS_p (C : List Nat → List Nat → Prop) (g : List Nat → List Nat → D) : ∀ x y μ Q, Dl.gS C g x y μ Q = (x.toS fun l => y.toS fun m => C l m ∧ Q (g l m) μ) := fun _ _ _ _ => Eq.trans (Eq.symm (Eq.refl _)) (Eq.refl _)
theorem gIn_p (neg : Bool) : ∀ x y μ Q, Dl.gIn neg x y μ Q = (x.toS fun l => y.toS fun m => match l with | [c] => Q (.bl (if neg then !decide (c ∈ m) else decide (c ∈ m))) μ | _ => False) := fun _ _ _ _ => Eq.trans (Eq.symm (Eq.refl _)) (Eq.refl _)
theorem gEq_p (neg : Bool) : ∀ x y μ Q, Dl.gEq neg x y μ Q = (match eqF x y with | some b => Q (.bl (if neg then !b else b)) μ | none => False) := fun _ _ _ _ => Eq.trans (Eq.symm (Eq.refl _)) (Eq.refl _)
theorem gIsN_p (neg : Bool) : ∀ x y μ Q, Dl.gIsN neg x y μ Q = (match y with | .non => Q (.bl (if neg then !isN x else isN x)) μ | _ => False) := fun _ _ _ _ => Eq.trans (Eq.symm (Eq.refl _)) (Eq.refl _)
theorem gBB_p (neg : Bool) : ∀ x y μ Q, Dl.gBB neg x y μ Q = (x.toB fun i => y.toB fun j => Q (.bl (if neg then !decide (i = j) else decide (i = j))) μ) := fun _ _ _ _ => Eq.trans (Eq.symm (Eq.refl _)) (Eq.refl _)
theorem gCat_p  : ∀ x y μ Q, Dl.gCat  x y μ Q = ((rd μ x).toL fun l => (rd μ y).toL fun m => l.length + m.length ≤ 16777216 ∧ Q (.lst (l ++ m)) μ) := fun _ _ _ _ => Eq.trans (Eq.symm (Eq.refl _)) (Eq.refl _)
theorem gRep_p  : ∀ x y μ Q, Dl.gRep  x y μ Q = ((rd μ x).toL fun l => y.toI fun k => k < 2 ^ 62 ∧ -(2 ^ 62) < k ∧ l.length * k.toNat ≤ 16777216 ∧ Q (.lst (List.replicate k.toNat l).flatten) μ) := fun _ _ _ _ => Eq.trans (Eq.symm (Eq.refl _)) (Eq.refl _)
theorem dAnd_p (a b : DTT) : ∀ E δ μ Q, Dl.dAnd a b E δ μ Q = (a E δ μ fun c μ1 => bif c then b E δ μ1 Q else Q false μ1) := fun _ _ _ _ => Eq.trans (Eq.symm (Eq.refl _)) (Eq.refl _)
theorem dOr_p (a b : DTT) : ∀ E δ μ Q, Dl.dOr a b E δ μ Q = (a E δ μ fun c μ1 => bif c then Q true μ1 else b E δ μ1 Q) := fun _ _ _ _ => Eq.trans (Eq.symm (Eq.refl _)) (Eq.refl _)
theorem dNot_p (a : DTT) : ∀ E δ μ Q, Dl.dNot a E δ μ Q = (a E δ μ fun c μ1 => Q (!c) μ1) := fun _ _ _ _ => Eq.trans (Eq.symm (Eq.refl _)) (Eq.refl _)
theorem dAndV_p (a b : DTE) : ∀ E δ μ Q, Dl.dAndV a b E δ μ Q = (a E δ μ fun x μ1 => x.toB fun c => bif c then b E δ μ1 Q else Q (.bl false) μ1) := fun _ _ _ _ => Eq.trans (Eq.symm (Eq.refl _)) (Eq.refl _)
theorem dOrV_p (a b : DTE) : ∀ E δ μ Q, Dl.dOrV a b E δ μ Q = (a E δ μ fun x μ1 => x.toB fun c => bif c then Q (.bl true) μ1 else b E δ μ1 Q) := fun _ _ _ _ => Eq.trans (Eq.symm (Eq.refl _)) (Eq.refl _)
theorem dNotV_p (a : DTE) : ∀ E δ μ Q, Dl.dNotV a E δ μ Q = (a E δ μ fun x μ1 => x.toB fun c => Q (.bl (!c)) μ1) := fun _ _ _ _ => Eq.trans (Eq.symm (Eq.refl _)) (Eq.refl _)
theorem dIfE_p (c : DTT) (a b : DTE) : ∀ E δ μ Q, Dl.dIfE c a b E δ μ Q = (c E δ μ fun k μ1 => bif k then a E δ μ1 Q else b E δ μ1 Q) := fun _ _ _ _ => Eq.trans (Eq.symm (Eq.refl _)) (Eq.refl _)
theorem dTru_p (a : DTE) : ∀ E δ μ Q, Dl.dTru a E δ μ Q = (a E δ μ fun x μ1 => tru (rd μ1 x) fun k => Q k μ1) := fun _ _ _ _ => Eq.trans (Eq.symm (Eq.refl _)) (Eq.refl _)
theorem dNil_p  : ∀ z1 z2 μ Q, Dl.dNil  z1 z2 μ Q = (Q [] μ) := fun _ _ _ _ => Eq.trans (Eq.symm (Eq.refl _)) (Eq.refl _)
theorem dCons_p (a : DTE) (b : DTA) : ∀ E δ μ Q, Dl.dCons a b E δ μ Q = (a E δ μ fun x μ1 => b E δ μ1 fun xs μ2 => Q (x :: xs) μ2) := fun _ _ _ _ => Eq.trans (Eq.symm (Eq.refl _)) (Eq.refl _)
theorem dTup_p (a : DTA) : ∀ E δ μ Q, Dl.dTup a E δ μ Q = (a E δ μ fun xs μ1 => xs.length ≤ 16777216 ∧ Q (.tup xs) μ1) := fun _ _ _ _ => Eq.trans (Eq.symm (Eq.refl _)) (Eq.refl _)
theorem dLst_p (a : DTA) : ∀ E δ μ Q, Dl.dLst a E δ μ Q = (a E δ μ fun xs μ1 => xs.length ≤ 16777216 ∧ Q (.lst xs) μ1) := fun _ _ _ _ => Eq.trans (Eq.symm (Eq.refl _)) (Eq.refl _)
theorem dLstC_p (a : DTA) : ∀ E δ μ Q, Dl.dLstC a E δ μ Q = (a E δ μ fun xs μ1 => xs.length ≤ 16777216 ∧ ∀ p, μ1 p = none → Q (.ref p) (mup μ1 p (.lst xs))) := fun _ _ _ _ => Eq.trans (Eq.symm (Eq.refl _)) (Eq.refl _)
theorem dFz_p (a : DTE) : ∀ E δ μ Q, Dl.dFz a E δ μ Q = (a E δ μ fun x μ1 => match x with | .ref p => (match μ1 p with | some y => Q y (era μ1 p) | none => False) | _ => False) := fun _ _ _ _ => Eq.trans (Eq.symm (Eq.refl _)) (Eq.refl _)
theorem gIxL_p  : ∀ x y μ Q, Dl.gIxL  x y μ Q = ((rd μ x).toL fun xs => y.toI fun i => match L2.atI xs i with | some d => Q d μ | none => False) := fun _ _ _ _ => Eq.trans (Eq.symm (Eq.refl _)) (Eq.refl _)
theorem gIxT_p  : ∀ x y μ Q, Dl.gIxT  x y μ Q = ((rd μ x).toT fun xs => y.toI fun i => match L2.atI xs i with | some d => Q d μ | none => False) := fun _ _ _ _ => Eq.trans (Eq.symm (Eq.refl _)) (Eq.refl _)
theorem gIxS_p  : ∀ x y μ Q, Dl.gIxS  x y μ Q = (x.toS fun l => y.toI fun i => l.length ≤ 16777216 ∧ match L2.atI l i with | some c => Q (.str [c]) μ | none => False) := fun _ _ _ _ => Eq.trans (Eq.symm (Eq.refl _)) (Eq.refl _)
theorem dNoPart_p  : ∀ z1 z2 μ Q, Dl.dNoPart  z1 z2 μ Q = (Q none μ) := fun _ _ _ _ => Eq.trans (Eq.symm (Eq.refl _)) (Eq.refl _)
theorem dPart_p (a : DTE) : ∀ E δ μ Q, Dl.dPart a E δ μ Q = (a E δ μ fun x μ1 => x.toI fun i => Q (some i) μ1) := fun _ _ _ _ => Eq.trans (Eq.symm (Eq.refl _)) (Eq.refl _)
theorem dSlice_p (g : GSl) (a : DTE) (l h : DTO) : ∀ E δ μ Q, Dl.dSlice g a l h E δ μ Q = (a E δ μ fun x μ1 => l E δ μ1 fun lo μ2 => h E δ μ2 fun hi μ3 => g x lo hi μ3 Q) := fun _ _ _ _ => Eq.trans (Eq.symm (Eq.refl _)) (Eq.refl _)
theorem gSlL_p  : ∀ x lo hi μ Q, Dl.gSlL  x lo hi μ Q = ((rd μ x).toL fun xs => Q (.lst (cutL xs lo hi)) μ) := fun _ _ _ _ _ => Eq.trans (Eq.symm (Eq.refl _)) (Eq.refl _)
theorem gSlLC_p  : ∀ x lo hi μ Q, Dl.gSlLC  x lo hi μ Q = ((rd μ x).toL fun xs => ∀ p, μ p = none → Q (.ref p) (mup μ p (.lst (cutL xs lo hi)))) := fun _ _ _ _ _ => Eq.trans (Eq.symm (Eq.refl _)) (Eq.refl _)
theorem gSlS_p  : ∀ x lo hi μ Q, Dl.gSlS  x lo hi μ Q = (x.toS fun l => l.length ≤ 16777216 ∧ Q (.str (cutL l lo hi)) μ) := fun _ _ _ _ _ => Eq.trans (Eq.symm (Eq.refl _)) (Eq.refl _)
theorem dRevL_p (a : DTE) : ∀ E δ μ Q, Dl.dRevL a E δ μ Q = (a E δ μ fun x μ1 => (rd μ1 x).toL fun xs => Q (.lst xs.reverse) μ1) := fun _ _ _ _ => Eq.trans (Eq.symm (Eq.refl _)) (Eq.refl _)
theorem dCB_p (g : GC) (a : DTA) : ∀ E δ μ Q, Dl.dCB g a E δ μ Q = (a E δ μ fun xs μ1 => g xs μ1 Q) := fun _ _ _ _ => Eq.trans (Eq.symm (Eq.refl _)) (Eq.refl _)
theorem gLenS_p  : ∀ ds μ Q, Dl.gLenS  ds μ Q = (one ds fun x => x.toS fun l => l.length ≤ 16777216 ∧ Q (.int (l.length : Nat)) μ) := fun _ _ _ => Eq.trans (Eq.symm (Eq.refl _)) (Eq.refl _)
theorem gLenL_p  : ∀ ds μ Q, Dl.gLenL  ds μ Q = (one ds fun x => match rd μ x with | .lst xs => Q (.int (xs.length : Nat)) μ | .tup xs => Q (.int (xs.length : Nat)) μ | _ => False) := fun _ _ _ => Eq.trans (Eq.symm (Eq.refl _)) (Eq.refl _)
theorem gAll_p  : ∀ ds μ Q, Dl.gAll  ds μ Q = (one ds fun x => (rd μ x).toL fun xs => match asB xs with | some l => Q (.bl (l.all id)) μ | none => False) := fun _ _ _ => Eq.trans (Eq.symm (Eq.refl _)) (Eq.refl _)
theorem gAny_p  : ∀ ds μ Q, Dl.gAny  ds μ Q = (one ds fun x => (rd μ x).toL fun xs => match asB xs with | some l => Q (.bl (l.any id)) μ | none => False) := fun _ _ _ => Eq.trans (Eq.symm (Eq.refl _)) (Eq.refl _)
theorem gMax2_p  : ∀ ds μ Q, Dl.gMax2  ds μ Q = (two ds fun x y => x.toI fun i => y.toI fun j => Q (.int (if j > i then j else i)) μ) := fun _ _ _ => Eq.trans (Eq.symm (Eq.refl _)) (Eq.refl _)
theorem gMin2_p  : ∀ ds μ Q, Dl.gMin2  ds μ Q = (two ds fun x y => x.toI fun i => y.toI fun j => Q (.int (if j < i then j else i)) μ) := fun _ _ _ => Eq.trans (Eq.symm (Eq.refl _)) (Eq.refl _)
theorem gInt1_p  : ∀ ds μ Q, Dl.gInt1  ds μ Q = (one ds fun x => match x with | .int i => Q (.int i) μ | .bl b => Q (.int (if b then 1 else 0)) μ | _ => False) := fun _ _ _ => Eq.trans (Eq.symm (Eq.refl _)) (Eq.refl _)
theorem gAbs_p  : ∀ ds μ Q, Dl.gAbs  ds μ Q = (one ds fun x => x.toI fun i => Q (.int (if i < 0 then -i else i)) μ) := fun _ _ _ => Eq.trans (Eq.symm (Eq.refl _)) (Eq.refl _)
theorem gList_p  : ∀ ds μ Q, Dl.gList  ds μ Q = (one ds fun x => match rd μ x with | .lst xs => Q (.lst xs) μ | .tup xs => Q (.lst xs) μ | _ => False) := fun _ _ _ => Eq.trans (Eq.symm (Eq.refl _)) (Eq.refl _)
theorem gListC_p  : ∀ ds μ Q, Dl.gListC  ds μ Q = (one ds fun x => match rd μ x with | .lst xs => ∀ p, μ p = none → Q (.ref p) (mup μ p (.lst xs)) | .tup xs => ∀ p, μ p = none → Q (.ref p) (mup μ p (.lst xs)) | _ => False) := fun _ _ _ => Eq.trans (Eq.symm (Eq.refl _)) (Eq.refl _)
theorem gSortT_p  : ∀ ds μ Q, Dl.gSortT  ds μ Q = (one ds fun x => x.toS fun l => l.length ≤ 16777216 ∧ ∀ m : List Nat, m.Perm l → m.Pairwise (· ≤ ·) → Q (.lst (m.map fun c => .str [c])) μ) := fun _ _ _ => Eq.trans (Eq.symm (Eq.refl _)) (Eq.refl _)
theorem gSum_p  : ∀ ds μ Q, Dl.gSum  ds μ Q = (one ds fun x => (rd μ x).toL fun xs => match asI xs with | some l => Q (.int l.sum) μ | none => False) := fun _ _ _ => Eq.trans (Eq.symm (Eq.refl _)) (Eq.refl _)
theorem gIsi_p  : ∀ ds μ Q, Dl.gIsi  ds μ Q = (two ds fun x y => match tyN (rd μ x), y with | some t, .ty c => (match kitB t c with | some b => Q (.bl b) μ | none => False) | _, _ => False) := fun _ _ _ => Eq.trans (Eq.symm (Eq.refl _)) (Eq.refl _)
theorem dLenSet_p (a : DTE) : ∀ E δ μ Q, Dl.dLenSet a E δ μ Q = (a E δ μ fun x μ1 => x.toS fun l => l.length ≤ 4000 ∧ ∀ m : Nat, m ≤ l.length → (m = l.length ↔ l.Nodup) → Q (.int (m : Nat)) μ1) := fun _ _ _ _ => Eq.trans (Eq.symm (Eq.refl _)) (Eq.refl _)
theorem dM0_p (g : GM) (a : DTE) : ∀ E δ μ Q, Dl.dM0 g a E δ μ Q = (a E δ μ fun x μ1 => isS x = true ∧ g x [] μ1 Q) := fun _ _ _ _ => Eq.trans (Eq.symm (Eq.refl _)) (Eq.refl _)
theorem dM1_p (g : GM) (a b : DTE) : ∀ E δ μ Q, Dl.dM1 g a b E δ μ Q = (a E δ μ fun x μ1 => isS x = true ∧ b E δ μ1 fun y μ2 => g x [y] μ2 Q) := fun _ _ _ _ => Eq.trans (Eq.symm (Eq.refl _)) (Eq.refl _)
theorem gStarts_p  : ∀ x xs μ Q, Dl.gStarts  x xs μ Q = (x.toS fun l => one xs fun y => y.toS fun m => Q (.bl (Txt.startswith (ofL l) (ofL m))) μ) := fun _ _ _ _ => Eq.trans (Eq.symm (Eq.refl _)) (Eq.refl _)
theorem gEnds_p  : ∀ x xs μ Q, Dl.gEnds  x xs μ Q = (x.toS fun l => one xs fun y => y.toS fun m => Q (.bl (Txt.endswith (ofL l) (ofL m))) μ) := fun _ _ _ _ => Eq.trans (Eq.symm (Eq.refl _)) (Eq.refl _)
theorem gAscii_p  : ∀ x z1 μ Q, Dl.gAscii  x z1 μ Q = (x.toS fun l => Q (.bl (Txt.isascii (ofL l))) μ) := fun _ _ _ _ => Eq.trans (Eq.symm (Eq.refl _)) (Eq.refl _)
theorem gAlpha_p  : ∀ x z1 μ Q, Dl.gAlpha  x z1 μ Q = (x.toS fun l => Q (.bl (Txt.isalpha (ofL l))) μ) := fun _ _ _ _ => Eq.trans (Eq.symm (Eq.refl _)) (Eq.refl _)
theorem dIndex_p (a : DTE) (b : DTA) : ∀ E δ μ Q, Dl.dIndex a b E δ μ Q = (a E δ μ fun x μ1 => isS x = true ∧ b E δ μ1 fun xs μ2 => x.toS fun l => one xs fun y => y.toS fun m => match m with | [c] => c ∈ l ∧ Q (.int (l.idxOf c : Nat)) μ2 | _ => False) := fun _ _ _ _ => Eq.trans (Eq.symm (Eq.refl _)) (Eq.refl _)
theorem dBM_p (g : GM) (a : DTE) (b : DTA) : ∀ E δ μ Q, Dl.dBM g a b E δ μ Q = (a E δ μ fun x μ1 => isC μ1 x ∧ b E δ μ1 fun xs μ2 => g x xs μ2 Q) := fun _ _ _ _ => Eq.trans (Eq.symm (Eq.refl _)) (Eq.refl _)
theorem dBM0_p (g : GM) (a : DTE) : ∀ E δ μ Q, Dl.dBM0 g a E δ μ Q = (a E δ μ fun x μ1 => isC μ1 x ∧ g x [] μ1 Q) := fun _ _ _ _ => Eq.trans (Eq.symm (Eq.refl _)) (Eq.refl _)
theorem gAppend_p  : ∀ x ys μ Q, Dl.gAppend  x ys μ Q = (one ys fun y => cel μ x fun p xs => xs.length < 16777216 ∧ Q .non (mup μ p (.lst (xs ++ [y])))) := fun _ _ _ _ => Eq.trans (Eq.symm (Eq.refl _)) (Eq.refl _)
theorem gExtend_p  : ∀ x ys μ Q, Dl.gExtend  x ys μ Q = (one ys fun y => cel μ x fun p xs => (rd μ y).toL fun zs => xs.length + zs.length ≤ 16777216 ∧ Q .non (mup μ p (.lst (xs ++ zs)))) := fun _ _ _ _ => Eq.trans (Eq.symm (Eq.refl _)) (Eq.refl _)
theorem gClear_p  : ∀ x ys μ Q, Dl.gClear  x ys μ Q = (ys = [] ∧ cel μ x fun p _ => Q .non (mup μ p (.lst []))) := fun _ _ _ _ => Eq.trans (Eq.symm (Eq.refl _)) (Eq.refl _)
theorem gPop_p  : ∀ x ys μ Q, Dl.gPop  x ys μ Q = (ys = [] ∧ cel μ x fun p xs => match xs[xs.length - 1]? with | some y => Q y (mup μ p (.lst xs.dropLast)) | none => False) := fun _ _ _ _ => Eq.trans (Eq.symm (Eq.refl _)) (Eq.refl _)
theorem dFld_p (C : Addr) (ks : List Str) (i : Nat) (a : DTE) : ∀ E δ μ Q, Dl.dFld C ks i a E δ μ Q = (a E δ μ fun x μ1 => fld C ks i (rd μ1 x) fun y => Q y μ1) := fun _ _ _ _ => Eq.trans (Eq.symm (Eq.refl _)) (Eq.refl _)
theorem sNext_p  : ∀ z1 D δ μ, Dl.sNext  z1 D δ μ = (D.nx δ μ) := fun _ _ _ _ => Eq.trans (Eq.symm (Eq.refl _)) (Eq.refl _)
theorem sSeq_p (t u : DTS) : ∀ E D δ μ, Dl.sSeq t u E D δ μ = (t E { D with nx := u E D } δ μ) := fun _ _ _ _ => Eq.trans (Eq.symm (Eq.refl _)) (Eq.refl _)
theorem sBreak_p  : ∀ z1 D δ μ, Dl.sBreak  z1 D δ μ = (D.bk δ μ) := fun _ _ _ _ => Eq.trans (Eq.symm (Eq.refl _)) (Eq.refl _)
theorem sCont_p  : ∀ z1 D δ μ, Dl.sCont  z1 D δ μ = (D.ct δ μ) := fun _ _ _ _ => Eq.trans (Eq.symm (Eq.refl _)) (Eq.refl _)
theorem sDrop_p (a : DTE) : ∀ E D δ μ, Dl.sDrop a E D δ μ = (a E δ μ fun _ μ1 => D.nx δ μ1) := fun _ _ _ _ => Eq.trans (Eq.symm (Eq.refl _)) (Eq.refl _)
theorem sRet_p (a : DTE) : ∀ E D δ μ, Dl.sRet a E D δ μ = (a E δ μ D.rt) := fun _ _ _ _ => Eq.trans (Eq.symm (Eq.refl _)) (Eq.refl _)
theorem sRetN_p  : ∀ z1 D z2 μ, Dl.sRetN  z1 D z2 μ = (D.rt .non μ) := fun _ _ _ _ => Eq.trans (Eq.symm (Eq.refl _)) (Eq.refl _)
theorem sIf_p (c : DTT) (t u : DTS) : ∀ E D δ μ, Dl.sIf c t u E D δ μ = (c E δ μ fun b μ1 => bif b then t E D δ μ1 else u E D δ μ1) := fun _ _ _ _ => Eq.trans (Eq.symm (Eq.refl _)) (Eq.refl _)
theorem sNever_p  : ∀ z1 z2 z3 z4, Dl.sNever  z1 z2 z3 z4 = (False) := fun _ _ _ _ => Eq.trans (Eq.symm (Eq.refl _)) (Eq.refl _)
theorem sCut_p (t u : DTS) : ∀ E D δ μ, Dl.sCut t u E D δ μ = (∃ W : Sl → Mu → Prop, t E { D with nx := W } δ μ ∧ ∀ δ' μ', W δ' μ' → u E D δ' μ') := fun _ _ _ _ => Eq.trans (Eq.symm (Eq.refl _)) (Eq.refl _)
theorem sFz_p (i : Nat) (u : DTS) : ∀ E D δ μ, Dl.sFz i u E D δ μ = (match δ[i]? with | some (some (.ref p)) => (match μ p with | some y => u E D (δ.set i (some y)) (era μ p) | none => False) | _ => False) := fun _ _ _ _ => Eq.trans (Eq.symm (Eq.refl _)) (Eq.refl _)
theorem sAsg_p (a : DTE) (g : DTG) : ∀ E D δ μ, Dl.sAsg a g E D δ μ = (a E δ μ fun x μ1 => g x δ μ1 D.nx) := fun _ _ _ _ => Eq.trans (Eq.symm (Eq.refl _)) (Eq.refl _)
theorem gSub'_p (o i : DTE) (g : D → D → D → Mu → (Mu → Prop) → Prop) : ∀ v δ μ Q, Dl.gSub' o i g v δ μ Q = (o noX δ μ fun x μ1 => i noX δ μ1 fun y μ2 => g x y v μ2 fun μ3 => Q δ μ3) := fun _ _ _ _ => Eq.trans (Eq.symm (Eq.refl _)) (Eq.refl _)
theorem sPar_p (i j : Nat) (a : DTA) : ∀ E D δ μ, Dl.sPar i j a E D δ μ = (a E δ μ fun vs μ1 => match vs with | [v, w] => D.nx ((δ.set i (some v)).set j (some w)) μ1 | _ => False) := fun _ _ _ _ => Eq.trans (Eq.symm (Eq.refl _)) (Eq.refl _)
theorem sAug_p (n : Nat) (a : DTE) (f : Int → Int → Int) : ∀ E D δ μ, Dl.sAug n a f E D δ μ = (match δ[n]? with | some (some v) => a E δ μ fun y μ1 => v.toI fun i => y.toI fun j => D.nx (δ.set n (some (.int (f i j)))) μ1 | _ => False) := fun _ _ _ _ => Eq.trans (Eq.symm (Eq.refl _)) (Eq.refl _)
theorem sAugD_p (n : Nat) (a : DTE) : ∀ E D δ μ, Dl.sAugD n a E D δ μ = (match δ[n]? with | some (some v) => a E δ μ fun y μ1 => v.toI fun i => y.toI fun j => CDiv i j ∧ D.nx (δ.set n (some (.int (i / j)))) μ1 | _ => False) := fun _ _ _ _ => Eq.trans (Eq.symm (Eq.refl _)) (Eq.refl _)
theorem iL_p (a : DTE) : ∀ E δ μ R, Dl.iL a E δ μ R = (a E δ μ fun x μ1 => (rd μ1 x).toL fun xs => R xs (keeps x xs) μ1) := fun _ _ _ _ => Eq.trans (Eq.symm (Eq.refl _)) (Eq.refl _)
theorem iT_p (a : DTE) : ∀ E δ μ R, Dl.iT a E δ μ R = (a E δ μ fun x μ1 => x.toT fun xs => R xs yes μ1) := fun _ _ _ _ => Eq.trans (Eq.symm (Eq.refl _)) (Eq.refl _)
theorem iS_p (a : DTE) : ∀ E δ μ R, Dl.iS a E δ μ R = (a E δ μ fun x μ1 => x.toS fun l => R (l.map fun c => .str [c]) yes μ1) := fun _ _ _ _ => Eq.trans (Eq.symm (Eq.refl _)) (Eq.refl _)
theorem iR1_p (a : DTA) : ∀ E δ μ R, Dl.iR1 a E δ μ R = (a E δ μ fun vs μ1 => one vs fun x => x.toI fun j => -(2 ^ 62) ≤ j ∧ j < 2 ^ 62 ∧ R (rngD 0 j.toNat) yes μ1) := fun _ _ _ _ => Eq.trans (Eq.symm (Eq.refl _)) (Eq.refl _)
theorem iR2_p (a : DTA) : ∀ E δ μ R, Dl.iR2 a E δ μ R = (a E δ μ fun vs μ1 => two vs fun x y => x.toI fun i => y.toI fun j => (-(2 ^ 62) ≤ i ∧ i < 2 ^ 62 ∧ -(2 ^ 62) ≤ j ∧ j < 2 ^ 62) ∧ R (rngD i (j - i).toNat) yes μ1) := fun _ _ _ _ => Eq.trans (Eq.symm (Eq.refl _)) (Eq.refl _)
theorem iEn_p (a : DTA) : ∀ E δ μ R, Dl.iEn a E δ μ R = (a E δ μ fun vs μ1 => one vs fun x => (rd μ1 x).toL fun xs => R (enumD xs) (keeps x xs) μ1) := fun _ _ _ _ => Eq.trans (Eq.symm (Eq.refl _)) (Eq.refl _)
theorem iEs_p (a : DTA) : ∀ E δ μ R, Dl.iEs a E δ μ R = (a E δ μ fun vs μ1 => one vs fun x => x.toS fun l => R (enumD (l.map fun c => .str [c])) yes μ1) := fun _ _ _ _ => Eq.trans (Eq.symm (Eq.refl _)) (Eq.refl _)
theorem iZp_p (a : DTA) : ∀ E δ μ R, Dl.iZp a E δ μ R = (a E δ μ fun vs μ1 => two vs fun x y => (rd μ1 x).toL fun xs => (rd μ1 y).toL fun ys => R (zipD xs ys) (fun μ => keeps x xs μ ∧ keeps y ys μ) μ1) := fun _ _ _ _ => Eq.trans (Eq.symm (Eq.refl _)) (Eq.refl _)
theorem iZs_p (a : DTA) : ∀ E δ μ R, Dl.iZs a E δ μ R = (a E δ μ fun vs μ1 => two vs fun x y => x.toS fun l => match y with | .str m => R (zipD (l.map fun c => .str [c]) (m.map fun c => .str [c])) yes μ1 | .lst ys => R (zipD (l.map fun c => .str [c]) ys) yes μ1 | _ => False) := fun _ _ _ _ => Eq.trans (Eq.symm (Eq.refl _)) (Eq.refl _)
theorem sFor_p (w : DTI) (g : DTG) (b : DTS) : ∀ E D δ μ, Dl.sFor w g b E D δ μ = (w E δ μ fun xs C μ1 => forL g b E D C xs δ μ1) := fun _ _ _ _ => Eq.trans (Eq.symm (Eq.refl _)) (Eq.refl _)
theorem dYes_p  : ∀ z1 z2 μ Q, Dl.dYes  z1 z2 μ Q = (Q true μ) := fun _ _ _ _ => Eq.trans (Eq.symm (Eq.refl _)) (Eq.refl _)
theorem dLc_p (w : DTI) (g : DTG) (tt : DTT) (te : DTE) (ws : List Nat) : ∀ E δ μ Q, Dl.dLc w g tt te ws E δ μ Q = (w E δ μ fun xs C μ1 => ∀ L, μ1 L = none → lcL g tt te (wipeD δ ws) L C (fun acc μ2 => Q (.lst acc) (era μ2 L)) xs [] (mup μ1 L (.lst []))) := fun _ _ _ _ => Eq.trans (Eq.symm (Eq.refl _)) (Eq.refl _)
theorem dLcC_p (w : DTI) (g : DTG) (tt : DTT) (te : DTE) (ws : List Nat) : ∀ E δ μ Q, Dl.dLcC w g tt te ws E δ μ Q = (w E δ μ fun xs C μ1 => ∀ L, μ1 L = none → lcL g tt te (wipeD δ ws) L C (fun _ μ2 => Q (.ref L) μ2) xs [] (mup μ1 L (.lst []))) := fun _ _ _ _ => Eq.trans (Eq.symm (Eq.refl _)) (Eq.refl _)
theorem dCall_p (sp : DSp) (dds : List D) (a : DTA) : ∀ E δ μ Q, Dl.dCall sp dds a E δ μ Q = (a E δ μ fun ds μ1 => sp (ds ++ dds) μ1 Q E) := fun _ _ _ _ => Eq.trans (Eq.symm (Eq.refl _)) (Eq.refl _)
theorem dMeth_p (C : Addr) (ks : List Str) (sp : DSp) (dds : List D) (o : DTE) (a : DTA) : ∀ E δ μ Q, Dl.dMeth C ks sp dds o a E δ μ Q = (o E δ μ fun x μ1 => insOf C ks (rd μ1 x) ∧ a E δ μ1 fun ds μ2 => sp (x :: (ds ++ dds)) μ2 Q E) := fun _ _ _ _ => Eq.trans (Eq.symm (Eq.refl _)) (Eq.refl _)
theorem dMake_p (C : Addr) (sp : DSp) (dds : List D) (a : DTA) : ∀ E δ μ Q, Dl.dMake C sp dds a E δ μ Q = (a E δ μ fun ds μ1 => ∀ p, μ1 p = none → sp (.ref p :: (ds ++ dds)) (mup μ1 p (.ins C [] [])) (fun v μ2 => v = .non ∧ Q (.ref p) μ2) E) := fun _ _ _ _ => Eq.trans (Eq.symm (Eq.refl _)) (Eq.refl _)
theorem sRaise_p (C : Addr) (f : Str) (a : DTA) : ∀ E z1 δ μ, Dl.sRaise C f a E z1 δ μ = (a E δ μ fun vs μ1 => one vs fun x => E C f x μ1) := fun _ _ _ _ => Eq.trans (Eq.symm (Eq.refl _)) (Eq.refl _)
theorem gEqD_p (neg : Bool) : ∀ x y μ Q, Dl.gEqD neg x y μ Q = (isP 9 (rd μ x) = true ∧ isP 9 (rd μ y) = true ∧ Q (.bl (if neg then !PyData.eqv (toP (rd μ x)) (toP (rd μ y)) else PyData.eqv (toP (rd μ x)) (toP (rd μ y)))) μ) := fun _ _ _ _ => Eq.trans (Eq.symm (Eq.refl _)) (Eq.refl _)
theorem gScr_p  : ∀ x y μ Q, Dl.gScr  x y μ Q = (match x with | .scr ns => (rd μ y).toL fun m => ns.length + m.length ≤ 16777216 ∧ Q (.lst (ns.map .int ++ m)) μ | _ => False) := fun _ _ _ _ => Eq.trans (Eq.symm (Eq.refl _)) (Eq.refl _)
theorem gCatC_p  : ∀ x y μ Q, Dl.gCatC  x y μ Q = ((rd μ x).toL fun l => (rd μ y).toL fun m => l.length + m.length ≤ 16777216 ∧ ∀ p, μ p = none → Q (.ref p) (mup μ p (.lst (l ++ m)))) := fun _ _ _ _ => Eq.trans (Eq.symm (Eq.refl _)) (Eq.refl _)
theorem gRepC_p  : ∀ x y μ Q, Dl.gRepC  x y μ Q = ((rd μ x).toL fun l => y.toI fun k => k < 2 ^ 62 ∧ -(2 ^ 62) < k ∧ l.length * k.toNat ≤ 16777216 ∧ ∀ p, μ p = none → Q (.ref p) (mup μ p (.lst (List.replicate k.toNat l).flatten))) := fun _ _ _ _ => Eq.trans (Eq.symm (Eq.refl _)) (Eq.refl _)
theorem dNeg_p (a : DTE) : ∀ E δ μ Q, Dl.dNeg a E δ μ Q = (a E δ μ fun x μ1 => x.toI fun i => Q (.int (-i)) μ1) := fun _ _ _ _ => Eq.trans (Eq.symm (Eq.refl _)) (Eq.refl _)
theorem gMulS_p  : ∀ x y μ Q, Dl.gMulS  x y μ Q = (x.toS fun l => y.toI fun k => k < 2 ^ 31 ∧ -(2 ^ 31) < k ∧ l.length * k.toNat ≤ 1000000 ∧ Q (.str (List.replicate k.toNat l).flatten) μ) := fun _ _ _ _ => Eq.trans (Eq.symm (Eq.refl _)) (Eq.refl _)
theorem dRevS_p (a : DTE) : ∀ E δ μ Q, Dl.dRevS a E δ μ Q = (a E δ μ fun x μ1 => x.toS fun l => l.length ≤ 16777216 ∧ Q (.str l.reverse) μ1) := fun _ _ _ _ => Eq.trans (Eq.symm (Eq.refl _)) (Eq.refl _)
theorem gStrO_p (C : Addr) (ks : List Str) (sp : DSp) : ∀ ds μ Q, Dl.gStrO C ks sp ds μ Q = (one ds fun x => insOf C ks (rd μ x) ∧ sp [x] μ (fun v μ' => (match v with | .str _ => True | _ => False) ∧ Q v μ') noX) := fun _ _ _ => Eq.trans (Eq.symm (Eq.refl _)) (Eq.refl _)
theorem gEqR_p (neg : Bool) : ∀ x y μ Q, Dl.gEqR neg x y μ Q = (isP 9 (rd2 μ x) = true ∧ isP 9 (rd2 μ y) = true ∧ Q (.bl (if neg then !PyData.eqv (toP (rd2 μ x)) (toP (rd2 μ y)) else PyData.eqv (toP (rd2 μ x)) (toP (rd2 μ y)))) μ) := fun _ _ _ _ => Eq.trans (Eq.symm (Eq.refl _)) (Eq.refl _)
theorem gIsiO_p (K : PySem.W.Frag) (C : Addr) : ∀ xs μ Q, Dl.gIsiO K C xs μ Q = (two xs fun x y => y = .ref C ∧ okO K C (rd μ x) ∧ Q (.bl (isO C (rd μ x))) μ) := fun _ _ _ => Eq.trans (Eq.symm (Eq.refl _)) (Eq.refl _)
theorem gEqO_p (K : PySem.W.Frag) (C : Addr) (ks : List Str) (sp : DSp) (neg : Bool) : ∀ x y μ Q, Dl.gEqO K C ks sp neg x y μ Q = (insOf C ks (rd μ x) ∧ okO K C (rd μ y) ∧ sp [x, y] μ (fun v μ' => v.toB fun b => Q (.bl (if neg then !b else b)) μ') noX) := fun _ _ _ _ => Eq.trans (Eq.symm (Eq.refl _)) (Eq.refl _)
theorem cond_true_p {α : Type u} {a b : α} : cond true a b = a := Eq.trans (Eq.symm (Eq.refl _)) (Eq.refl _)
theorem cond_false_p {α : Type u} {a b : α} : cond false a b = b := Eq.trans (Eq.symm (Eq.refl _)) (Eq.refl _)
end Dl

set_option Elab.async false
set_option linter.all false
set_option maxRecDepth 100000
namespace Dl
open PySem PySem.Spec PyProof.Rows L2
/-! ### == of two lists by their xs1 own ==, both answers -/
section
open PySem.SeqAt
open AutoSeq1 (wpAny_loadPart')
open MeetsSeq MeetsSeq2 MeetsSeq3 SeqRoads2
variable {prog : Program} {w : World} {A : Around} {R : Result → Shared → Prop}
/-- at each turn the two lists are read anew: N xs each; whether the i-th two are equal is d i -/
def ListB (prog : Program) (w : World) (A : Around) (E : Value → Shared → Prop) (l b : Addr) (N : Nat) (d : Nat → Bool) (I : Nat → Shared → Prop) : Prop :=
  ∀ i s, I i s → ∃ (xs ys : Array Value) (n n2 : Nat), s.heap.get? l = some { cls := .type "list", data := .seq xs n } ∧ s.heap.get? b = some { cls := .type "list", data := .seq ys n2 } ∧ xs.size = N ∧ ys.size = N ∧
    ∀ (h1 : i < xs.size) (h2 : i < ys.size), wpAny (model prog w) A.in1 (eqBool xs[i] ys[i]) (fun r s' => r = d i ∧ I (i + 1) s') E s
theorem eq_loopB (l b : Addr) (N : Nat) (d : Nat → Bool) (I : Nat → Shared → Prop) (hl : ListB prog w A (fun e s' => R (.error e) s') l b N d I)
    (fin : ∀ s, I N s → (∀ i, i < N → d i = true) → R (.ok (.ret (.bool true))) s) (no : ∀ i s, I (i + 1) s → i < N → d i = false → R (.ok (.ret (.bool false))) s) (k : Nat) :
    ∀ i : Nat, N - i = k → i ≤ N → (∀ j, j < i → d j = true) → ∀ s, I i s →
      wpAny (model prog w) A.in1 (Builtin.«list.__eq__.loop» ⟨[.ref l, .ref b, rawInt i, rawInt 2], []⟩) (GQ.FinOf prog w A R) (fun e s' => R (.error e) s') s := by
  induction k with
  | zero =>
    intro i hk hi hd s h
    obtain ⟨xs, ys, n, n2, ga, gb, za, zb, _⟩ := hl _ _ h
    have hi' : i = N := by omega
    have hR : R (.ok (.ret (.bool true))) s := fin s (hi' ▸ h) (hi' ▸ hd)
    obtain ⟨hp, g, dd, tk, os⟩ := s
    wp_walk using wpAny_loadPart' ga, wpAny_loadPart' gb
    have ia : xs[((i : Nat) : Int).toNat]? = none := by simp; omega
    have ib : ys[((i : Nat) : Int).toNat]? = none := by simp; omega
    rw [ia, ib]
    wp_walk using wpAny_loadPart' ga, wpAny_loadPart' gb
    show R (.ok (.ret (.bool (xs.size == ys.size)))) _
    rw [za, zb]
    simpa using hR
  | succ k ih =>
    intro i hk hi hd s h
    obtain ⟨xs, ys, n, n2, ga, gb, za, zb, turn⟩ := hl _ _ h
    have lta : i < xs.size := by omega
    have ltb : i < ys.size := by omega
    have ht := turn lta ltb
    obtain ⟨hp, g, dd, tk, os⟩ := s
    wp_walk using wpAny_loadPart' ga, wpAny_loadPart' gb
    have ia : xs[((i : Nat) : Int).toNat]? = some xs[i] := by simp [lta]
    have ib : ys[((i : Nat) : Int).toNat]? = some ys[i] := by simp [ltb]
    have hc : ((i : Int) + 1) = ((i + 1 : Nat) : Int) := by omega
    rw [ia, ib]
    refine wpAny_bind (wpAny_mono ht (fun r s2 h2 => ?_) fun _ _ x => x)
    obtain ⟨hr, h2⟩ := h2
    cases hdi : d i with
    | true =>
      rw [hdi] at hr
      subst hr
      have again_ := ih (i + 1) (by omega) (by omega) (fun j hj => by
        rcases Nat.lt_or_ge j i with h | h
        · exact hd j h
        · have : j = i := by omega
          rw [this]; exact hdi) s2 h2
      obtain ⟨hp2, g2, d2, tk2, os2⟩ := s2
      wp_walk
      rw [hc]
      exact ⟨plainId_quiet plain_eq_loop _, codeAny_builtin entry_eq_loop (by
        rw [Around.under_plainId plain_eq_loop _]
        exact again_)⟩
    | false =>
      rw [hdi] at hr
      subst hr
      have hR := no i s2 h2 (by omega) hdi
      obtain ⟨xs1, ys1, n', n2', gc, gd, zc, zd, _⟩ := hl _ _ h2
      obtain ⟨hp2, g2, d2, tk2, os2⟩ := s2
      wp_walk using wpAny_loadPart' gc, wpAny_loadPart' gd
      have ja : xs1[((i : Nat) : Int).toNat]? = some (xs1[i]'(by omega)) := by simp
      have jb : ys1[((i : Nat) : Int).toNat]? = some (ys1[i]'(by omega)) := by simp
      rw [ja, jb]
      wp_walk
      exact hR
theorem list_eqB (l b : Addr) (N : Nat) (d : Nat → Bool) (I : Nat → Shared → Prop) (hl : ListB prog w A (fun e s' => R (.error e) s') l b N d I)
    (fin : ∀ s, I N s → (∀ i, i < N → d i = true) → R (.ok (.ret (.bool true))) s) (no : ∀ i s, I (i + 1) s → i < N → d i = false → R (.ok (.ret (.bool false))) s) {s : Shared} (h : I 0 s) :
    wpAny (model prog w) A.in1 (Builtin.«list.__eq__» ⟨[.ref l, .ref b], []⟩) (GQ.FinOf prog w A R) (fun e s' => R (.error e) s') s := by
  obtain ⟨xs, ys, n, n2, ga, gb, za, zb, _⟩ := hl _ _ h
  have again_ := eq_loopB (A := A) (R := R) l b N d I hl fin no _ 0 rfl (Nat.zero_le _) (fun _ h => absurd h (Nat.not_lt_zero _)) s h
  obtain ⟨hp, g, dd, tk, os⟩ := s
  have f3 := AutoSeq1.sub_list_list
  have hne : ¬ (xs.size != ys.size) = true := by simp [za, zb]
  wp_walk using wpAny_loadPart' ga, wpAny_loadPart' gb
  exact ⟨plainId_quiet plain_eq_loop _, codeAny_builtin entry_eq_loop (by
    rw [Around.under_plainId plain_eq_loop _]
    exact again_)⟩
theorem list_neN {l b : Addr} {xs ys : Array Value} {n n2 : Nat} {s : Shared} (ga : s.heap.get? l = some { cls := .type "list", data := .seq xs n }) (gb : s.heap.get? b = some { cls := .type "list", data := .seq ys n2 }) (hs : xs.size ≠ ys.size)
    (no : ∀ tk, R (.ok (.ret (.bool false))) { s with toks := tk }) :
    wpAny (model prog w) A.in1 (Builtin.«list.__eq__» ⟨[.ref l, .ref b], []⟩) (GQ.FinOf prog w A R) (fun e s' => R (.error e) s') s := by
  obtain ⟨hp, g, dd, tk, os⟩ := s
  have f3 := AutoSeq1.sub_list_list
  have hne : (xs.size != ys.size) = true := by simp [hs]
  wp_walk using wpAny_loadPart' ga, wpAny_loadPart' gb
  exact no _
theorem rc_listB {E : Value → Shared → Prop} {s : Shared} {l b : Addr} {N : Nat} {d : Nat → Bool} {Q : Value → Shared → Prop} (hu : A.units < cLine) (I : Nat → Shared → Prop) (hl : ListB prog w A E l b N d I)
    (fin : ∀ s, I N s → (∀ i, i < N → d i = true) → Q (.bool true) s) (no : ∀ i s, I (i + 1) s → i < N → d i = false → Q (.bool false) s) (h : I 0 s) : wpAny (model prog w) A (richCompare .Eq (.ref l) (.ref b)) Q E s := by
  obtain ⟨xs, ys, n, n2, ga, gb, _, _, _⟩ := hl _ _ h
  refine wpAny_richCompare_same_room (op := .Eq) ⟨_, ga, rfl⟩ ⟨_, gb, rfl⟩ F.slot_list_eq (GQ.call_here F.slot_list_eq ⟨_, ga, rfl⟩ F.entry_list_eq (F.args_list_eq_2 _ _) ?_) hu
  exact list_eqB (R := wants (fun v s' => v ≠ .notImplemented ∧ Q v s') E) l b N d I hl (fun s' q a => ⟨(fun x => nomatch x), fin s' q a⟩) (fun i s' q a e => ⟨(fun x => nomatch x), no i s' q a e⟩) h
theorem rc_listN {E : Value → Shared → Prop} {s : Shared} {l b : Addr} {xs ys : Array Value} {n n2 : Nat} {Q : Value → Shared → Prop} (hu : A.units < cLine) (ga : s.heap.get? l = some { cls := .type "list", data := .seq xs n }) (gb : s.heap.get? b = some { cls := .type "list", data := .seq ys n2 })
    (hs : xs.size ≠ ys.size) (no : ∀ tk, Q (.bool false) { s with toks := tk }) : wpAny (model prog w) A (richCompare .Eq (.ref l) (.ref b)) Q E s := by
  refine wpAny_richCompare_same_room (op := .Eq) ⟨_, ga, rfl⟩ ⟨_, gb, rfl⟩ F.slot_list_eq (GQ.call_here F.slot_list_eq ⟨_, ga, rfl⟩ F.entry_list_eq (F.args_list_eq_2 _ _) ?_) hu
  exact list_neN (R := wants (fun v s' => v ≠ .notImplemented ∧ Q v s') E) ga gb hs fun tk => ⟨(fun x => nomatch x), no tk⟩
end
/-! max(xs), min(xs) of a list of whole numbers -/
def gMaxL : GC := fun ds μ Q => one ds fun x => match rd μ x with
  | .lst ys => (match asI ys with | some ns => 0 < ns.length ∧ ∀ m, m ∈ ns → (∀ y, y ∈ ns → y ≤ m) → Q (.int m) μ | none => False)
  | _ => False
def gMinL : GC := fun ds μ Q => one ds fun x => match rd μ x with
  | .lst ys => (match asI ys with | some ns => 0 < ns.length ∧ ∀ m, m ∈ ns → (∀ y, y ∈ ns → m ≤ y) → Q (.int m) μ | none => False)
  | _ => False
section
variable {X : Cx} {K : PySem.W.Frag}
theorem c_maxL (hc : X.calm = true) (hK : X.K = K := by rfl) : DCl X (.builtin "max") (rMax K) gMaxL := by
 subst hK
 exact ⟨cr_max hc, fun {xs ds H μ Q Q'} c r d q => by
  obtain ⟨x, rfl, d1⟩ := one_inv d
  obtain ⟨v, rfl, r0⟩ := r.inv1
  cases e : rd μ x with
  | lst ys =>
    simp only [e] at d1
    cases e2 : asI ys with
    | none => simp only [e2] at d1
    | some ns =>
      simp only [e2] at d1
      obtain ⟨a, vs, rfl, ha, ra⟩ := rd_lst c r0 e
      rw [asI_inv e2] at ra
      exact ⟨a, ns, rfl, SqL.of (by rw [ha, ra.ints]), d1.1, fun m h1 h2 => q _ _ _ _ (.refl c) (.int m) (d1.2 m h1 h2)⟩
  | _ => simp only [e] at d1⟩
theorem c_minL (hc : X.calm = true) (hK : X.K = K := by rfl) : DCl X (.builtin "min") (rMin K) gMinL := by
 subst hK
 exact ⟨cr_min hc, fun {xs ds H μ Q Q'} c r d q => by
  obtain ⟨x, rfl, d1⟩ := one_inv d
  obtain ⟨v, rfl, r0⟩ := r.inv1
  cases e : rd μ x with
  | lst ys =>
    simp only [e] at d1
    cases e2 : asI ys with
    | none => simp only [e2] at d1
    | some ns =>
      simp only [e2] at d1
      obtain ⟨a, vs, rfl, ha, ra⟩ := rd_lst c r0 e
      rw [asI_inv e2] at ra
      exact ⟨a, ns, rfl, SqL.of (by rw [ha, ra.ints]), d1.1, fun m h1 h2 => q _ _ _ _ (.refl c) (.int m) (d1.2 m h1 h2)⟩
  | _ => simp only [e] at d1⟩
end
end Dl

set_option Elab.async false
set_option linter.all false
set_option maxRecDepth 100000
namespace Dl
open PySem PySem.Spec PyProof.Rows L2
/-! ### == of two lists of instances of one own class -/
mutual
/-- data that a value tells wholly -/
def uq : D → Bool
  | .non | .bl _ | .int _ | .str _ => true
  | .lst xs => uqs xs
  | .ins _ _ xs => uqs xs
  | .ty _ | .ref _ | .tup _ | .dK .. | .dT .. | .src | .scr _ | .tab _ | .lam .. | .exc .. => false
def uqs : List D → Bool
  | [] => true
  | x :: xs => uq x && uqs xs
end
section
variable {K : PySem.W.Frag} {H : Hp} {μ : Mu}
mutual
theorem uq_eq : ∀ (d e : D) {v : V}, uq d = true → uq e = true → Rep K H μ v d → Rep K H μ v e → d = e
  | .non, e, v, _, he, r, s => by
    rw [r.non_inv] at s
    cases e <;> first | rfl | cases s | (simp [uq] at he)
  | .bl b, e, v, _, he, r, s => by
    rw [r.bl_inv] at s
    cases e <;> first | (cases s; rfl) | cases s | (simp [uq] at he)
  | .int b, e, v, _, he, r, s => by
    rw [r.int_inv] at s
    cases e <;> first | (cases s; rfl) | cases s | (simp [uq] at he)
  | .str b, e, v, _, he, r, s => by
    rw [r.str_inv] at s
    cases e with
    | str c =>
      have := s.str_inv
      have h : ofL b = ofL c := by injection this
      have : (ofL b).cps.toList = (ofL c).cps.toList := by rw [h]
      rw [show b = c from this]
    | _ => first | cases s | (simp [uq] at he)
  | .lst xs, e, v, hd, he, r, s => by
    obtain ⟨a, vs, rfl, _, ha, ra⟩ := r.lst_inv
    cases e with
    | lst ys =>
      obtain ⟨b, ws, h1, _, hb, rb⟩ := s.lst_inv
      cases h1
      rw [ha] at hb
      cases hb
      rw [uqs_eq xs ys (by simpa [uq] using hd) (by simpa [uq] using he) ra rb]
    | ins C ks ys =>
      obtain ⟨b, dx, fs, h1, _, hb, _, _⟩ := s.ins_inv
      cases h1
      rw [ha] at hb
      cases hb
    | non => cases s with | obj _ _ c => cases c
    | bl _ => cases s with | obj _ _ c => cases c
    | int _ => cases s with | obj _ _ c => cases c
    | str _ => cases s with | obj _ _ c => cases c
    | _ => simp [uq] at he
  | .ins C ks xs, e, v, hd, he, r, s => by
    obtain ⟨a, dx, fs, rfl, _, ha, hk, ra⟩ := r.ins_inv
    cases e with
    | lst ys =>
      obtain ⟨b, ws, h1, _, hb, rb⟩ := s.lst_inv
      cases h1
      rw [ha] at hb
      cases hb
    | ins C' ks' ys =>
      obtain ⟨b, dy, gs, h1, _, hb, hk', rb⟩ := s.ins_inv
      cases h1
      rw [ha] at hb
      cases hb
      rw [hk, hk', uqs_eq xs ys (by simpa [uq] using hd) (by simpa [uq] using he) ra rb]
    | non => cases s with | obj _ _ c => cases c
    | bl _ => cases s with | obj _ _ c => cases c
    | int _ => cases s with | obj _ _ c => cases c
    | str _ => cases s with | obj _ _ c => cases c
    | _ => simp [uq] at he
  | .ty _, _, _, hd, _, _, _ | .ref _, _, _, hd, _, _, _ | .tup _, _, _, hd, _, _, _ | .dK .., _, _, hd, _, _, _ | .dT .., _, _, hd, _, _, _ | .src, _, _, hd, _, _, _ | .scr _, _, _, hd, _, _, _ | .tab _, _, _, hd, _, _, _ | .lam .., _, _, hd, _, _, _ | .exc .., _, _, hd, _, _, _ => by simp [uq] at hd
theorem uqs_eq : ∀ (xs ys : List D) {vs : List V}, uqs xs = true → uqs ys = true → Reps K H μ vs xs → Reps K H μ vs ys → xs = ys
  | [], ys, vs, _, _, r, s => by
    cases r
    cases s
    rfl
  | x :: xs, ys, vs, hx, hy, r, s => by
    cases r with
    | cons h t =>
      cases s with
      | cons h2 t2 =>
        simp only [uqs, Bool.and_eq_true] at hx hy
        rw [uq_eq x _ hx.1 hy.1 h h2, uqs_eq xs _ hx.2 hy.2 t t2]
end
end
section
variable {X : Cx} {CX : CXT} {k : Nat} {f C : Addr} {fd : FuncData} {ps : List Str}
/-- the own == run anywhere below the body -/
theorem rc_own {sp : Sp} (F : FnOk X.prog X.w X.K X.mg X.base CX k f fd ps sp) (o : OwnC X.K C) (hm : Meth X.K C "__eq__" f) (hb : Binds X.K fd ps []) (hx : Passes CX X E0) {A' : Around} (hr : Room k A') (hfr : A'.frames = X.A.frames)
    {pins : List (Addr × Obj)} {σ : L2.St} {H : Hp} {s : Shared} (I : Inv X pins σ H s) {a dx : Addr} {fs : List (Str × V)} {y : V} {u t : Value} (ha : H a = some (.ins C dx fs)) (ry : RelV y u) (ty : TyX X.K H y t) (hn : PySem.W.notFirst X.K C t = true)
    {Q : Bool → Hp → Prop} (hsp : sp [.ref a, y] H (fun v H' => ∃ b, v = .bl b ∧ Q b H') E0) :
    wpAny (model X.prog X.w) A' (richCompare .Eq (.ref a) u) (fun v s' => ∃ b H', v = .bool b ∧ Inv X pins σ H' s' ∧ Q b H') X.xe s := by
  obtain ⟨mA, J, _⟩ := ins_get I.hok ha
  obtain ⟨od, J, _⟩ := J.look
  obtain ⟨P, Z, p, _⟩ := kit_of I ry ty
  have hl := F.len _ _ _ _ hsp
  have r2 : Vals [V.ref a, y] [Value.ref a, u] := .cons rfl (.cons ry .nil)
  obtain ⟨m, hF⟩ := I.fr
  have e0 : Env0 X.prog X.w X.K X.mg X.base A' X.stack s H := by
    have e := I.env0
    exact ⟨by rw [hfr]; exact e.frames, e.mod, e.bs, e.bsz, e.funs, e.frf, e.hok, e.bare⟩
  refine PySem.W.cmp_K (op := .Eq) (tb := t) hr.units0 hF I.ok.mod.kin J (Z.ty _ _ I.kIn p) hn hm.at_ hm.fn (wpAny_call (codeAny_mono (F.run A' X.stack s H ⟨[.ref a, u], []⟩ [.ref a, u] [.ref a, y] _ E0 hr e0 (by
    have := hb s [.ref a, u] I.kIn (by simpa using hl)
    simpa using this) r2 hsp) fun r s' hq => ?_))
  cases r with
  | error e => exact hx pins σ H s e s' I hq
  | ok fl =>
    cases fl with
    | ret w =>
      obtain ⟨v, H', I', rz, b, rfl, q⟩ := I.after hq
      cases rz
      exact ⟨b, H', rfl, I', q⟩
    | next => exact False.elim hq
    | brk => exact False.elim hq
    | cont => exact False.elim hq
/-- an instance of the class, told wholly -/
def insW (C : Addr) (ks : List Str) (d : D) : Prop := ∃ zs, d = .ins C ks zs ∧ uqs zs = true
def gEqL (C : Addr) (ks : List Str) (sp : DSp) (eqd : D → D → Bool) : G2 := fun x y μ Q => (rd μ x).toL fun xs => (rd μ y).toL fun ys => (∀ a ∈ xs, insW C ks a) ∧ (∀ b ∈ ys, insW C ks b) ∧ (∀ a ∈ xs, eqd a a = true) ∧
  (∀ a ∈ xs, ∀ b ∈ ys, ∀ (Q' : DK) (E' : DX), Q' (.bl (eqd a b)) μ → sp [a, b] μ Q' E') ∧ Q (.bl (decide (xs.length = ys.length) && (xs.zip ys).all fun p => eqd p.1 p.2)) μ
/-- a rule by data as a rule by the heap -/
def rL (K : PySem.W.Frag) (g : G2) : R2 := fun x y H Q => ∃ dx dy μ Q', Cells K H μ ∧ Rep K H μ x dx ∧ Rep K H μ y dy ∧ g dx dy μ Q' ∧ QR K H μ Q Q'
theorem o_eqL {K : PySem.W.Frag} {ks : List Str} {sp : DSp} (eqd : D → D → Bool) (F : FnOk X.prog X.w X.K X.mg X.base CX k f fd ps (lift K sp)) (hr : Room (k + 2) X.A) (o : OwnC K C) (cl : Cls K C) (hm : Meth K C "__eq__" f) (hb : Binds X.K fd ps []) (hx : Passes CX X E0) (hK : X.K = K := by rfl) :
    DOp X (compareOp .Eq) (rL K (gEqL C ks sp eqd)) (gEqL C ks sp eqd) := by
 subst hK
 refine ⟨?_, fun {x y dx dy H μ Q Q'} c r1 r2 d q => ⟨dx, dy, μ, Q', c, r1, r2, d, q⟩⟩
 intro pins s σ H x y v u Q I rx ry hq
 obtain ⟨dx, dy, μ, Q', c, r1, r2, d, q⟩ := hq
 obtain ⟨xs, ex, d⟩ := toL_inv d
 obtain ⟨ys, ey, hxs, hys, hrf, hsp, d⟩ := toL_inv d
 obtain ⟨a, vs, rfl, ha, ra⟩ := rd_lst c r1 ex
 obtain ⟨b, ws, rfl, hb', rb⟩ := rd_lst c r2 ey
 cases rx
 cases ry
 show wpAny _ X.A (richCompare .Eq _ _) _ _ _
 obtain ⟨_, its, n, rv, ea⟩ := (show ObjOk X.prog X.w H s.heap a (.lst vs) from I.hok a _ ha)
 obtain ⟨_, its2, n2, rw2, eb⟩ := (show ObjOk X.prog X.w H s.heap b (.lst ws) from I.hok b _ hb')
 have dd0 : ∀ (i : Nat) (x y : D), xs[i]? = some x → ys[i]? = some y → (match xs[i]?, ys[i]? with | some x, some y => eqd x y | _, _ => true) = eqd x y := fun i x y h1 h2 => by rw [h1, h2]
 by_cases hs : xs.length = ys.length
 · rw [decide_eq_true hs, Bool.true_and] at d
   refine rc_listB (N := xs.length) (d := fun i => match xs[i]?, ys[i]? with | some x, some y => eqd x y | _, _ => true) hr.units0 (fun _ s' => ∃ H', L2.Inv X pins σ H' s' ∧ Then X.K H μ H' μ) (fun i s' ⟨H1, I1, t1⟩ => ?_) (fun s' ⟨H', I', t'⟩ al => ?_) (fun i s' ⟨H', I', t'⟩ hi hd => ?_) ⟨H, I, .refl c⟩
   · obtain ⟨a', vs', h1, ha', ra'⟩ := rd_lst t1.cells (r1.grow t1.g) ex
     cases h1
     obtain ⟨b', ws', h2, hb'', rb'⟩ := rd_lst t1.cells (r2.grow t1.g) ey
     cases h2
     obtain ⟨_, jt, m, qv, fa⟩ := (show ObjOk X.prog X.w H1 s'.heap a (.lst vs') from I1.hok a _ ha')
     obtain ⟨_, jt2, m2, qw, fb⟩ := (show ObjOk X.prog X.w H1 s'.heap b (.lst ws') from I1.hok b _ hb'')
     have sa : jt.toArray.size = xs.length := by rw [List.size_toArray, ← qv.length, ra'.length]
     have sb : jt2.toArray.size = xs.length := by rw [List.size_toArray, ← qw.length, rb'.length, hs]
     refine ⟨jt.toArray, jt2.toArray, m, m2, fa, fb, sa, sb, fun h1 h2 => ?_⟩
     have i1 : i < xs.length := sa ▸ h1
     have i2 : i < ys.length := hs ▸ i1
     obtain ⟨v1, g1, R1⟩ := ra'.get (List.getElem?_eq_getElem i1)
     obtain ⟨v2, g2, R2⟩ := rb'.get (List.getElem?_eq_getElem i2)
     obtain ⟨u1, k1, U1⟩ := qv.get g1
     obtain ⟨u2, k2, U2⟩ := qw.get g2
     have j1 : i < jt.length := by simpa using h1
     have j2 : i < jt2.length := by simpa using h2
     rw [List.getElem?_eq_getElem j1] at k1
     rw [List.getElem?_eq_getElem j2] at k2
     have w1 : jt.toArray[i] = u1 := by simpa using k1
     have w2 : jt2.toArray[i] = u2 := by simpa using k2
     rw [w1, w2]
     have mx : xs[i] ∈ xs := List.getElem_mem i1
     have my : ys[i] ∈ ys := List.getElem_mem i2
     have de : (match xs[i]?, ys[i]? with | some x, some y => eqd x y | _, _ => true) = eqd xs[i] ys[i] := dd0 i _ _ (List.getElem?_eq_getElem i1) (List.getElem?_eq_getElem i2)
     obtain ⟨zs, ez, uz⟩ := hxs _ mx
     obtain ⟨zt, et, ut⟩ := hys _ my
     obtain ⟨p1, dx1, fs1, rfl, _, hp1, _, _⟩ := (ez ▸ R1).ins_inv
     obtain ⟨p2, dx2, fs2, rfl, _, hp2, _, _⟩ := (et ▸ R2).ins_inv
     cases U1
     cases U2
     by_cases pp : p1 = p2
     · subst pp
       have ee : xs[i] = ys[i] := uq_eq _ _ (by rw [ez]; exact uz) (by rw [et]; exact ut) R1 R2
       exact SeqAt.EqAt.same (A := X.A.in1) (s := s') (.ref p1) X.prog X.w X.xe _ ⟨(de.trans (by rw [← ee]; exact hrf _ mx)).symm, H1, I1, t1⟩
     · refine GQ.eqBool_refG pp (wpAny_mono (rc_own F o hm hb hx (A' := X.A.in1) ((hr.in1).mono (Nat.le_succ _)) rfl I1 hp1 (y := .ref p2) rfl (t := .ref C) (.base (.ins hp2 cl o.ha o.hn o.htk o.hm)) (by simp [PySem.W.notFirst])
         (Q := fun b H' => b = eqd xs[i] ys[i] ∧ Then X.K H μ H' μ)
         ⟨[xs[i], ys[i]], μ, fun z μ' => z = .bl (eqd xs[i] ys[i]) ∧ μ' = μ, noX, .cons R1 (.one R2), t1.cells, hsp _ mx _ my _ _ ⟨rfl, rfl⟩, fun v z H' μ' t r e => ?_, xr_no⟩) (fun r s2 hr2 => ?_) fun _ _ x => x)
       · obtain ⟨e1, e2⟩ := e
         subst e1; subst e2
         exact ⟨_, r.bl_inv, rfl, t1.trans t⟩
       · obtain ⟨bb, H2, rfl, I2, e1, t2⟩ := hr2
         exact ⟨bb, rfl, by rw [e1]; exact de.symm, H2, I2, t2⟩
   · have e : (xs.zip ys).all (fun p => eqd p.1 p.2) = true := by
       rw [List.all_eq_true]
       intro p hp
       obtain ⟨i, hi⟩ := List.mem_iff_getElem?.mp hp
       rw [List.getElem?_zip_eq_some] at hi
       have := al i (List.getElem?_eq_some_iff.mp hi.1).1
       rwa [dd0 i _ _ hi.1 hi.2] at this
     rw [e] at d
     exact ⟨.bl true, H', I', rfl, q _ _ _ _ t' (.bl true) d⟩
   · have i2 : i < ys.length := hs ▸ hi
     have e : (xs.zip ys).all (fun p => eqd p.1 p.2) = false := by
       rw [← Bool.not_eq_true, List.all_eq_true]
       intro al
       have := al (xs[i], ys[i]) (List.mem_of_getElem? (i := i) (List.getElem?_zip_eq_some.mpr ⟨List.getElem?_eq_getElem hi, List.getElem?_eq_getElem i2⟩))
       rw [dd0 i _ _ (List.getElem?_eq_getElem hi) (List.getElem?_eq_getElem i2)] at hd
       rw [hd] at this
       cases this
     rw [e] at d
     exact ⟨.bl false, H', I', rfl, q _ _ _ _ t' (.bl false) d⟩
 · rw [decide_eq_false hs, Bool.false_and] at d
   refine rc_listN hr.units0 ea eb (by rw [List.size_toArray, List.size_toArray, ← rv.length, ← rw2.length, ra.length, rb.length]; exact hs) fun tk => ⟨.bl false, H, I.tok tk, rfl, q _ _ _ _ (.refl c) (.bl false) d⟩
end
end Dl

set_option Elab.async false
set_option linter.all false
set_option maxRecDepth 100000
/-! try, with several clauses, by data -/
namespace Dl
open PySem PySem.Spec PyProof.Rows L2 Ms
abbrev HCl := Value × Option Nat × (Addr → Addr → Addr → TS)
abbrev DCls := Value × Option Nat × (Addr → Addr → Addr → DTS)
def offO (i : Option Nat) (D : Ends) : Ends := match i with | some i => offEnds i D | none => D
def setO (i : Option Nat) (σ : L2.St) (v : V) : L2.St := match i with | some i => σ.set i (some v) | none => σ
def wCl (K : PySem.W.Frag) (n : Nat) (Wo : WX) (D : Ends) : List HCl → WX
  | [] => Wo
  | (c, i, ts) :: r => fun cls d σ H => ∃ C dd b, cls = .ref C ∧ d = some dd ∧ PySem.W.exmOne K cls c = some b ∧ (b = true → ∀ a, H a = none → σ.length = n → ts a C dd (offO i D) (setO i σ (.ref a)) H) ∧ (b = false → wCl K n Wo D r cls d σ H)
inductive HClz (X : Cx) : List ExceptHandler → List HCl → Prop
  | nil : HClz X [] []
  | named {x n : Str} {c : Value} {i : Nat} {ts : Addr → Addr → Addr → TS} {b₀ : Stmt} {su : List Stmt} {np pp : Pos} {hs : List ExceptHandler} {l : List HCl} (nc : Names X x c) (ni : X.N[i]? = some n) (nl : X.env.kindOf n = some .local)
      (sr : ∀ (a C dd : Addr) (oe : Obj) (pn : List (Addr × Obj)), Zc (.ref C) (some dd) oe → (∃ vs, oe.data = .fields vs) → PSs (X.suite a ((a, oe) :: pn)) (b₀ :: su) (ts a C dd)) (r : HClz X hs l) :
      HClz X (.ExceptHandler (some (.Name x np)) (some n) (b₀ :: su) pp :: hs) ((c, some i, ts) :: l)
  | bare {x : Str} {c : Value} {ts : Addr → Addr → Addr → TS} {b₀ : Stmt} {su : List Stmt} {np pp : Pos} {hs : List ExceptHandler} {l : List HCl} (nc : Names X x c)
      (sr : ∀ (a C dd : Addr) (oe : Obj) (pn : List (Addr × Obj)), Zc (.ref C) (some dd) oe → (∃ vs, oe.data = .fields vs) → PSs (X.suite a ((a, oe) :: pn)) (b₀ :: su) (ts a C dd)) (r : HClz X hs l) :
      HClz X (.ExceptHandler (some (.Name x np)) none (b₀ :: su) pp :: hs) ((c, none, ts) :: l)
section
variable {X : Cx} {pins : List (Addr × Obj)} {σ : L2.St} {H : Hp} {sI s : Shared} {B : Heap} {a : Addr} {cls : Value} {d : Option Addr} {D : Ends} {Wo : WX}
theorem hclz_run (hst : X.stack = X.env :: X.outer) (hfr : X.env.frame = some X.env.locals) (hN : X.N.Nodup) (tk : Takes X Wo) {hs : List ExceptHandler} {l : List HCl} (C : HClz X hs l) :
    ∀ {s : Shared}, Landed X pins σ H sI s B a cls d → wCl X.K X.N.length Wo D l cls d σ H → wpAny (model X.prog X.w) X.A (handleBy (.ref a) X.env hs) (SP X pins D) X.xe s := by
  induction C with
  | nil =>
    intro s F q
    have fly := F.fly
    obtain ⟨_, _, _, oe, vs, T, _, _, he, _, hd, h1, _⟩ := id fly
    refine wpAny_handleBy_nil ?_
    unfold PySem.passOn
    refine wpAny_bind (wpAny_field he hd h1 ?_)
    rw [if_neg (show ¬ ((Value.ref T == Value.none) = true) by simp)]
    have go : wpAny (model X.prog X.w) X.A (setFlight (.ref a) X.env.frame) (fun _ s4 => wpAny (model X.prog X.w) X.A (throw (.ref a) : Sem Flow) (SP X pins D) X.xe s4) X.xe s := by
      rw [hfr]
      exact HandSPX.setFlight_upZ fly fun h4 y4 u4 => wpAny_throw (tk _ _ ⟨a, B, sI, pins, σ, H, cls, d, rfl, F.inv, F.nb, F.up.trans u4, .inr (.inr (by rw [hst]; exact y4)), F.na, F.os, F.ag, q⟩)
    first
      | exact wpAny_bind (wpAny_pure (wpAny_bind go))
      | exact wpAny_bind go
  | @named x n c i ts b₀ su np pp hs l nc ni nl sr r ih =>
    intro s F q
    obtain ⟨hp, g, dr, tk0, os0⟩ := s
    obtain ⟨C, dd, b, rfl, rfl, eb, yes, no⟩ := q
    have J := F.here
    obtain ⟨oe, vs, he, hz, hd⟩ := F.fly.there
    have S := J.suite he hd F.na F.nL F.nF
    have lt : PySem.W.Looks (model X.prog X.w) hp (typeOf (.ref a)) (.ref C) := fun A Q E s k y => wpAny_typeOf_ref (k _ _ he) (by rw [hz.1]; exact y)
    have lm := PySem.W.exm_one (M := model X.prog X.w) J.kIn lt eb
    have asked : ∀ {Q : Value → Shared → Prop} {E : Value → Shared → Prop}, Q c ⟨hp, g, dr, tk0, os0⟩ → wpAny (model X.prog X.w) (X.A.mark (some (.ref a))) (eval (.Name x np) X.env) Q E ⟨hp, g, dr, tk0, os0⟩ := fun {Q E} y => by
      obtain ⟨k1, k2, k3 | ⟨k3, k4, k5⟩⟩ := nc
      · exact ld_glob (X := X.suite a ((a, oe) :: (X.pn ++ pins))) S k1 k3 y k2
      · exact ld_blt (X := X.suite a ((a, oe) :: (X.pn ++ pins))) S k1 k3 k4 y k5 k2
    refine wpAny_handleBy_cons (codeAny_handlers_test ?_) (by intro z; cases z)
    refine asked (lm.here ?_)
    cases b with
    | false => exact ih F (no rfl)
    | true =>
      refine codeAny_handlers_suite_as (HandSPX.lands_againZ F.fly fun h4 f4 u4 => ?_)
      have F4 : Landed X pins σ H sI ⟨h4, g, dr, tk0, os0⟩ B a (.ref C) (some dd) := ⟨F.inv, F.nb, F.up.trans u4, f4, F.na, F.os, F.ag, F.nL, F.nF⟩
      obtain ⟨oe4, vs4, he4, hz4, hd4⟩ := F4.fly.there
      have S4 := F4.here.suite he4 hd4 F.na F.nL F.nF
      refine store_ok (X := X.suite a ((a, oe4) :: (X.pn ++ pins))) (v := .ref a) S4 hN ni (.inl nl) rfl (fun s5 S5 => ?_) (.inr nl)
      refine wpAny_mono ((sr a C dd oe4 (X.pn ++ pins) hz4 ⟨_, hd4⟩).run [] s5 _ H _ S5 (yes rfl a F.na F.inv.len)) (fun f s6 y => ?_) (fun _ _ z => z.elim)
      have off : ∀ {τ : L2.St} {H6 : Hp} {Q : Shared → Prop}, Inv (X.suite a ((a, oe4) :: (X.pn ++ pins))) [] τ H6 s6 → (∀ s7, Inv X pins (τ.set i none) H6 s7 → Q s7) →
          wpAny (model X.prog X.w) X.A (do bindName X.env n .none; unbindBehindTheSuite X.env n pp) (fun _ s7 => Q s7) X.xe s6 := fun {τ H6 Q} S6 k => gone_ok (S6.unsuite J.ok) hN ni nl k
      cases f with
      | ret u =>
        obtain ⟨v6, τ, H6, S6, r6, q6⟩ := y
        exact off S6 fun s7 J7 => ⟨_, _, _, J7, r6, q6⟩
      | next =>
        obtain ⟨τ, H6, S6, q6⟩ := y
        exact off S6 fun s7 J7 => ⟨_, _, J7, q6⟩
      | brk =>
        obtain ⟨τ, H6, S6, q6⟩ := y
        exact off S6 fun s7 J7 => ⟨_, _, J7, q6⟩
      | cont =>
        obtain ⟨τ, H6, S6, q6⟩ := y
        exact off S6 fun s7 J7 => ⟨_, _, J7, q6⟩
  | @bare x c ts b₀ su np pp hs l nc sr r ih =>
    intro s F q
    obtain ⟨hp, g, dr, tk0, os0⟩ := s
    obtain ⟨C, dd, b, rfl, rfl, eb, yes, no⟩ := q
    have J := F.here
    obtain ⟨oe, vs, he, hz, hd⟩ := F.fly.there
    have S := J.suite he hd F.na F.nL F.nF
    have lt : PySem.W.Looks (model X.prog X.w) hp (typeOf (.ref a)) (.ref C) := fun A Q E s k y => wpAny_typeOf_ref (k _ _ he) (by rw [hz.1]; exact y)
    have lm := PySem.W.exm_one (M := model X.prog X.w) J.kIn lt eb
    have asked : ∀ {Q : Value → Shared → Prop} {E : Value → Shared → Prop}, Q c ⟨hp, g, dr, tk0, os0⟩ → wpAny (model X.prog X.w) (X.A.mark (some (.ref a))) (eval (.Name x np) X.env) Q E ⟨hp, g, dr, tk0, os0⟩ := fun {Q E} y => by
      obtain ⟨k1, k2, k3 | ⟨k3, k4, k5⟩⟩ := nc
      · exact ld_glob (X := X.suite a ((a, oe) :: (X.pn ++ pins))) S k1 k3 y k2
      · exact ld_blt (X := X.suite a ((a, oe) :: (X.pn ++ pins))) S k1 k3 k4 y k5 k2
    refine wpAny_handleBy_cons (codeAny_handlers_test ?_) (by intro z; cases z)
    refine asked (lm.here ?_)
    cases b with
    | false => exact ih F (no rfl)
    | true =>
      refine codeAny_handlers_suite (HandSPX.lands_againZ F.fly fun h4 f4 u4 => ?_)
      have F4 : Landed X pins σ H sI ⟨h4, g, dr, tk0, os0⟩ B a (.ref C) (some dd) := ⟨F.inv, F.nb, F.up.trans u4, f4, F.na, F.os, F.ag, F.nL, F.nF⟩
      obtain ⟨oe4, vs4, he4, hz4, hd4⟩ := F4.fly.there
      have S4 := F4.here.suite he4 hd4 F.na F.nL F.nF
      refine wpAny_mono ((sr a C dd oe4 (X.pn ++ pins) hz4 ⟨_, hd4⟩).run [] _ _ H _ S4 (yes rfl a F.na F.inv.len)) (fun f s6 y => ?_) (fun _ _ z => z.elim)
      cases f with
      | ret u =>
        obtain ⟨v6, τ, H6, S6, r6, q6⟩ := y
        exact ⟨_, _, _, S6.unsuite J.ok, r6, q6⟩
      | next =>
        obtain ⟨τ, H6, S6, q6⟩ := y
        exact ⟨_, _, S6.unsuite J.ok, q6⟩
      | brk =>
        obtain ⟨τ, H6, S6, q6⟩ := y
        exact ⟨_, _, S6.unsuite J.ok, q6⟩
      | cont =>
        obtain ⟨τ, H6, S6, q6⟩ := y
        exact ⟨_, _, S6.unsuite J.ok, q6⟩
theorem ps_tryC {body : List Stmt} {h₀ : ExceptHandler} {hs : List ExceptHandler} {l : List HCl} {pos : Pos} {tb : WX → TS} (hst : X.stack = X.env :: X.outer) (hfr : X.env.frame = some X.env.locals) (hN : X.N.Nodup) (tk : Takes X Wo)
    (hb : ∀ (W : WX) (pn : List (Addr × Obj)) (xe : Value → Shared → Prop), Takes (X.tr pn xe) W → PassesOwn (model X.prog X.w) X.A X.env xe → PSs (X.tr pn xe) body (tb W)) (C : HClz X (h₀ :: hs) l) :
    PS X (.Try body (h₀ :: hs) [] [] pos) (fun D σ H => tb (wCl X.K X.N.length Wo D l) D σ H) := by
  refine ⟨fun pins s σ H D I h => ?_⟩
  have ok := I.ok
  have frm : X.A.frames = some (X.env :: X.outer) := by rw [ok.frames, hst]
  refine wpAny_Try_except (wpAny_mono ((hb (wCl X.K X.N.length Wo D l) (X.pn ++ pins) _ (fun u s' y => ?_) PassesOwn.looking).run [] s σ H D (I.toTry _) h) (fun f s1 y => ?_) (fun _ _ z => z))
  · obtain ⟨a, B, sI, pins', σ', H', cls, d, rfl, J', nb, up, sky, na, os, ag, q⟩ := y
    show wpAny (model X.prog X.w) X.A (noteFrame (.ref a) X.env) _ _ _
    refine Sky.land Zc.steady frm hfr (by rw [← hst]; exact sky) fun h3 f3 u3 => ?_
    obtain ⟨oe, vs, he, hz, hd⟩ := f3.there
    have out : a ∉ frs (X.env :: X.outer) := fun hm => by
      obtain ⟨_, o', e', nf⟩ := f3.2.2.1.mem hm
      rw [he] at e'
      cases e'
      exact nf _ hd
    refine hclz_run hst hfr hN tk C (s := { s' with heap := h3 }) ⟨J'.ofTry ok, nb, up.trans u3, f3, na, os, ag, fun z => out (List.mem_filterMap.mpr ⟨X.env, List.mem_cons_self, by rw [hfr, z]⟩), fun hm => ?_⟩ q
    obtain ⟨e, he2, q2⟩ := List.mem_filterMap.mp hm
    exact out (List.mem_filterMap.mpr ⟨e, List.mem_cons_of_mem _ he2, q2⟩)
  · cases f with
    | next =>
      obtain ⟨σ', H', J', q⟩ := y
      exact wpAny_execs_nil ⟨σ', H', J'.ofTry ok, q⟩
    | ret u =>
      obtain ⟨v, σ', H', J', r, q⟩ := y
      exact ⟨v, σ', H', J'.ofTry ok, r, q⟩
    | brk =>
      obtain ⟨σ', H', J', q⟩ := y
      exact ⟨σ', H', J'.ofTry ok, q⟩
    | cont =>
      obtain ⟨σ', H', J', q⟩ := y
      exact ⟨σ', H', J'.ofTry ok, q⟩
end
/-! by data -/
def offD (i : Option Nat) (D : DEnds) : DEnds := match i with
  | some i => { nx := fun δ μ => D.nx (δ.set i none) μ, rt := D.rt, bk := fun δ μ => D.bk (δ.set i none) μ, ct := fun δ μ => D.ct (δ.set i none) μ }
  | none => D
def setD (i : Option Nat) (δ : Sl) (x : D) : Sl := match i with | some i => δ.set i (some x) | none => δ
def disp (K : PySem.W.Frag) (n : Nat) (E : DX) (D : DEnds) : List DCls → DX
  | [] => E
  | (c, i, dc) :: r => fun C f x μ => ∃ b, PySem.W.exmOne K (.ref C) c = some b ∧ (b = true → ∀ a dd, dc a C dd noX (offD i D) (setD i (List.replicate n none) (.exc a C dd f x)) μ) ∧ (b = false → disp K n E D r C f x μ)
def sTry (K : PySem.W.Frag) (n : Nat) (cl : List DCls) (body : DTS) : DTS := fun E D δ μ => body (disp K n E D cl) D δ μ
inductive DClz (X : Cx) : List ExceptHandler → List HCl → List DCls → Prop
  | nil : DClz X [] [] []
  | named {x n : Str} {c : Value} {i : Nat} {ts : Addr → Addr → Addr → TS} {dc : Addr → Addr → Addr → DTS} {b₀ : Stmt} {su : List Stmt} {np pp : Pos} {hs : List ExceptHandler} {l : List HCl} {dl : List DCls} (nc : Names X x c) (ni : X.N[i]? = some n) (nl : X.env.kindOf n = some .local)
      (sr : ∀ (a C dd : Addr) (oe : Obj) (pn : List (Addr × Obj)), Zc (.ref C) (some dd) oe → (∃ vs, oe.data = .fields vs) → DSs (X.suite a ((a, oe) :: pn)) E0 (b₀ :: su) (ts a C dd) (dc a C dd)) (r : DClz X hs l dl) :
      DClz X (.ExceptHandler (some (.Name x np)) (some n) (b₀ :: su) pp :: hs) ((c, some i, ts) :: l) ((c, some i, dc) :: dl)
  | bare {x : Str} {c : Value} {ts : Addr → Addr → Addr → TS} {dc : Addr → Addr → Addr → DTS} {b₀ : Stmt} {su : List Stmt} {np pp : Pos} {hs : List ExceptHandler} {l : List HCl} {dl : List DCls} (nc : Names X x c)
      (sr : ∀ (a C dd : Addr) (oe : Obj) (pn : List (Addr × Obj)), Zc (.ref C) (some dd) oe → (∃ vs, oe.data = .fields vs) → DSs (X.suite a ((a, oe) :: pn)) E0 (b₀ :: su) (ts a C dd) (dc a C dd)) (r : DClz X hs l dl) :
      DClz X (.ExceptHandler (some (.Name x np)) none (b₀ :: su) pp :: hs) ((c, none, ts) :: l) ((c, none, dc) :: dl)
theorem DClz.h {X : Cx} {hs : List ExceptHandler} {l : List HCl} {dl : List DCls} (c : DClz X hs l dl) : HClz X hs l := by
  induction c with
  | nil => exact .nil
  | named nc ni nl sr r ih => exact .named nc ni nl (fun a C dd oe pn z f => (sr a C dd oe pn z f).pe) ih
  | bare nc sr r ih => exact .bare nc (fun a C dd oe pn z f => (sr a C dd oe pn z f).pe) ih
/-- the clauses' sense -/
inductive SClz (K : PySem.W.Frag) : List HCl → List DCls → Prop
  | nil : SClz K [] []
  | cons {c : Value} {i : Option Nat} {ts : Addr → Addr → Addr → TS} {dc : Addr → Addr → Addr → DTS} {l : List HCl} {dl : List DCls} (sn : ∀ (a C dd : Addr) (oe : Obj), Zc (.ref C) (some dd) oe → (∃ vs, oe.data = .fields vs) → SS K E0 (ts a C dd) (dc a C dd)) (r : SClz K l dl) : SClz K ((c, i, ts) :: l) ((c, i, dc) :: dl)
theorem DClz.s {X : Cx} {hs : List ExceptHandler} {l : List HCl} {dl : List DCls} (c : DClz X hs l dl) : SClz X.K l dl := by
  induction c with
  | nil => exact .nil
  | named nc ni nl sr r ih => exact .cons (fun a C dd oe z f => (sr a C dd oe [] z f).sn) ih
  | bare nc sr r ih => exact .cons (fun a C dd oe z f => (sr a C dd oe [] z f).sn) ih
theorem slots_none {K : PySem.W.Frag} {H : Hp} {μ : Mu} {σ : L2.St} {n : Nat} (h : σ.length = n) : Slots K H μ σ (List.replicate n none) :=
  ⟨by rw [List.length_replicate, h], fun i d e => by
    rw [List.getElem?_replicate] at e
    split at e <;> cases e⟩
theorem Slots.unset {K : PySem.W.Frag} {H : Hp} {μ : Mu} {σ : L2.St} {δ : Sl} {i : Nat} (s : Slots K H μ σ δ) : Slots K H μ (σ.set i Option.none) (δ.set i Option.none) := by
  refine ⟨by rw [List.length_set, List.length_set, s.1], fun j x e => ?_⟩
  by_cases hj : i = j
  · subst hj
    by_cases hl : i < δ.length
    · rw [List.getElem?_set_self hl] at e
      cases e
    · rw [List.getElem?_eq_none (by rw [List.length_set]; omega)] at e
      cases e
  · rw [List.getElem?_set_ne hj] at e
    obtain ⟨u, h, q⟩ := s.2 j x e
    exact ⟨u, by rw [List.getElem?_set_ne hj]; exact h, q⟩
theorem ER.off {K : PySem.W.Frag} {H : Hp} {μ : Mu} {D : Ends} {D' : DEnds} (q : ER K H μ D D') : ∀ i, ER K H μ (offO i D) (offD i D')
  | none => q
  | some i => ⟨fun σ δ H' μ' t s h => q.nx _ _ _ _ t s.unset h, q.rt, fun σ δ H' μ' t s h => q.bk _ _ _ _ t s.unset h, fun σ δ H' μ' t s h => q.ct _ _ _ _ t s.unset h⟩
theorem slots_exc {K : PySem.W.Frag} {H : Hp} {μ : Mu} {σ : L2.St} {n : Nat} {a : Addr} {x : D} (h : σ.length = n) (r : Rep K H μ (.ref a) x) : ∀ i, Slots K H μ (setO i σ (.ref a)) (setD i (List.replicate n none) x)
  | none => slots_none h
  | some i => (slots_none h).set r
theorem xd_mu {K : PySem.W.Frag} {H : Hp} {μ : Mu} (c : Cells K H μ) {a : Addr} {fs} (h : H a = some (.xd fs)) : μ a = none := by
  cases e : μ a with
  | none => rfl
  | some d =>
    have q := (c a d e).1
    cases q with
    | lst g _ => rw [h] at g; cases g
    | tup g _ => rcases g with g | ⟨_, g⟩ <;> (rw [h] at g; cases g)
    | ins g _ => rw [h] at g; cases g
    | dK g _ => rcases g with g | ⟨_, g⟩ <;> (rw [h] at g; cases g)
    | dT g _ => rcases g with g | ⟨_, g⟩ <;> (rw [h] at g; cases g)
    | src _ _ _ g => rw [h] at g; cases g
    | tab g => obtain ⟨_, g, _⟩ := g; rw [h] at g; cases g
theorem zc_obj (C : Addr) (d : Option Addr) : ∃ oe : Obj, Zc (.ref C) d oe ∧ ∃ vs, oe.data = .fields vs := ⟨{ cls := .ref C, dict := d, data := .fields #[] }, ⟨rfl, rfl⟩, _, rfl⟩
theorem disp_run {K : PySem.W.Frag} {n : Nat} {E : XK} {E' : DX} {F : Ends} {F' : DEnds} {l : List HCl} {dl : List DCls} (S : SClz K l dl) : ∀ {H : Hp} {μ : Mu} {C dd : Addr} {f : Str} {v : V} {x : D} {σ : L2.St}, Cells K H μ → ER K H μ F F' → XR K H μ E E' → Rep K H μ v x → H dd = some (.xd [(f, v)]) → disp K n E' F' dl C f x μ →
    wCl K n (fun cls d _ H => E cls d H) F l (.ref C) (some dd) σ H := by
  induction S with
  | nil => intro H μ C dd f v x σ c q xr r h g; exact xr _ _ _ _ _ _ _ (.refl c) r h g
  | @cons cv i ts dc l dl sn r ih =>
    intro H μ C dd f v x σ c q xr rv h g
    obtain ⟨b, e, yes, no⟩ := g
    refine ⟨C, dd, b, rfl, rfl, e, fun hb a ha hl => ?_, fun hb => ih c q xr rv h (no hb)⟩
    obtain ⟨oe, z, hf⟩ := zc_obj C (some dd)
    exact (sn a C dd oe z hf).go ⟨c, slots_exc hl (.exc h (xd_mu c h) rv) i⟩ xr_no (yes hb a dd) (q.off i)
def xe0 (X : Cx) : Value → Shared → Prop := fun e s' => wpAny (model X.prog X.w) X.A (noteFrame e X.env) (fun _ s2 => wpAny (model X.prog X.w) X.A (setFlight e none) (fun _ _ => True) (fun _ _ => True) s2) (fun _ _ => True) s'
theorem takes_any {X : Cx} (hst : X.stack = X.env :: X.outer) (hfr : X.env.frame = some X.env.locals) : Takes (X.tr [] (xe0 X)) (fun _ _ _ _ => True) := by
  rintro u s' ⟨a, B, sI, pins', σ', H', cls, d, rfl, J', nb, up, sky, na, os, ag, q⟩
  have ok : X.Ok := J'.ok.ofTry
  have frm : X.A.frames = some (X.env :: X.outer) := by rw [ok.frames, hst]
  show wpAny (model X.prog X.w) X.A (noteFrame (.ref a) X.env) _ _ _
  exact Sky.land Zc.steady frm hfr (by rw [← hst]; exact sky) fun h3 f3 u3 => True.intro
/-- what the body lets out is taken -/
def Lets (X : Cx) (Ec : XK) : Prop := ∃ W : WX, Takes X W ∧ ∀ cls d σ' H', Ec cls d H' → W cls d σ' H'
theorem Lets.passes {X : Cx} {Ec : XK} (h : Lets X Ec) : Passes (L2.CX X.prog X.w) X Ec := let ⟨_, tk, hW⟩ := h; passes_call tk hW
theorem ds_try {X : Cx} {E : XK} {body : List Stmt} {h₀ : ExceptHandler} {hs : List ExceptHandler} {l : List HCl} {dl : List DCls} {pos : Pos} {n : Nat} {K : PySem.W.Frag} {t : XK → TS} {db : DTS} (hst : X.stack = X.env :: X.outer) (hfr : X.env.frame = some X.env.locals) (hN : X.N.Nodup) (tk : Takes X (fun cls d _ H => E cls d H)) (hn : X.N.length = n) (hK : X.K = K)
    (hb : ∀ (pn : List (Addr × Obj)) (xe : Value → Shared → Prop) (Ec : XK), Lets (X.tr pn xe) Ec → PassesOwn (model X.prog X.w) X.A X.env xe → DSs (X.tr pn xe) Ec body (t Ec) db) (C : DClz X (h₀ :: hs) l dl) :
    DS X E (.Try body (h₀ :: hs) [] [] pos) (fun D σ H => ∃ Ec : XK, (∀ cls d σ' H', Ec cls d H' → wCl X.K X.N.length (fun cls d _ H => E cls d H) D l cls d σ' H') ∧ t Ec D σ H) (sTry K n dl db) := by
  subst hK hn
  refine ⟨?_, ⟨fun {σ H δ μ D D' E'} hh x d q => ?_⟩⟩
  · refine ps_tryC (Wo := fun cls d _ H => E cls d H) (tb := fun W D σ H => ∃ Ec : XK, (∀ cls d σ' H', Ec cls d H' → W cls d σ' H') ∧ t Ec D σ H) hst hfr hN tk (fun W pn xe tk2 po => ?_) C.h
    refine ⟨fun pins s σ H D I h => ?_⟩
    obtain ⟨Ec, hW, ht⟩ := h
    exact (hb pn xe Ec ⟨W, tk2, hW⟩ po).pe.run pins s σ H D I ht
  · have S := (hb [] (xe0 X) (fun cls d H' => ∃ C dd f v y μ', cls = .ref C ∧ d = some dd ∧ Then X.K H μ H' μ' ∧ Rep X.K H' μ' v y ∧ H' dd = some (.xd [(f, v)]) ∧ disp X.K X.N.length E' D' dl C f y μ') ⟨_, takes_any hst hfr, fun _ _ _ _ _ => True.intro⟩ PassesOwn.looking)
    refine ⟨_, ?_, S.sn.go hh (fun C f y v a H' μ' t' r h g => ⟨C, a, f, v, y, μ', rfl, rfl, t', r, h, g⟩) d q⟩
    rintro cls d2 σ' H' ⟨C1, dd, f, v, y, μ', rfl, rfl, t', r, h, g⟩
    exact disp_run C.s t'.cells (q.go t') (x.go t') r h g
end Dl

set_option Elab.async false
set_option linter.all false
set_option maxRecDepth 100000
/-! what a suite asks of its exception; lambdas, by data -/
namespace Dl
open PySem PySem.Spec PyProof.Rows L2 Ms LamX
/-- n.fld -/
def dExc (i : Nat) (a C dd : Addr) (f : Str) : DTE := fun _ δ μ Q => match δ[i]? with | some (some (.exc a' C' dd' f' x)) => a' = a ∧ C' = C ∧ dd' = dd ∧ f' = f ∧ Q x μ | _ => False
theorem Rep.exc_inv {K : PySem.W.Frag} {H : Hp} {μ : Mu} {w : V} {a C dd : Addr} {f : Str} {x : D} (r : Rep K H μ w (.exc a C dd f x)) : ∃ v, w = .ref a ∧ H dd = some (.xd [(f, v)]) ∧ Rep K H μ v x := by
  cases r with
  | exc h m r => exact ⟨_, rfl, h, r⟩
  | obj m nt c => cases c
/-- n.fld of C, whose own it is; of another class it is never asked -/
theorem de_exc {X : Cx} {nm : Str} {C0 fI : Addr} {a C dd : Addr} {oe : Obj} {pn : List (Addr × Obj)} {i : Nat} {f x : Str} {p pos : Pos} (T : Sx.Txt X.prog X.K X.mg nm f C0 fI) (hz : Zc (.ref C) (some dd) oe) (hf : ∃ vs, oe.data = .fields vs) (hv : PE (X.suite a ((a, oe) :: pn)) (.Name x p) (tVar i))
    (hb : attributeBase (.Name x p) f X.env (eval (.Name x p) X.env) = eval (.Name x p) X.env := by rfl) :
    DE (X.suite a ((a, oe) :: pn)) E0 (.Attribute (.Name x p) f pos) (tByS f C0 a (.ref C) (some dd) (tVar i)) (fun E δ μ Q => C = C0 ∧ dExc i a C dd f E δ μ Q) :=
  ⟨pe_byS T hz hf hv hb, ⟨fun {σ H δ μ Q Q' E'} hh xr d q => by
    obtain ⟨rfl, d⟩ := d
    unfold dExc at d
    split at d
    · rename_i a' C' dd' f' y e
      obtain ⟨rfl, rfl, rfl, rfl, d⟩ := d
      obtain ⟨w, e1, r⟩ := hh.slots.2 _ _ e
      obtain ⟨v, rfl, hd, rv⟩ := r.exc_inv
      exact ⟨_, e1, rfl, rfl, dd', v, rfl, hd, q _ _ _ _ hh.refl rv d⟩
    · exact d.elim⟩⟩
/-- isinstance(n, ValueError); isinstance(n, C2), C2 an own class -/
def gIsV (K : PySem.W.Frag) (a C dd : Addr) : GC := fun xs μ Q => ∃ f x, xs = [.exc a C dd f x, .ty "ValueError"] ∧ PySem.W.subIn K (.ref C) (.type "ValueError") = some true ∧ Q (.bl true) μ
def gIsE (K : PySem.W.Frag) (a C dd : Addr) : GC := fun xs μ Q => ∃ f x C2 b, xs = [.exc a C dd f x, .ref C2] ∧ ExcC K C ∧ PySem.W.kitOne K (.ref C) (.ref C2) = some b ∧ Q (.bl b) μ
theorem c_isV {X : Cx} {K : PySem.W.Frag} {a C dd : Addr} {oe : Obj} {pn : List (Addr × Obj)} (hK : X.K = K) (hz : Zc (.ref C) (some dd) oe) (hf : ∃ vs, oe.data = .fields vs) :
    DCl (X.suite a ((a, oe) :: pn)) (.builtin "isinstance") (fun xs H Q => ∃ C', xs = [.ref a, .ty "ValueError"] ∧ Value.ref C = .ref C' ∧ PySem.W.subIn X.K (.ref C') (.type "ValueError") = some true ∧ Q (.bl true) H) (gIsV K a C dd) := by
  subst hK
  exact ⟨call_isV hz hf, fun {xs ds H μ Q Q'} c r d q => by
    obtain ⟨f, x, rfl, h, d⟩ := d
    obtain ⟨v, w, rfl, r0, r1⟩ := r.inv2
    obtain ⟨_, rfl, _, _⟩ := r0.exc_inv
    rw [r1.ty_inv]
    exact ⟨C, rfl, rfl, h, q _ _ _ _ (.refl c) (.bl _) d⟩⟩
theorem c_isE {X : Cx} {K : PySem.W.Frag} {a C dd : Addr} {oe : Obj} {pn : List (Addr × Obj)} (hK : X.K = K) (hz : Zc (.ref C) (some dd) oe) (hf : ∃ vs, oe.data = .fields vs) :
    DCl (X.suite a ((a, oe) :: pn)) (.builtin "isinstance") (fun xs H Q => ∃ C' C2 b dd', xs = [.ref a, .ref C2] ∧ Value.ref C = .ref C' ∧ some dd = some dd' ∧ (∃ fs, H dd' = some (.xd fs)) ∧ ExcC X.K C' ∧ PySem.W.kitOne X.K (.ref C') (.ref C2) = some b ∧ Q (.bl b) H) (gIsE K a C dd) := by
  subst hK
  exact ⟨call_isC hz hf, fun {xs ds H μ Q Q'} c r d q => by
    obtain ⟨f, x, C2, b, rfl, ec, h, d⟩ := d
    obtain ⟨v, w, rfl, r0, r1⟩ := r.inv2
    obtain ⟨v2, rfl, hx, _⟩ := r0.exc_inv
    rw [r1.ref_inv]
    exact ⟨C, C2, b, dd, rfl, rfl, rfl, ⟨_, hx⟩, ec, h, q _ _ _ _ (.refl c) (.bl _) d⟩⟩
/-! the tables of the lambdas' code objects, as cells -/
def TB (TL : List (Addr × Str)) (μ : Mu) : Prop := ∀ a q, μ a = some (.tab q) ↔ (a, q) ∈ TL
theorem TB.mup {TL : List (Addr × Str)} {μ : Mu} {p : Addr} {d : D} (t : TB TL μ) (hp : ∀ q, μ p ≠ some (.tab q)) (hd : ∀ q, d ≠ .tab q) : TB TL (mup μ p d) := fun a q => by
  by_cases h : a = p
  · subst h
    rw [mup_same]
    refine ⟨fun e => absurd (Option.some.inj e) (hd q), fun e => absurd ((t a q).mpr e) (hp q)⟩
  · rw [mup_ne h]
    exact t a q
theorem TB.new {TL : List (Addr × Str)} {μ : Mu} {p : Addr} {d : D} (t : TB TL μ) (hp : μ p = none) (hd : ∀ q, d ≠ .tab q) : TB TL (Dl.mup μ p d) := t.mup (fun q e => by rw [hp] at e; cases e) hd
theorem TB.off {TL : List (Addr × Str)} {μ μ' : Mu} {L : Addr} (t : TB TL μ) (hL : μ L = none) (hL' : ∀ q, μ' L ≠ some (.tab q)) (o : Off L μ μ') : TB TL μ' := fun a q => by
  by_cases h : a = L
  · subst h
    exact ⟨fun e => absurd e (hL' q), fun e => by have := (t a q).mpr e; rw [hL] at this; cases this⟩
  · rw [o a h]
    exact t a q
theorem code_mu {K : PySem.W.Frag} {H : Hp} {μ : Mu} (c : Cells K H μ) {a c' : Addr} {q : Str} (h : H a = some (CodeO c' q)) : μ a = none := by
  cases e : μ a with
  | none => rfl
  | some d =>
    have z := (c a d e).1
    cases z with
    | lst g _ => rw [h] at g; cases g
    | tup g _ => rcases g with g | ⟨_, g⟩ <;> (rw [h] at g; cases g)
    | ins g _ => rw [h] at g; cases g
    | dK g _ => rcases g with g | ⟨_, g⟩ <;> (rw [h] at g; cases g)
    | dT g _ => rcases g with g | ⟨_, g⟩ <;> (rw [h] at g; cases g)
    | src _ _ _ g => rw [h] at g; cases g
    | tab g => obtain ⟨ps, g, _⟩ := g; rw [h] at g; exact absurd (Option.some.inj g) (codeO_nt ps)
theorem tabs_of {K : PySem.W.Frag} {H : Hp} {μ : Mu} {TL : List (Addr × Str)} (c : Cells K H μ) (t : TB TL μ) : Tabs TL H := fun p hp => by
  have q := (c p.1 _ ((t p.1 p.2).mpr hp)).1
  cases q with
  | tab g =>
    obtain ⟨ps, h1, h2, h3⟩ := g
    exact ⟨ps, h1, h2, fun pos cv hc => let ⟨x, e1, e2, _⟩ := h3 pos cv hc; ⟨x, e1, e2⟩⟩
/-- behind the making of a lambda -/
theorem then_ext {K : PySem.W.Frag} {H H1 : Hp} {μ : Mu} {TL : List (Addr × Str)} (c : Cells K H μ) (t : TB TL μ) (e : ExtN H H1) (T1 : Tabs TL H1) : Then K H μ H1 μ := by
  have g : Grow H μ H1 μ := .ext e
  refine ⟨g, fun a d h => ⟨?_, ?_⟩⟩
  · have z := (c a d h).1
    cases z with
    | lst k r => exact .lst (e _ _ k fun _ z => by cases z) (r.grow g)
    | tup k r => exact .tup (k.elim (fun k => .inl (e _ _ k fun _ z => by cases z)) fun ⟨o, k⟩ => .inr ⟨o, e _ _ k fun _ z => by cases z⟩) (r.grow g)
    | ins k r => exact .ins (e _ _ k fun _ z => by cases z) (r.grow g)
    | dK k r => exact .dK (k.elim (fun k => .inl (e _ _ k fun _ z => by cases z)) fun ⟨o, k⟩ => .inr ⟨o, e _ _ k fun _ z => by cases z⟩) (r.grow g)
    | dT k r => exact .dT (k.elim (fun k => .inl (e _ _ k fun _ z => by cases z)) fun ⟨o, k⟩ => .inr ⟨o, e _ _ k fun _ z => by cases z⟩) (r.grow g)
    | src x y w k => exact .src x y w (e _ _ k fun _ z => by cases z)
    | @tab _ q k =>
      obtain ⟨ps, h1, h2, h3⟩ := T1 (a, q) ((t a q).mp h)
      refine .tab ⟨ps, h1, h2, fun pos cv hc => ?_⟩
      obtain ⟨x, e1, e2⟩ := h3 pos cv hc
      refine ⟨x, e1, e2, ?_⟩
      cases em : μ x with
      | none => rfl
      | some d2 =>
        have y := (c x d2 em).1
        have no : ∀ o, H x = some o → (∀ ps, o ≠ .tbl ps) → o = CodeO x q := fun o ho nt => by
          have := e _ _ ho nt
          rw [e2] at this
          exact (Option.some.inj this).symm
        cases y with
        | lst k _ => cases no _ k fun _ z => by cases z
        | tup k _ => rcases k with k | ⟨_, k⟩ <;> cases no _ k fun _ z => by cases z
        | ins k _ => cases no _ k fun _ z => by cases z
        | dK k _ => rcases k with k | ⟨_, k⟩ <;> cases no _ k fun _ z => by cases z
        | dT k _ => rcases k with k | ⟨_, k⟩ <;> cases no _ k fun _ z => by cases z
        | src _ _ _ k => cases no _ k fun _ z => by cases z
        | @tab _ q2 k =>
          obtain ⟨ps2, k, _⟩ := T1 (x, q2) ((t x q2).mp em)
          have k : H1 x = _ := k
          rw [e2] at k
          exact absurd (Option.some.inj k) (codeO_nt ps2)
  · intro o' u hz
    have z := (c a d h).1
    have nf := (c a d h).2
    cases z with
    | lst k r => have := e _ _ k fun _ z => by cases z
                 rw [hz] at this; cases this
    | tup k r =>
      rcases k with k | ⟨o2, k⟩
      · have := e _ _ k fun _ z => by cases z
        rw [hz] at this; cases this
      · exact nf _ _ k
    | ins k r => have := e _ _ k fun _ z => by cases z
                 rw [hz] at this; cases this
    | dK k r =>
      rcases k with k | ⟨o2, k⟩
      · have := e _ _ k fun _ z => by cases z
        rw [hz] at this; cases this
      · exact nf _ _ k
    | dT k r =>
      rcases k with k | ⟨o2, k⟩
      · have := e _ _ k fun _ z => by cases z
        rw [hz] at this; cases this
      · exact nf _ _ k
    | src x y w k => have := e _ _ k fun _ z => by cases z
                     rw [hz] at this; cases this
    | @tab _ q k =>
      obtain ⟨ps, h1, h2, h3⟩ := T1 (a, q) ((t a q).mp h)
      have h1 : H1 a = _ := h1
      rw [hz] at h1; cases h1
/-! slots as a row -/
theorem Slots.repo {K : PySem.W.Frag} {H : Hp} {μ : Mu} : ∀ {σ : L2.St} {δ : Sl}, Slots K H μ σ δ → Repo K H μ σ δ
  | [], [], _ => .nil
  | [], _ :: _, s => by have := s.1; cases this
  | _ :: _, [], s => by have := s.1; cases this
  | v :: σ, none :: δ, s => .skip (Slots.repo ⟨by have := s.1; simpa using this, fun i d e => s.2 (i + 1) d (by simpa using e)⟩)
  | v :: σ, some x :: δ, s => by
    obtain ⟨u, h, r⟩ := s.2 0 x rfl
    have h : v = some u := by simpa using h
    subst h
    exact .cons r (Slots.repo ⟨by have := s.1; simpa using this, fun i d e => s.2 (i + 1) d (by simpa using e)⟩)
theorem Repo.slots {K : PySem.W.Frag} {H : Hp} {μ : Mu} : ∀ {σ : L2.St} {δ : Sl}, Repo K H μ σ δ → Slots K H μ σ δ
  | _, _, .nil => ⟨rfl, fun i d e => by simp at e⟩
  | _, _, .skip r => by
    have s := Repo.slots r
    refine ⟨by simpa using s.1, fun i d e => ?_⟩
    cases i with
    | zero => simp at e
    | succ i => exact s.2 i d (by simpa using e)
  | _, _, .cons h r => by
    have s := Repo.slots r
    refine ⟨by simpa using s.1, fun i d e => ?_⟩
    cases i with
    | zero =>
      rw [List.getElem?_cons_zero] at e
      cases e
      exact ⟨_, rfl, h⟩
    | succ i => exact s.2 i d (by simpa using e)
theorem Rep.lam_inv {K : PySem.W.Frag} {H : Hp} {μ : Mu} {w : V} {f c : Addr} {q : Str} {σ : L2.St} {δ : Sl} (r : Rep K H μ w (.lam f c q σ δ)) : w = .ref f ∧ H c = some (CodeO c q) ∧ Slots K H μ σ δ := by
  cases r with
  | lam h m r => exact ⟨rfl, h, r.slots⟩
  | obj m nt c => cases c
/-! a def that calls what it got -/
/-- the asking, by the reading db of the lambda -/
def dAsk (f c : Addr) (q : Str) (σ : L2.St) (δ0 : Sl) (db : DTE) : DTE := fun E δ μ Q => δ[0]? = some (some (.lam f c q σ δ0)) ∧ db E δ0 μ Q
/-- what is made of the lambda's reading: B the asker's body, by the asking -/
def TTd (K : PySem.W.Frag) (N : List Str) (B : DTE → DTS) : (XK → Hp → VK → Prop) → Hp → VK → Prop := fun tl H Q => ∃ (σ : L2.St) (δ0 : Sl) (μ : Mu) (Q' : DK) (db : DTE),
  (∀ {E HZ μZ E' Qz Qz'}, Here K HZ μZ σ δ0 → XR K HZ μZ E E' → db E' δ0 μZ Qz' → QR K HZ μZ Qz Qz' → tl E HZ Qz) ∧ Here K H μ σ δ0 ∧ QR K H μ Q Q' ∧
  ∀ f c q, B (dAsk f c q σ δ0 db) noX { nx := fun _ μ' => Q' .non μ', rt := Q' } (startD N [.lam f c q σ δ0]) μ
/-- x(lambda: ..) -/
def dLam (TL : List (Addr × Str)) (N : List Str) (B : DTE → DTS) (db : DTE) : DTE := fun _ δ μ Q => TB TL μ ∧ ∀ f c q σ, B (dAsk f c q σ δ db) noX { nx := fun _ μ' => Q .non μ', rt := Q } (startD N [.lam f c q σ δ]) μ
theorem se_lam {K : PySem.W.Frag} {E : XK} {TL : List (Addr × Str)} {N : List Str} {B : DTE → DTS} {t : XK → TE} {db : DTE} (hb : ∀ Ec, SE K Ec (t Ec) db) : SE K E (tLam TL (TTd K N B) t) (dLam TL N B db) := ⟨fun {σ H δ μ Q Q' E'} hh x d q => by
  refine ⟨tabs_of hh.cells d.1, fun H1 e1 T1 => ?_⟩
  have t1 := then_ext hh.cells d.1 e1 T1
  exact ⟨σ, δ, μ, Q', db, fun {E HZ μZ E' Qz Qz'} a b c e => (hb E).go a b c e, hh.go t1, q.go t1, fun f c q => d.2 f c q σ⟩⟩
theorem se_ask {K : PySem.W.Frag} {Ec : XK} {f c : Addr} {q : Str} {σ : L2.St} {δ0 : Sl} {db : DTE} {tl : XK → Hp → VK → Prop} (h : ∀ {E HZ μZ E' Qz Qz'}, Here K HZ μZ σ δ0 → XR K HZ μZ E E' → db E' δ0 μZ Qz' → QR K HZ μZ Qz Qz' → tl E HZ Qz) :
    SE K Ec (fun σZ HZ Q => σZ[0]? = some (some (.ref f)) ∧ HZ c = some (CodeO c q) ∧ tl Ec HZ Q) (dAsk f c q σ δ0 db) := ⟨fun {σZ HZ δZ μZ Q Q' E'} hh x d qq => by
  obtain ⟨e, d⟩ := d
  obtain ⟨w, e1, r⟩ := hh.slots.2 _ _ e
  obtain ⟨rfl, hc, s⟩ := r.lam_inv
  exact ⟨e1, hc, h ⟨hh.cells, s⟩ x d qq⟩⟩
/-- the asker's body gives it -/
theorem gives_of {X : Cx} {Ng : List Str} {x : Str} {sg : Scope} {g : Addr} {cdg : Value} {bg : List Stmt} {a q : Str} {K : PySem.W.Frag} {B : DTE → DTS} (hK : X.K = K)
    (h : ∀ (f c' : Addr) (s : Shared) (H : Hp) (ta : XK → TE) (dask : DTE), (∀ (pn : List (Addr × Obj)) (xe : Value → Shared → Prop) (Ec : XK) (p1 p2 : Pos), Lets ((cxOf C8.CX0 X.prog X.w X.K X.mg X.base Ng x sg g cdg X.A X.stack s H C8.E0).tr pn xe) Ec →
        DE ((cxOf C8.CX0 X.prog X.w X.K X.mg X.base Ng x sg g cdg X.A X.stack s H C8.E0).tr pn xe) Ec (.Call (.Name a p1) [] [] p2) (ta Ec) dask) →
      ∃ t, DSs (cxOf C8.CX0 X.prog X.w X.K X.mg X.base Ng x sg g cdg X.A X.stack s H C8.E0).nox E0 bg t (B dask)) : GivesTo X Ng x sg g cdg bg a q (TTd K Ng B) := by
  subst hK
  intro f c' s H Q tl act hc tt
  obtain ⟨σ, δ0, μ, Q', db, hse, hh, qr, d⟩ := tt
  obtain ⟨t, D⟩ := h f c' s H (fun E σZ HZ Q => σZ[0]? = some (some (.ref f)) ∧ HZ c' = some (CodeO c' q) ∧ tl E HZ Q) (dAsk f c' q σ δ0 db) (fun pn xe Ec p1 p2 l => by
    obtain ⟨W, tk, hW⟩ := l
    exact ⟨act W pn xe Ec p1 p2 tk hW, se_ask hse⟩)
  refine ⟨t, D.pe, D.sn.go ⟨hh.cells, ?_⟩ xr_no (d f c' q) (er_of qr)⟩
  exact slots_start (.one (.lam hc (code_mu hh.cells hc) hh.slots.repo))
end Dl

set_option Elab.async false
set_option linter.all false
set_option maxRecDepth 100000
/-! len(x) by an own __len__; max(.., default=..) -/
namespace Dl
open PySem PySem.Spec PyProof.Rows L2
section
open PySem.W
variable {prog : Program} {w : World} {A : Around} {E : Value → Shared → Prop} {s : Shared} {K : PySem.W.Frag} {x C f : Addr} {ox : Obj} {od : Option Obj}
theorem len_own {Q : Value → Shared → Prop} (X : K.In s.heap) (I : InstAt s.heap x ox C od) (hs : findIn K (.ref C) "__len__" = some (some (.ref f))) (hf : isFn K (.ref f) = true)
    (h : wpAny (model prog w) A.in1 (call (.ref f) [.ref x]) (fun v s' => ∃ n t, v = .int n t ∧ 0 ≤ n ∧ n < 2 ^ 63 ∧ Q (.int n s'.toks) { s' with toks := s'.toks + 1 }) E s) : wpAny (model prog w) A (call (.builtin "len") [.ref x]) Q E s := by
  refine Calls.call_function_entry PySem.kind_len PySem.plain_len PySem.entry_len (PySem.args_len1 _) ?_
  unfold Builtin.«len»
  refine wpAny_bind (m := oneArg "len" _) (wpAny_pure ?_)
  refine wpAny_bind (m := callSpecial? (.ref x) (PySem.Str.ofString "__len__")) (special_fn X I hs (beq_iff_eq.mp hf) (wpAny_mono h (fun r s' hr => ?_) fun _ _ y => y))
  obtain ⟨n, t, rfl, h0, h1, q⟩ := hr
  refine wpAny_bind (wpAny_holding (wpAny_pure ?_))
  refine wpAny_bind (wpAny_letGo ?_)
  show wpAny _ _ (if n < 0 then _ else _) _ _ _
  rw [if_neg (by omega)]
  show wpAny _ _ (if n ≥ 2 ^ 63 then _ else _) _ _ _
  rw [if_neg (by omega)]
  exact wpAny_bind (wpAny_mkInt (wpAny_pure ⟨_, rfl, q⟩))
end
def rLenO (K : PySem.W.Frag) (C : Addr) (sp : Sp) : List V → Hp → VK → Prop := fun vs H Q => ∃ a dx fs, vs = [.ref a] ∧ H a = some (.ins C dx fs) ∧ sp [.ref a] H (fun v H' => ∃ n, v = .int n ∧ 0 ≤ n ∧ n < 2 ^ 63 ∧ Q v H') E0
section
variable {X : Cx} {CX : CXT} {k : Nat} {f C : Addr} {fd : FuncData} {ps : List Str} {sp : DSp}
theorem call_lenO {sp : Sp} (F : FnOk X.prog X.w X.K X.mg X.base CX k f fd ps sp) (hr : Room (k + 1) X.A) (hm : Meth X.K C "__len__" f) (hb : Binds X.K fd ps []) (hx : Passes CX X E0) : CallR X (.builtin "len") (rLenO X.K C sp) := by
  intro pins s σ H xs us Q I r h
  obtain ⟨a, dx, fs, rfl, ha, hsp⟩ := h
  cases r with
  | cons r rr =>
    cases rr
    cases r
    obtain ⟨mA, J, _⟩ := ins_get I.hok ha
    obtain ⟨od, J, _⟩ := J.look
    have hr1 : Room k X.A.in1 := hr.in1
    refine len_own I.kIn J hm.at_ hm.fn ?_
    have e0 : Env0 X.prog X.w X.K X.mg X.base X.A.in1 X.stack s H := by
      have e := I.env0
      exact ⟨e.frames, e.mod, e.bs, e.bsz, e.funs, e.frf, e.hok, e.bare⟩
    have hl := F.len _ _ _ _ hsp
    have r2 : Vals [V.ref a] [Value.ref a] := .cons rfl .nil
    refine wpAny_call (codeAny_mono (F.run X.A.in1 X.stack s H ⟨[.ref a], []⟩ [.ref a] [.ref a] _ E0 hr1 e0 (by
      have := hb s [.ref a] I.kIn (by simpa using hl)
      simpa using this) r2 hsp) fun r s' hq => ?_)
    cases r with
    | error e => exact hx pins σ H s e s' I hq
    | ok fl =>
      cases fl with
      | ret w =>
        obtain ⟨v, H', I', rz, n, rfl, n0, n1, q⟩ := I.after hq
        obtain ⟨t, rfl⟩ := rz
        exact ⟨n, t, rfl, n0, n1, .int n, H', I'.tok _, ⟨_, rfl⟩, q⟩
      | next => exact False.elim hq
      | brk => exact False.elim hq
      | cont => exact False.elim hq
def gLenO (C : Addr) (ks : List Str) (sp : DSp) : GC := fun ds μ Q => one ds fun x => insOf C ks (rd μ x) ∧ sp [x] μ (fun v μ' => v.toI fun n => 0 ≤ n ∧ n < 2 ^ 63 ∧ Q (.int n) μ') noX
theorem c_lenO {K : PySem.W.Frag} {ks : List Str} (F : FnOk X.prog X.w X.K X.mg X.base CX k f fd ps (lift K sp)) (hr : Room (k + 1) X.A) (hm : Meth X.K C "__len__" f) (hb : Binds X.K fd ps []) (hx : Passes CX X E0) (hK : X.K = K := by rfl) : DCl X (.builtin "len") (rLenO K C (lift K sp)) (gLenO C ks sp) := by
 subst hK
 exact
  ⟨call_lenO F hr hm hb hx, fun {xs ds H μ Q Q'} c r d q => by
    obtain ⟨x, rfl, d1, d2⟩ := one_inv d
    obtain ⟨v, rfl, r0⟩ := r.inv1
    obtain ⟨zs, e⟩ := insOf_inv d1
    obtain ⟨a, dx, fs, rfl, ha, hk, rr⟩ := rd_ins c r0 e
    refine ⟨a, dx, fs, rfl, ha, _, _, _, _, r, c, d2, fun v y H' μ' t r1 q1 => ?_, xr_no⟩
    obtain ⟨n, rfl, n0, n1, q2⟩ := toI_inv q1
    exact ⟨n, r1.int_inv, n0, n1, q _ _ _ _ t r1 q2⟩⟩
end
/-! max(xs, default=d) -/
def rMaxDf (K : PySem.W.Frag) : List V → List V → Hp → VK → Prop := fun vs zs H Q => ∃ (a : Addr) (ns : List Int) (d : Int), vs = [V.ref a] ∧ zs = [.int d] ∧ SqL K H a (ns.map V.int) ∧ (ns = [] → Q (.int d) H) ∧ (ns ≠ [] → ∀ m, m ∈ ns → (∀ y, y ∈ ns → y ≤ m) → Q (.int m) H)
theorem maxOf_mem : ∀ (y : Int) (ys : List Int), PySem.W.maxOf y ys ∈ y :: ys ∧ ∀ z ∈ y :: ys, z ≤ PySem.W.maxOf y ys := by
  intro y ys
  show ys.foldl (fun a z => if decide (a < z) = true then z else a) y ∈ y :: ys ∧ ∀ z ∈ y :: ys, z ≤ ys.foldl (fun a z => if decide (a < z) = true then z else a) y
  induction ys generalizing y with
  | nil => exact ⟨List.mem_cons_self, fun z hz => by rw [List.mem_singleton.mp hz]; exact Int.le_refl _⟩
  | cons u r ih =>
    rw [List.foldl_cons]
    obtain ⟨h1, h2⟩ := ih (if decide (y < u) = true then u else y)
    have e : (if decide (y < u) = true then u else y) = if y < u then u else y := by simp
    rw [e] at h1 h2 ⊢
    refine ⟨?_, fun z hz => ?_⟩
    · rcases List.mem_cons.mp h1 with h | h
      · rw [h]; split <;> simp
      · exact List.mem_cons_of_mem _ (List.mem_cons_of_mem _ h)
    · have hm := h2 _ List.mem_cons_self
      rcases List.mem_cons.mp hz with rfl | hz
      · refine Int.le_trans ?_ hm; split <;> omega
      · rcases List.mem_cons.mp hz with rfl | hz
        · refine Int.le_trans ?_ hm; split <;> omega
        · exact h2 z (List.mem_cons_of_mem _ hz)
section
variable {X : Cx} {K : PySem.W.Frag}
theorem cr_maxDf (hc : X.calm = true) (hu : X.A.units + 64 < cLine) : CallRK X (.builtin "max") ["default"] (rMaxDf X.K) := by
  intro pins s σ H xs zs us ws Q I r rz h
  obtain ⟨a, ns, d, rfl, rfl, hs, q0, q1⟩ := h
  obtain ⟨its, rv, hl, _⟩ := I.list hs
  obtain ⟨u, rfl, t, rfl⟩ : ∃ u, ws = [u] ∧ ∃ t, u = Value.int d t := by
    cases rz with | cons a b => cases b; obtain ⟨t, rfl⟩ := a; exact ⟨_, rfl, t, rfl⟩
  rw [Vals.ref1 r]
  refine PySem.W.max_list_datum_default (α := Int) (I.ok.hd hc) hl.isList (PySem.W.HoldAll.of_ints rv.ints) (by show _ + 1 + 0 < _; omega) (fun e h' tk k => ⟨.int d, H, I.kept k, ⟨_, rfl⟩, q0 e⟩) fun y ys i v h' tk e hv hh k => ?_
  subst e
  obtain ⟨t2, rfl⟩ := PySem.W.int_of_holds hh
  obtain ⟨m1, m2⟩ := maxOf_mem y ys
  exact ⟨.int _, H, I.kept k, ⟨_, rfl⟩, q1 (by simp) _ m1 m2⟩
/-- what a list of numbers comes to, a number where it is empty -/
def maxDf (d : Int) : List Int → Int
  | [] => d
  | x :: xs => xs.foldl (fun a y => if a < y then y else a) x
theorem maxDf_mem {d : Int} : ∀ {ns : List Int}, ns ≠ [] → maxDf d ns ∈ ns ∧ ∀ z ∈ ns, z ≤ maxDf d ns
  | [], h => absurd rfl h
  | y :: ys, _ => by
    have e : maxDf d (y :: ys) = PySem.W.maxOf y ys := by
      show ys.foldl (fun a y => if a < y then y else a) y = ys.foldl (fun a z => if decide (a < z) = true then z else a) y
      congr 1
      funext a z
      simp
    rw [e]
    exact maxOf_mem y ys
theorem maxDf_eq {d m : Int} {ns : List Int} (h : m ∈ ns) (g : ∀ z ∈ ns, z ≤ m) : m = maxDf d ns := by
  have ne : ns ≠ [] := fun e => by rw [e] at h; cases h
  obtain ⟨h1, h2⟩ := maxDf_mem (d := d) ne
  exact Int.le_antisymm (h2 _ h) (g _ h1)
def gMaxDf (a : DTE) (d : DTE) : DTE := fun E δ μ Q => a E δ μ fun x μ1 => d E δ μ1 fun y μ2 => (rd μ2 x).toL fun ys => y.toI fun k => match asI ys with | some ns => Q (.int (maxDf k ns)) μ2 | none => False
theorem de_maxDf {E : XK} {e d : Expr} {te td : TE} {de dd : DTE} {p pos kp : Pos} (hc : X.calm = true) (hu : X.A.units + 64 < cLine) (hK : X.K = K) (hg : Gl X "max") (hm : X.mg "max" = none) (he : DE X E e te de) (hd : DE X E d td dd)
    (h1 : backTo pos (starEach [e] X.env) = (false, eval e X.env) :: backTo pos (starEach [] X.env) := by rfl) (h2 : (backTo pos (starEach [e] X.env)).any (·.1) = false := by rfl)
    (h3 : (backToKw pos (keywordEach [⟨"default", d, kp⟩] X.env)).all (·.1.isSome) = true := by rfl) (h4 : (backToKw pos (keywordEach [⟨"default", d, kp⟩] X.env)).any (·.1.isNone) = false := by rfl) (h5 : (backToKw pos (keywordEach [⟨"default", d, kp⟩] X.env)).filterMap (·.1) = [("default" : Str)] := by rfl) (h6 : starEach [e] X.env = (false, eval e X.env) :: starEach [] X.env := by rfl) :
    DE X E (.Call (.Name "max" p) [e] [⟨"default", d, kp⟩] pos) (tCKw (rMaxDf K) (tCons te tNil) (tCons td tNil)) (gMaxDf de dd) := by
  subst hK
  refine ⟨pe_callBK (cr_maxDf hc hu) hg hm (by decide +kernel) (pa_cons he.pe pa_nil h6) (pk_cons hd.pe pk_nil) (by decide) (by decide) h1 h2 h3 h4 h5, ⟨fun {σ H δ μ Q Q' E'} hh xr d q => he.sn.go hh xr d fun v y H1 μ1 t1 r1 d1 => ?_⟩⟩
  refine hd.sn.go (hh.go t1) (xr.go t1) d1 fun w z H2 μ2 t2 r2 d2 => ?_
  obtain ⟨ys, e1, d3⟩ := toL_inv d2
  obtain ⟨k, rfl, d4⟩ := toI_inv d3
  cases e2 : asI ys with
  | none => simp only [e2] at d4
  | some ns =>
    simp only [e2] at d4
    obtain ⟨a, vs, rfl, ha, ra⟩ := rd_lst t2.cells (r1.grow t2.g) e1
    rw [asI_inv e2] at ra
    have qq : Q (.int (maxDf k ns)) H2 := q _ _ _ _ (t1.trans t2) (.int _) d4
    rw [r2.int_inv]
    refine ⟨a, ns, k, rfl, rfl, SqL.of (by rw [ha, ra.ints]), fun e => ?_, fun e m m1 m2 => ?_⟩
    · subst e; exact qq
    · rw [maxDf_eq (d := k) m1 m2]; exact qq
end
end Dl

set_option Elab.async false
set_option linter.all false
set_option maxRecDepth 100000
/-! != of two lists by their items' own == -/
namespace Dl
open PySem PySem.Spec PyProof.Rows L2
section
open PySem.SeqAt
open AutoSeq1 (wpAny_loadPart')
open MeetsSeq MeetsSeq2 MeetsSeq3 SeqRoads2
variable {prog : Program} {w : World} {A : Around} {R : Result → Shared → Prop}
theorem ne_loopB (l b : Addr) (N : Nat) (d : Nat → Bool) (I : Nat → Shared → Prop) (hl : ListB prog w A (fun e s' => R (.error e) s') l b N d I)
    (fin : ∀ s, I N s → (∀ i, i < N → d i = true) → R (.ok (.ret (.bool false))) s) (no : ∀ i s, I (i + 1) s → i < N → d i = false → R (.ok (.ret (.bool true))) s) (k : Nat) :
    ∀ i : Nat, N - i = k → i ≤ N → (∀ j, j < i → d j = true) → ∀ s, I i s →
      wpAny (model prog w) A.in1 (Builtin.«list.__eq__.loop» ⟨[.ref l, .ref b, rawInt i, rawInt 3], []⟩) (GQ.FinOf prog w A R) (fun e s' => R (.error e) s') s := by
  induction k with
  | zero =>
    intro i hk hi hd s h
    obtain ⟨xs, ys, n, n2, ga, gb, za, zb, _⟩ := hl _ _ h
    have hi' : i = N := by omega
    have hR : R (.ok (.ret (.bool false))) s := fin s (hi' ▸ h) (hi' ▸ hd)
    obtain ⟨hp, g, dd, tk, os⟩ := s
    wp_walk using wpAny_loadPart' ga, wpAny_loadPart' gb
    have ia : xs[((i : Nat) : Int).toNat]? = none := by simp; omega
    have ib : ys[((i : Nat) : Int).toNat]? = none := by simp; omega
    rw [ia, ib]
    wp_walk using wpAny_loadPart' ga, wpAny_loadPart' gb
    show R (.ok (.ret (.bool (xs.size != ys.size)))) _
    rw [za, zb]
    simpa using hR
  | succ k ih =>
    intro i hk hi hd s h
    obtain ⟨xs, ys, n, n2, ga, gb, za, zb, turn⟩ := hl _ _ h
    have lta : i < xs.size := by omega
    have ltb : i < ys.size := by omega
    have ht := turn lta ltb
    obtain ⟨hp, g, dd, tk, os⟩ := s
    wp_walk using wpAny_loadPart' ga, wpAny_loadPart' gb
    have ia : xs[((i : Nat) : Int).toNat]? = some xs[i] := by simp [lta]
    have ib : ys[((i : Nat) : Int).toNat]? = some ys[i] := by simp [ltb]
    have hc : ((i : Int) + 1) = ((i + 1 : Nat) : Int) := by omega
    rw [ia, ib]
    refine wpAny_bind (wpAny_mono ht (fun r s2 h2 => ?_) fun _ _ x => x)
    obtain ⟨hr, h2⟩ := h2
    cases hdi : d i with
    | true =>
      rw [hdi] at hr
      subst hr
      have again_ := ih (i + 1) (by omega) (by omega) (fun j hj => by
        rcases Nat.lt_or_ge j i with h | h
        · exact hd j h
        · have : j = i := by omega
          rw [this]; exact hdi) s2 h2
      obtain ⟨hp2, g2, d2, tk2, os2⟩ := s2
      wp_walk
      rw [hc]
      exact ⟨plainId_quiet plain_eq_loop _, codeAny_builtin entry_eq_loop (by
        rw [Around.under_plainId plain_eq_loop _]
        exact again_)⟩
    | false =>
      rw [hdi] at hr
      subst hr
      have hR := no i s2 h2 (by omega) hdi
      obtain ⟨xs1, ys1, n', n2', gc, gd, zc, zd, _⟩ := hl _ _ h2
      obtain ⟨hp2, g2, d2, tk2, os2⟩ := s2
      wp_walk using wpAny_loadPart' gc, wpAny_loadPart' gd
      have ja : xs1[((i : Nat) : Int).toNat]? = some (xs1[i]'(by omega)) := by simp
      have jb : ys1[((i : Nat) : Int).toNat]? = some (ys1[i]'(by omega)) := by simp
      rw [ja, jb]
      wp_walk
      exact hR
theorem list_neB (l b : Addr) (N : Nat) (d : Nat → Bool) (I : Nat → Shared → Prop) (hl : ListB prog w A (fun e s' => R (.error e) s') l b N d I)
    (fin : ∀ s, I N s → (∀ i, i < N → d i = true) → R (.ok (.ret (.bool false))) s) (no : ∀ i s, I (i + 1) s → i < N → d i = false → R (.ok (.ret (.bool true))) s) {s : Shared} (h : I 0 s) :
    wpAny (model prog w) A.in1 (Builtin.«list.__ne__» ⟨[.ref l, .ref b], []⟩) (GQ.FinOf prog w A R) (fun e s' => R (.error e) s') s := by
  obtain ⟨xs, ys, n, n2, ga, gb, za, zb, _⟩ := hl _ _ h
  have again_ := ne_loopB (A := A) (R := R) l b N d I hl fin no _ 0 rfl (Nat.zero_le _) (fun _ h => absurd h (Nat.not_lt_zero _)) s h
  obtain ⟨hp, g, dd, tk, os⟩ := s
  have f3 := AutoSeq1.sub_list_list
  have hne : ¬ (xs.size != ys.size) = true := by simp [za, zb]
  wp_walk using wpAny_loadPart' ga, wpAny_loadPart' gb
  exact ⟨plainId_quiet plain_eq_loop _, codeAny_builtin entry_eq_loop (by
    rw [Around.under_plainId plain_eq_loop _]
    exact again_)⟩
theorem list_nnN {l b : Addr} {xs ys : Array Value} {n n2 : Nat} {s : Shared} (ga : s.heap.get? l = some { cls := .type "list", data := .seq xs n }) (gb : s.heap.get? b = some { cls := .type "list", data := .seq ys n2 }) (hs : xs.size ≠ ys.size)
    (no : ∀ tk, R (.ok (.ret (.bool true))) { s with toks := tk }) :
    wpAny (model prog w) A.in1 (Builtin.«list.__ne__» ⟨[.ref l, .ref b], []⟩) (GQ.FinOf prog w A R) (fun e s' => R (.error e) s') s := by
  obtain ⟨hp, g, dd, tk, os⟩ := s
  have f3 := AutoSeq1.sub_list_list
  have hne : (xs.size != ys.size) = true := by simp [hs]
  wp_walk using wpAny_loadPart' ga, wpAny_loadPart' gb
  exact no _
theorem rcn_listB {E : Value → Shared → Prop} {s : Shared} {l b : Addr} {N : Nat} {d : Nat → Bool} {Q : Value → Shared → Prop} (hu : A.units < cLine) (I : Nat → Shared → Prop) (hl : ListB prog w A E l b N d I)
    (fin : ∀ s, I N s → (∀ i, i < N → d i = true) → Q (.bool false) s) (no : ∀ i s, I (i + 1) s → i < N → d i = false → Q (.bool true) s) (h : I 0 s) : wpAny (model prog w) A (richCompare .NotEq (.ref l) (.ref b)) Q E s := by
  obtain ⟨xs, ys, n, n2, ga, gb, _, _, _⟩ := hl _ _ h
  refine wpAny_richCompare_same_room (op := .NotEq) ⟨_, ga, rfl⟩ ⟨_, gb, rfl⟩ F.slot_list_ne (GQ.call_here F.slot_list_ne ⟨_, ga, rfl⟩ F.entry_list_ne (F.args_list_ne_2 _ _) ?_) hu
  exact list_neB (R := wants (fun v s' => v ≠ .notImplemented ∧ Q v s') E) l b N d I hl (fun s' q a => ⟨(fun x => nomatch x), fin s' q a⟩) (fun i s' q a e => ⟨(fun x => nomatch x), no i s' q a e⟩) h
theorem rcn_listN {E : Value → Shared → Prop} {s : Shared} {l b : Addr} {xs ys : Array Value} {n n2 : Nat} {Q : Value → Shared → Prop} (hu : A.units < cLine) (ga : s.heap.get? l = some { cls := .type "list", data := .seq xs n }) (gb : s.heap.get? b = some { cls := .type "list", data := .seq ys n2 })
    (hs : xs.size ≠ ys.size) (no : ∀ tk, Q (.bool true) { s with toks := tk }) : wpAny (model prog w) A (richCompare .NotEq (.ref l) (.ref b)) Q E s := by
  refine wpAny_richCompare_same_room (op := .NotEq) ⟨_, ga, rfl⟩ ⟨_, gb, rfl⟩ F.slot_list_ne (GQ.call_here F.slot_list_ne ⟨_, ga, rfl⟩ F.entry_list_ne (F.args_list_ne_2 _ _) ?_) hu
  exact list_nnN (R := wants (fun v s' => v ≠ .notImplemented ∧ Q v s') E) ga gb hs fun tk => ⟨(fun x => nomatch x), no tk⟩
end
section
variable {X : Cx} {CX : CXT} {k : Nat} {f C : Addr} {fd : FuncData} {ps : List Str}
def gNeL (C : Addr) (ks : List Str) (sp : DSp) (eqd : D → D → Bool) : G2 := fun x y μ Q => gEqL C ks sp eqd x y μ fun v μ' => v.toB fun b => Q (.bl (!b)) μ'
theorem o_neL {K : PySem.W.Frag} {ks : List Str} {sp : DSp} (eqd : D → D → Bool) (F : FnOk X.prog X.w X.K X.mg X.base CX k f fd ps (lift K sp)) (hr : Room (k + 2) X.A) (o : OwnC K C) (cl : Cls K C) (hm : Meth K C "__eq__" f) (hb : Binds X.K fd ps []) (hx : Passes CX X E0) (hK : X.K = K := by rfl) :
    DOp X (compareOp .NotEq) (rL K (gNeL C ks sp eqd)) (gNeL C ks sp eqd) := by
 subst hK
 refine ⟨?_, fun {x y dx dy H μ Q Q'} c r1 r2 d q => ⟨dx, dy, μ, Q', c, r1, r2, d, q⟩⟩
 intro pins s σ H x y v u Q I rx ry hq
 obtain ⟨dx, dy, μ, Q', c, r1, r2, d, q⟩ := hq
 obtain ⟨xs, ex, d⟩ := toL_inv d
 obtain ⟨ys, ey, hxs, hys, hrf, hsp, d⟩ := toL_inv d
 obtain ⟨a, vs, rfl, ha, ra⟩ := rd_lst c r1 ex
 obtain ⟨b, ws, rfl, hb', rb⟩ := rd_lst c r2 ey
 cases rx
 cases ry
 show wpAny _ X.A (richCompare .NotEq _ _) _ _ _
 obtain ⟨_, its, n, rv, ea⟩ := (show ObjOk X.prog X.w H s.heap a (.lst vs) from I.hok a _ ha)
 obtain ⟨_, its2, n2, rw2, eb⟩ := (show ObjOk X.prog X.w H s.heap b (.lst ws) from I.hok b _ hb')
 have dd0 : ∀ (i : Nat) (x y : D), xs[i]? = some x → ys[i]? = some y → (match xs[i]?, ys[i]? with | some x, some y => eqd x y | _, _ => true) = eqd x y := fun i x y h1 h2 => by rw [h1, h2]
 by_cases hs : xs.length = ys.length
 · rw [decide_eq_true hs, Bool.true_and] at d
   refine rcn_listB (N := xs.length) (d := fun i => match xs[i]?, ys[i]? with | some x, some y => eqd x y | _, _ => true) hr.units0 (fun _ s' => ∃ H', L2.Inv X pins σ H' s' ∧ Then X.K H μ H' μ) (fun i s' ⟨H1, I1, t1⟩ => ?_) (fun s' ⟨H', I', t'⟩ al => ?_) (fun i s' ⟨H', I', t'⟩ hi hd => ?_) ⟨H, I, .refl c⟩
   · obtain ⟨a', vs', h1, ha', ra'⟩ := rd_lst t1.cells (r1.grow t1.g) ex
     cases h1
     obtain ⟨b', ws', h2, hb'', rb'⟩ := rd_lst t1.cells (r2.grow t1.g) ey
     cases h2
     obtain ⟨_, jt, m, qv, fa⟩ := (show ObjOk X.prog X.w H1 s'.heap a (.lst vs') from I1.hok a _ ha')
     obtain ⟨_, jt2, m2, qw, fb⟩ := (show ObjOk X.prog X.w H1 s'.heap b (.lst ws') from I1.hok b _ hb'')
     have sa : jt.toArray.size = xs.length := by rw [List.size_toArray, ← qv.length, ra'.length]
     have sb : jt2.toArray.size = xs.length := by rw [List.size_toArray, ← qw.length, rb'.length, hs]
     refine ⟨jt.toArray, jt2.toArray, m, m2, fa, fb, sa, sb, fun h1 h2 => ?_⟩
     have i1 : i < xs.length := sa ▸ h1
     have i2 : i < ys.length := hs ▸ i1
     obtain ⟨v1, g1, R1⟩ := ra'.get (List.getElem?_eq_getElem i1)
     obtain ⟨v2, g2, R2⟩ := rb'.get (List.getElem?_eq_getElem i2)
     obtain ⟨u1, k1, U1⟩ := qv.get g1
     obtain ⟨u2, k2, U2⟩ := qw.get g2
     have j1 : i < jt.length := by simpa using h1
     have j2 : i < jt2.length := by simpa using h2
     rw [List.getElem?_eq_getElem j1] at k1
     rw [List.getElem?_eq_getElem j2] at k2
     have w1 : jt.toArray[i] = u1 := by simpa using k1
     have w2 : jt2.toArray[i] = u2 := by simpa using k2
     rw [w1, w2]
     have mx : xs[i] ∈ xs := List.getElem_mem i1
     have my : ys[i] ∈ ys := List.getElem_mem i2
     have de : (match xs[i]?, ys[i]? with | some x, some y => eqd x y | _, _ => true) = eqd xs[i] ys[i] := dd0 i _ _ (List.getElem?_eq_getElem i1) (List.getElem?_eq_getElem i2)
     obtain ⟨zs, ez, uz⟩ := hxs _ mx
     obtain ⟨zt, et, ut⟩ := hys _ my
     obtain ⟨p1, dx1, fs1, rfl, _, hp1, _, _⟩ := (ez ▸ R1).ins_inv
     obtain ⟨p2, dx2, fs2, rfl, _, hp2, _, _⟩ := (et ▸ R2).ins_inv
     cases U1
     cases U2
     by_cases pp : p1 = p2
     · subst pp
       have ee : xs[i] = ys[i] := uq_eq _ _ (by rw [ez]; exact uz) (by rw [et]; exact ut) R1 R2
       exact SeqAt.EqAt.same (A := X.A.in1) (s := s') (.ref p1) X.prog X.w X.xe _ ⟨(de.trans (by rw [← ee]; exact hrf _ mx)).symm, H1, I1, t1⟩
     · refine GQ.eqBool_refG pp (wpAny_mono (rc_own F o hm hb hx (A' := X.A.in1) ((hr.in1).mono (Nat.le_succ _)) rfl I1 hp1 (y := .ref p2) rfl (t := .ref C) (.base (.ins hp2 cl o.ha o.hn o.htk o.hm)) (by simp [PySem.W.notFirst])
         (Q := fun b H' => b = eqd xs[i] ys[i] ∧ Then X.K H μ H' μ)
         ⟨[xs[i], ys[i]], μ, fun z μ' => z = .bl (eqd xs[i] ys[i]) ∧ μ' = μ, noX, .cons R1 (.one R2), t1.cells, hsp _ mx _ my _ _ ⟨rfl, rfl⟩, fun v z H' μ' t r e => ?_, xr_no⟩) (fun r s2 hr2 => ?_) fun _ _ x => x)
       · obtain ⟨e1, e2⟩ := e
         subst e1; subst e2
         exact ⟨_, r.bl_inv, rfl, t1.trans t⟩
       · obtain ⟨bb, H2, rfl, I2, e1, t2⟩ := hr2
         exact ⟨bb, rfl, by rw [e1]; exact de.symm, H2, I2, t2⟩
   · have e : (xs.zip ys).all (fun p => eqd p.1 p.2) = true := by
       rw [List.all_eq_true]
       intro p hp
       obtain ⟨i, hi⟩ := List.mem_iff_getElem?.mp hp
       rw [List.getElem?_zip_eq_some] at hi
       have := al i (List.getElem?_eq_some_iff.mp hi.1).1
       rwa [dd0 i _ _ hi.1 hi.2] at this
     rw [e] at d
     exact ⟨.bl false, H', I', rfl, q _ _ _ _ t' (.bl false) d⟩
   · have i2 : i < ys.length := hs ▸ hi
     have e : (xs.zip ys).all (fun p => eqd p.1 p.2) = false := by
       rw [← Bool.not_eq_true, List.all_eq_true]
       intro al
       have := al (xs[i], ys[i]) (List.mem_of_getElem? (i := i) (List.getElem?_zip_eq_some.mpr ⟨List.getElem?_eq_getElem hi, List.getElem?_eq_getElem i2⟩))
       rw [dd0 i _ _ (List.getElem?_eq_getElem hi) (List.getElem?_eq_getElem i2)] at hd
       rw [hd] at this
       cases this
     rw [e] at d
     exact ⟨.bl true, H', I', rfl, q _ _ _ _ t' (.bl true) d⟩
 · rw [decide_eq_false hs, Bool.false_and] at d
   refine rcn_listN hr.units0 ea eb (by rw [List.size_toArray, List.size_toArray, ← rv.length, ← rw2.length, ra.length, rb.length]; exact hs) fun tk => ⟨.bl true, H, I.tok tk, rfl, q _ _ _ _ (.refl c) (.bl true) d⟩
end
end Dl

set_option Elab.async false
set_option linter.all false
set_option maxRecDepth 100000
/-! a lambda handed over; steps as equations -/
namespace Dl
open PySem PySem.Spec PyProof.Rows L2 Ms LamX
theorem de_lamcall {X : Cx} {E : XK} {TL : List (Addr × Str)} {B : DTE → DTS} {x a : Str} {g c P : Addr} {k : Nat} {pg : Arguments} {bg : List Stmt} {sg : Scope} {dV kV doc pm cdv ct oc : Value} {an od : Option Addr} {osl : Array (Option Value)} {Ng : List Str}
    {params : Arguments} {body : Expr} {scope : Scope} {t : XK → TE} {db : DTE} {p lpos pos : Pos} (hg : Gl X x) (hm : X.mg x = some (.ref g)) (hk : PySem.W.keepIn X.K (.ref g) = true)
    (lk : X.K.lookup g = some ⟨oc, od, .func (PySem.W.fnOf x x pg bg sg dV kV doc pm an cdv ct), osl⟩) (hcg : PySem.W.codeIn X.K cdv x = true) (hb : L2.Binds X.K (PySem.W.fnOf x x pg bg sg dV kV doc pm an cdv ct) [a] []) (Sg : FnScope Ng [a] sg) (hNg : Ng[0]? = some a) (hva : Vis sg a)
    (hG : GivesTo X Ng x sg g cdv bg a (X.env.qual ++ "<lambda>") (TTd X.K Ng B))
    (tb : TabB X.base X.mg c P) (hcode : X.env.code = .ref c) (hmT : (P, X.env.qual ++ "<lambda>") ∈ TL) (hu : ∀ p ∈ TL, p.1 = P → p.2 = X.env.qual ++ "<lambda>") (hr : Room (k + 2) X.A) (L : LamS X.env.scope scope) (hdef : defaultsOf params X.env = ([], []))
    (hbind : ∀ (q : Str) (cl : List (Str × Addr)) (pm cv ctv : Value), bindArgs (PySem.W.kla_fn "<lambda>" q params body scope cl pm cv ctv) ⟨[], []⟩ = pure [])
    (bd : ∀ (A : Around) (outer : List PySem.Env) (s : Shared) (H : Hp) (E : XK) (f c' : Addr), Room k (A.deeper (lamEnv X scope s.heap.objs.size f c')) → DE (lamCx X A outer s H E scope f c') E body (t E) db)
    (hdb : (x == ("__debug__" : Str)) = false := by decide) (hd : (a == ("__debug__" : Str)) = false := by decide) (hcd : (a == ("__classdict__" : Str)) = false := by decide) :
    DE X E (.Call (.Name x p) [.Lambda params body scope lpos] [] pos) (tLam TL (TTd X.K Ng B) t) (dLam TL Ng B db) :=
  ⟨pe_lamcall hg hm hk lk hcg hb Sg hNg hva hG tb hcode hmT hu hr L hdef hbind (fun A outer s H E f c' r => (bd A outer s H E f c' r).pe) hdb hd hcd,
   se_lam fun Ec => (bd X.A [] {} (fun _ => none) Ec 0 0 ((hr.mono (Nat.le_succ _)).deeper _)).sn⟩
theorem lamS {sc scope : Scope} (a : scope.kind = ScopeKind.function := by rfl) (b : scope.isCoroutine = false := by rfl) (c : scope.isGenerator = false := by rfl) (d : scope.names.all (fun y => y.2 != .local && y.2 != .cell) = true := by decide +kernel)
    (e : scope.names.all (fun y => y.2 != .free || sc.names.lookup y.1 == some .cell || sc.names.lookup y.1 == some .free) = true := by decide +kernel) : LamS sc scope := by
  refine ⟨a, b, c, fun y hy => ?_, fun y hy hf => ?_⟩
  · have := List.all_eq_true.mp d y hy
    simpa using this
  · have := List.all_eq_true.mp e y hy
    rw [hf] at this
    simpa using this
/-! steps as equations -/
theorem disp_yes {K : PySem.W.Frag} {n : Nat} {E : DX} {F : DEnds} {c : Value} {i : Option Nat} {dc : Addr → Addr → Addr → DTS} {r : List DCls} {C : Addr} {f : Str} {x : D} {μ : Mu} (h : PySem.W.exmOne K (.ref C) c = some true) :
    disp K n E F ((c, i, dc) :: r) C f x μ = ∀ a dd, dc a C dd noX (offD i F) (setD i (List.replicate n none) (.exc a C dd f x)) μ :=
  propext ⟨fun ⟨b, e, y, _⟩ => by rw [h] at e; cases e; exact y rfl, fun g => ⟨true, h, fun _ => g, fun z => by cases z⟩⟩
theorem disp_no {K : PySem.W.Frag} {n : Nat} {E : DX} {F : DEnds} {c : Value} {i : Option Nat} {dc : Addr → Addr → Addr → DTS} {r : List DCls} {C : Addr} {f : Str} {x : D} {μ : Mu} (h : PySem.W.exmOne K (.ref C) c = some false) :
    disp K n E F ((c, i, dc) :: r) C f x μ = disp K n E F r C f x μ :=
  propext ⟨fun ⟨b, e, _, y⟩ => by rw [h] at e; cases e; exact y rfl, fun g => ⟨false, h, (fun z => by cases z), fun _ => g⟩⟩
theorem sTry_p (K : PySem.W.Frag) (n : Nat) (cl : List DCls) (body : DTS) : ∀ E D δ μ, Dl.sTry K n cl body E D δ μ = body (disp K n E D cl) D δ μ := fun _ _ _ _ => Eq.trans (Eq.symm (Eq.refl _)) (Eq.refl _)
theorem offD_some {i a b c d} : offD (some i) ⟨a, b, c, d⟩ = { nx := fun δ μ => a (δ.set i none) μ, rt := b, bk := fun δ μ => c (δ.set i none) μ, ct := fun δ μ => d (δ.set i none) μ } := Eq.trans (Eq.symm (Eq.refl _)) (Eq.refl _)
theorem offD_none {F} : offD none F = F := Eq.trans (Eq.symm (Eq.refl _)) (Eq.refl _)
theorem setD_some {i δ x} : setD (some i) δ x = δ.set i (some x) := Eq.trans (Eq.symm (Eq.refl _)) (Eq.refl _)
theorem setD_none {δ x} : setD none δ x = δ := Eq.trans (Eq.symm (Eq.refl _)) (Eq.refl _)
theorem dExc_p (i : Nat) (a C dd : Addr) (f : Str) : ∀ E δ μ Q, Dl.dExc i a C dd f E δ μ Q = (match δ[i]? with | some (some (.exc a' C' dd' f' x)) => a' = a ∧ C' = C ∧ dd' = dd ∧ f' = f ∧ Q x μ | _ => False) := fun _ _ _ _ => Eq.trans (Eq.symm (Eq.refl _)) (Eq.refl _)
theorem dAsk_cons {f c q σ δ0 db E r μ Q} : dAsk f c q σ δ0 db E (some (.lam f c q σ δ0) :: r) μ Q = db E δ0 μ Q := propext ⟨fun h => h.2, fun h => ⟨rfl, h⟩⟩
theorem dLam_p (TL : List (Addr × Str)) (N : List Str) (B : DTE → DTS) (db : DTE) : ∀ E δ μ Q, dLam TL N B db E δ μ Q = (TB TL μ ∧ ∀ f c q σ, B (dAsk f c q σ δ db) noX { nx := fun _ μ' => Q .non μ', rt := Q } (startD N [.lam f c q σ δ]) μ) := fun _ _ _ _ => Eq.trans (Eq.symm (Eq.refl _)) (Eq.refl _)
theorem gLenO_p (C : Addr) (ks : List Str) (sp : DSp) : ∀ ds μ Q, gLenO C ks sp ds μ Q = (one ds fun x => insOf C ks (rd μ x) ∧ sp [x] μ (fun v μ' => v.toI fun n => 0 ≤ n ∧ n < 2 ^ 63 ∧ Q (.int n) μ') noX) := fun _ _ _ => Eq.trans (Eq.symm (Eq.refl _)) (Eq.refl _)
theorem gMaxDf_p (a d : DTE) : ∀ E δ μ Q, gMaxDf a d E δ μ Q = (a E δ μ fun x μ1 => d E δ μ1 fun y μ2 => (rd μ2 x).toL fun ys => y.toI fun k => match asI ys with | some ns => Q (.int (maxDf k ns)) μ2 | none => False) := fun _ _ _ _ => Eq.trans (Eq.symm (Eq.refl _)) (Eq.refl _)
theorem gEqL_p (C : Addr) (ks : List Str) (sp : DSp) (eqd : D → D → Bool) : ∀ x y μ Q, gEqL C ks sp eqd x y μ Q = ((rd μ x).toL fun xs => (rd μ y).toL fun ys => (∀ a ∈ xs, insW C ks a) ∧ (∀ b ∈ ys, insW C ks b) ∧ (∀ a ∈ xs, eqd a a = true) ∧
  (∀ a ∈ xs, ∀ b ∈ ys, ∀ (Q' : DK) (E' : DX), Q' (.bl (eqd a b)) μ → sp [a, b] μ Q' E') ∧ Q (.bl (decide (xs.length = ys.length) && (xs.zip ys).all fun p => eqd p.1 p.2)) μ) := fun _ _ _ _ => Eq.trans (Eq.symm (Eq.refl _)) (Eq.refl _)
theorem gNeL_p (C : Addr) (ks : List Str) (sp : DSp) (eqd : D → D → Bool) : ∀ x y μ Q, gNeL C ks sp eqd x y μ Q = ((rd μ x).toL fun xs => (rd μ y).toL fun ys => (∀ a ∈ xs, insW C ks a) ∧ (∀ b ∈ ys, insW C ks b) ∧ (∀ a ∈ xs, eqd a a = true) ∧
  (∀ a ∈ xs, ∀ b ∈ ys, ∀ (Q' : DK) (E' : DX), Q' (.bl (eqd a b)) μ → sp [a, b] μ Q' E') ∧ Q (.bl (!(decide (xs.length = ys.length) && (xs.zip ys).all fun p => eqd p.1 p.2))) μ) := fun _ _ _ _ => Eq.trans (Eq.symm (Eq.refl _)) (Eq.refl _)
theorem gMaxL_lst (ns : List Int) : ∀ μ Q, gMaxL [.lst (ns.map .int)] μ Q = (0 < ns.length ∧ ∀ m, m ∈ ns → (∀ y, y ∈ ns → y ≤ m) → Q (.int m) μ) := fun μ Q => by
  show (match asI (ns.map .int) with | some ns => 0 < ns.length ∧ ∀ m, m ∈ ns → (∀ y, y ∈ ns → y ≤ m) → Q (.int m) μ | none => False) = _
  rw [asI_map]
end Dl

set_option Elab.async false
set_option linter.all false
set_option maxRecDepth 100000
/-! loops and comprehensions over rows of Lean's own things -/
namespace Dl
open PySem PySem.Spec PyProof.Rows L2
section
variable {α : Type} {g : DTG} {b : DTS} {E : DX} {F : DEnds} {C : Mu → Prop} {δ : Sl} {μ : Mu}
theorem forL_of (l : List α) (gx : α → D) (P : Nat → Sl → Mu → Prop) (h0 : P 0 δ μ) (hC : ∀ i δ μ, P i δ μ → C μ)
    (hs : ∀ (i : Nat) (a : α) δ μ (k : Sl → Mu → Prop), l[i]? = some a → P i δ μ → (∀ δ' μ', P (i + 1) δ' μ' → k δ' μ') → g (gx a) δ μ fun δ2 μ2 => b E { F with nx := k, ct := k, bk := F.nx } δ2 μ2)
    (hd : ∀ δ μ, P l.length δ μ → F.nx δ μ) : forL g b E F C (l.map gx) δ μ :=
  forL_inv P h0 hC (fun i x δ μ k hx p nx => by
    rw [List.getElem?_map] at hx
    cases e : l[i]? with
    | none => rw [e] at hx; cases hx
    | some a => rw [e] at hx; cases hx; exact hs i a δ μ k e p nx) (fun δ μ p => hd δ μ (by rw [List.length_map] at p; exact p))
theorem forL_en (l : List α) (gx : α → D) (P : Nat → Sl → Mu → Prop) (h0 : P 0 δ μ) (hC : ∀ i δ μ, P i δ μ → C μ)
    (hs : ∀ (i : Nat) (a : α) δ μ (k : Sl → Mu → Prop), l[i]? = some a → P i δ μ → (∀ δ' μ', P (i + 1) δ' μ' → k δ' μ') → g (.tup [.int (i : Nat), gx a]) δ μ fun δ2 μ2 => b E { F with nx := k, ct := k, bk := F.nx } δ2 μ2)
    (hd : ∀ δ μ, P l.length δ μ → F.nx δ μ) : forL g b E F C (enumD (l.map gx)) δ μ :=
  forL_inv P h0 hC (fun i x δ μ k hx p nx => by
    rw [enumD_get, List.getElem?_map] at hx
    cases e : l[i]? with
    | none => rw [e] at hx; cases hx
    | some a => rw [e] at hx; cases hx; exact hs i a δ μ k e p nx) (fun δ μ p => hd δ μ (by rw [enumD_len, List.length_map] at p; exact p))
/-- range(n) -/
theorem forL_rng (n : Nat) (P : Nat → Sl → Mu → Prop) (h0 : P 0 δ μ) (hC : ∀ i δ μ, P i δ μ → C μ)
    (hs : ∀ i δ μ (k : Sl → Mu → Prop), i < n → P i δ μ → (∀ δ' μ', P (i + 1) δ' μ' → k δ' μ') → g (.int (i : Nat)) δ μ fun δ2 μ2 => b E { F with nx := k, ct := k, bk := F.nx } δ2 μ2)
    (hd : ∀ δ μ, P n δ μ → F.nx δ μ) : forL g b E F C (rngD 0 n) δ μ :=
  forL_inv P h0 hC (fun i x δ μ k hx p nx => by
    unfold rngD at hx
    rw [List.getElem?_map] at hx
    cases e : (List.range n)[i]? with
    | none => rw [e] at hx; cases hx
    | some a =>
      rw [e] at hx
      obtain ⟨h1, h2⟩ := List.getElem?_eq_some_iff.mp e
      rw [List.getElem_range] at h2
      subst h2
      rw [List.length_range] at h1
      have hx : some (D.int (0 + (i : Int))) = some x := hx
      rw [Int.zero_add] at hx
      cases hx
      exact hs i δ μ k h1 p nx) (fun δ μ p => hd δ μ (by rw [rngD_len] at p; exact p))
end
section
variable {α β : Type} {g : DTG} {tt : DTT} {te : DTE} {δ : Sl} {L : Addr} {C : Mu → Prop} {k : List D → Mu → Prop} {μ : Mu}
/-- each thing is made of one -/
theorem lcL_of (l : List α) (gx : α → D) (f : α → D) (hl : l.length ≤ 16777216) (hC : ∀ μ', Off L μ μ' → C μ')
    (hs : ∀ (i : Nat) (a : α) (μ' : Mu) (c : Option D → Mu → Prop), l[i]? = some a → Off L μ μ' → c (some (f a)) μ' → lcStep g tt te δ (gx a) μ' c) (hd : k (l.map f) (mup μ L (.lst (l.map f)))) : lcL g tt te δ L C k (l.map gx) [] (mup μ L (.lst [])) := by
  refine lcL_inv (fun i acc => acc = (l.take i).map f) rfl (by rw [List.length_map]; exact hl) hC (fun i x acc μ' c hx p ha h1 h2 hm => ?_) (fun acc p _ => ?_)
  · subst p
    rw [List.getElem?_map] at hx
    cases e : l[i]? with
    | none => rw [e] at hx; cases hx
    | some a =>
      rw [e] at hx
      cases hx
      refine hs i a μ' c e hm (h1 _ ?_)
      rw [List.take_add_one, e, List.map_append]
      rfl
  · rw [List.length_map, List.take_length] at p
    subst p
    exact hd
/-- with the numbers -/
theorem lcL_en (l : List α) (gx : α → D) (f : Nat → α → D) (hl : l.length ≤ 16777216) (hC : ∀ μ', Off L μ μ' → C μ')
    (hs : ∀ (i : Nat) (a : α) (μ' : Mu) (c : Option D → Mu → Prop), l[i]? = some a → Off L μ μ' → c (some (f i a)) μ' → lcStep g tt te δ (.tup [.int (i : Nat), gx a]) μ' c) (hd : k (l.zipIdx.map fun p => f p.2 p.1) (mup μ L (.lst (l.zipIdx.map fun p => f p.2 p.1)))) : lcL g tt te δ L C k (enumD (l.map gx)) [] (mup μ L (.lst [])) := by
  have e : enumD (l.map gx) = l.zipIdx.map fun p => .tup [.int (p.2 : Nat), gx p.1] := by
    unfold enumD
    rw [List.zipIdx_map, List.map_map]
    rfl
  rw [e]
  refine lcL_of l.zipIdx _ _ (by rw [List.length_zipIdx]; exact hl) hC (fun i a μ' c ha o h => ?_) hd
  rw [List.getElem?_zipIdx] at ha
  cases e : l[i]? with
  | none => rw [e] at ha; cases ha
  | some x =>
    rw [e] at ha
    have ha : some (x, 0 + i) = some a := ha
    rw [Nat.zero_add] at ha
    cases ha
    exact hs i x μ' c e o h
/-- some are left out -/
theorem lcL_filt (l : List α) (gx : α → D) (f : α → Option β) (fx : β → D) (hl : l.length ≤ 16777216) (hC : ∀ μ', Off L μ μ' → C μ')
    (hs : ∀ (i : Nat) (a : α) (μ' : Mu) (c : Option D → Mu → Prop), l[i]? = some a → Off L μ μ' → c ((f a).map fx) μ' → lcStep g tt te δ (gx a) μ' c) (hd : k ((l.filterMap f).map fx) (mup μ L (.lst ((l.filterMap f).map fx)))) : lcL g tt te δ L C k (l.map gx) [] (mup μ L (.lst [])) := by
  refine lcL_inv (fun i acc => acc = ((l.take i).filterMap f).map fx) rfl (by rw [List.length_map]; exact hl) hC (fun i x acc μ' c hx p ha h1 h2 hm => ?_) (fun acc p _ => ?_)
  · subst p
    rw [List.getElem?_map] at hx
    cases e : l[i]? with
    | none => rw [e] at hx; cases hx
    | some a =>
      rw [e] at hx
      cases hx
      refine hs i a μ' c e hm ?_
      have e2 : (l.take (i + 1)).filterMap f = (l.take i).filterMap f ++ (f a).toList := by
        rw [List.take_add_one, e, List.filterMap_append]
        cases h : f a <;> simp [h]
      cases h : f a with
      | none => rw [h] at e2; exact h2 (by rw [e2]; simp)
      | some y => rw [h] at e2; exact h1 _ (by rw [e2]; simp)
  · rw [List.length_map, List.take_length] at p
    subst p
    exact hd
/-- some, whichever -/
theorem lcL_some (l : List α) (gx : α → D) (fx : α → D) (hl : l.length ≤ 16777216) (hC : ∀ μ', Off L μ μ' → C μ')
    (hs : ∀ (i : Nat) (a : α) (μ' : Mu) (c : Option D → Mu → Prop), l[i]? = some a → Off L μ μ' → c (some (fx a)) μ' → c none μ' → lcStep g tt te δ (gx a) μ' c) (hd : ∀ m : List α, m.Sublist l → k (m.map fx) (mup μ L (.lst (m.map fx)))) : lcL g tt te δ L C k (l.map gx) [] (mup μ L (.lst [])) := by
  refine lcL_inv (fun i acc => ∃ m : List α, m.Sublist (l.take i) ∧ acc = m.map fx) ⟨[], .slnil, rfl⟩ (by rw [List.length_map]; exact hl) hC (fun i x acc μ' c hx p ha h1 h2 hm => ?_) (fun acc p _ => ?_)
  · obtain ⟨m, hsub, rfl⟩ := p
    rw [List.getElem?_map] at hx
    cases e : l[i]? with
    | none => rw [e] at hx; cases hx
    | some a =>
      rw [e] at hx
      cases hx
      have et : l.take (i + 1) = l.take i ++ [a] := by rw [List.take_add_one, e]; rfl
      refine hs i a μ' c e hm (h1 _ ⟨m ++ [a], by rw [et]; exact hsub.append (.refl _), by rw [List.map_append]; rfl⟩) (h2 ⟨m, by rw [et]; exact hsub.trans (List.sublist_append_left _ _), rfl⟩)
  · obtain ⟨m, hsub, rfl⟩ := p
    rw [List.length_map, List.take_length] at hsub
    exact hd m hsub
/-- things that are drawn -/
theorem lcL_drawn (Pr : β → Prop) (fx : β → D) {xs : List D} (hl : xs.length ≤ 16777216) (hC : ∀ μ', Off L μ μ' → C μ')
    (hs : ∀ x ∈ xs, ∀ (μ' : Mu) (c : Option D → Mu → Prop), Off L μ μ' → (∀ y, Pr y → c (some (fx y)) μ') → lcStep g tt te δ x μ' c) (hd : ∀ m : List β, m.length = xs.length → (∀ y ∈ m, Pr y) → k (m.map fx) (mup μ L (.lst (m.map fx)))) : lcL g tt te δ L C k xs [] (mup μ L (.lst [])) := by
  refine lcL_draw (fun y => ∃ z, y = fx z ∧ Pr z) hl hC (fun x hx μ' c o h => hs x hx μ' c o fun y hy => h _ ⟨y, rfl, hy⟩) (fun acc hn ha => ?_)
  have : ∀ {acc : List D}, (∀ y ∈ acc, ∃ z, y = fx z ∧ Pr z) → ∃ m : List β, acc = m.map fx ∧ ∀ y ∈ m, Pr y := by
    intro acc
    induction acc with
    | nil => exact fun _ => ⟨[], rfl, fun _ h => nomatch h⟩
    | cons y r ih =>
      intro h
      obtain ⟨m, rfl, hm⟩ := ih fun z hz => h z (.tail _ hz)
      obtain ⟨z, rfl, hz⟩ := h y (.head _)
      exact ⟨z :: m, rfl, fun w hw => by rcases List.mem_cons.mp hw with rfl | hw; exact hz; exact hm w hw⟩
  obtain ⟨m, rfl, hm⟩ := this ha
  exact hd m (by rw [List.length_map] at hn; exact hn) hm
end
theorem asS_of {α : Type} (f : α → List Nat) (l : List α) : asS (l.map fun x => .str (f x)) = some (l.map f) := by
  have := asS_map (l.map f)
  rw [List.map_map] at this
  exact this
theorem asI_of {α : Type} (f : α → Int) (l : List α) : asI (l.map fun x => .int (f x)) = some (l.map f) := by
  have := asI_map (l.map f)
  rw [List.map_map] at this
  exact this
theorem asB_of {α : Type} (f : α → Bool) (l : List α) : asB (l.map fun x => .bl (f x)) = some (l.map f) := by
  have := asB_map (l.map f)
  rw [List.map_map] at this
  exact this
theorem gLenL_of {μ : Mu} {d : D} {xs : List D} {Q : DK} (h : rd μ d = .lst xs) : gLenL [d] μ Q = Q (.int (xs.length : Nat)) μ := by
  show (match rd μ d with | .lst xs => Q (.int (xs.length : Nat)) μ | .tup xs => Q (.int (xs.length : Nat)) μ | _ => False) = _
  rw [h]
/-- a loop that may be left -/
theorem forL_brk {α : Type} {g : DTG} {b : DTS} {E : DX} {F : DEnds} {C : Mu → Prop} {δ : Sl} {μ : Mu} (l : List α) (gx : α → D) (P : Nat → Sl → Mu → Prop) (R : Sl → Mu → Prop) (h0 : P 0 δ μ) (hC : ∀ i δ μ, P i δ μ → C μ)
    (hN : ∀ δ μ, R δ μ → F.nx δ μ)
    (hs : ∀ (i : Nat) (a : α) δ μ (k z : Sl → Mu → Prop), l[i]? = some a → P i δ μ → (∀ δ' μ', P (i + 1) δ' μ' → k δ' μ') → (∀ δ' μ', R δ' μ' → z δ' μ') → g (gx a) δ μ fun δ2 μ2 => b E { F with nx := k, ct := k, bk := z } δ2 μ2)
    (hd : ∀ δ μ, P l.length δ μ → R δ μ) : forL g b E F C (l.map gx) δ μ :=
  forL_of l gx P h0 hC (fun i a δ μ k hx p nx => hs i a δ μ k F.nx hx p nx hN) (fun δ μ p => hN δ μ (hd δ μ p))
end Dl

set_option Elab.async false
set_option linter.all false
set_option maxRecDepth 100000
/-! {True: e}.get(c) -/
namespace Dl
open PySem PySem.Spec PyProof.Rows L2
def tTruGet (te tc : TE) : TE := fun σ H Q => te σ H fun v H1 => tc σ H1 fun y H2 => ∃ b, y = .bl b ∧ Q (if b then v else .non) H2
def dTruGet (de dc : DTE) : DTE := fun E δ μ Q => de E δ μ fun x μ1 => dc E δ μ1 fun y μ2 => y.toB fun b => Q (if b then x else .non) μ2
theorem dTruGet_p (de dc : DTE) : ∀ E δ μ Q, Dl.dTruGet de dc E δ μ Q = (de E δ μ fun x μ1 => dc E δ μ1 fun y μ2 => y.toB fun b => Q (if b then x else .non) μ2) := fun _ _ _ _ => Eq.trans (Eq.symm (Eq.refl _)) (Eq.refl _)
section
variable {X : Cx} {E : XK} {e c : Expr} {te tc : TE} {dee dc : DTE} {kp dp apos cpos : Pos} {j : Nat}
theorem pe_truGet (he : PE X e te) (hc : PE X c tc) (m : M1 X (.Dict [some (.Constant (.bool true) j kp)] [e] dp) "get" apos c cpos) :
    PE X (.Call (.Attribute (.Dict [some (.Constant (.bool true) j kp)] [e] dp) "get" apos) [c] [] cpos) (tTruGet te tc) := by
  refine ⟨fun pins s σ H Q I h => ?_⟩
  have hn := I.hok.fresh (Nat.le_refl s.heap.objs.size)
  have hd : (s.heap.objs.size == sysModules) = false := beq_eq_false_iff_ne.mpr (Nat.ne_of_gt I.big)
  obtain ⟨_, f1, f2, f3, f4, f5⟩ := I.fpOk (H' := H) (Nat.le_refl _) hn
  have e0 : (s.heap.push { cls := .type "dict", data := .dict #[] }).get? s.heap.objs.size = some { cls := .type "dict", data := .dict #[] } := Heap.get?_push_size _ rfl
  have I0 : Inv X pins σ H { s with heap := s.heap.push { cls := .type "dict", data := .dict #[] }, toks := s.toks } := I.kept fun b u q => Heap.get?_push_of_some _ q
  have I1 := I0.pinned (fp := [s.heap.objs.size]) (fun b hb => by rw [List.mem_singleton.mp hb]; exact ⟨hn, f1, f2, f3, f4, f5⟩) (fun b hb => by rw [List.mem_singleton.mp hb]; exact ⟨_, e0, fun _ z => by cases z⟩)
  have mp1 := mem_pinsAt (fp := [s.heap.objs.size]) (List.mem_singleton.mpr rfl) e0
  refine wpAny_Call_method m.base m.few m.line PySem.F.plainAttrs_dict PySem.F.slot_dict_get PySem.F.type_dict_get (wpAny_Dict_walk (knd := leafKind X.prog X.w) rfl rfl (by simp) (by simp)
    (thn ((pps_cons (pe_bl (b := true)) he pps_nil).run _ _ σ _ (fun ps H2 => match ps with | [(.bl true, v)] => tc σ H2 fun y H3 => ∃ b, y = .bl b ∧ Q (if b then v else .non) H3 | _ => False) I1 h) fun ws s2 ⟨ps, H2, I2, rel, q2⟩ => ?_))
  match ps, q2 with
  | [(.bl true, v)], q2 =>
    cases rel with
    | @cons _ w1 _ ws' r1 rn =>
      cases rn
      obtain ⟨kx, vx⟩ := w1
      obtain ⟨r1, r2⟩ := r1
      obtain rfl : kx = Value.bool true := r1
      obtain ⟨g1, n2, _⟩ := I2.pin _ (List.mem_append_right _ (List.mem_append_right _ mp1))
      refine ⟨[(.num 1, vx)], ⟨rfl, rfl, trivial⟩, ⟨_, #[], 0, g1, ⟨rfl, rfl, rfl⟩, rfl, (fun e he => by simp at he), .nil, List.nodup_nil⟩, fun h' dd' hs => ?_⟩
      have dd1 : h'.DictOf (leafKind X.prog X.w) s.heap.objs.size [(.num 1, vx)] := dd'
      obtain ⟨o1, es, ep, b1, b2, b3, b4, b5, b6⟩ := dd'
      have J := (I2.unpinned).turned (it := s.heap.objs.size) (h' := h') (t' := s2.toks + 1) (fun b o hb e => (hs.2 b hb).trans e) n2 f1 f3 f4 f5
      have J1 := J.pinned (fp := [s.heap.objs.size]) (fun b hb => by rw [List.mem_singleton.mp hb]; exact ⟨n2, f1, f2, f3, f4, f5⟩) (fun b hb => by rw [List.mem_singleton.mp hb]; exact ⟨o1, b1, fun _ z => by rw [b3] at z; cases z⟩)
      have mp2 := mem_pinsAt (fp := [s.heap.objs.size]) (List.mem_singleton.mpr rfl) b1
      refine ⟨dd1.typeIs, dd1.mapOf.noDict, ?_⟩
      rw [m.trees]
      refine Calls.callWith_builtin rfl (Calls.evalArgs_plain (Calls.spliced_cons (thn (hc.run _ _ σ _ _ J1 q2) fun iv s3 ⟨y, H3, I3, ry, b, ey, q3⟩ => Calls.spliced_nil ?_)))
      subst ey
      obtain rfl : iv = Value.bool b := ry
      obtain ⟨c1, n3, _⟩ := I3.pin _ (List.mem_append_right _ (List.mem_append_right _ mp2))
      have dd3 : s3.heap.DictOf (leafKind X.prog X.w) s.heap.objs.size [(.num 1, vx)] := ⟨o1, es, ep, c1, b2, b3, b4, b5, b6⟩
      refine call_meetsIn PySem.F.slot_dict_get dd3.typeIs PySem.F.entry_dict_get (PySem.F.args_dict_get_2 _ _) (meets_dict_get (leafKind X.prog X.w) _ (k := .num (if b then 1 else 0)) (by cases b <;> rfl) hd) ⟨_, dd3.mapOf, ?_⟩
      cases b with
      | true => exact ⟨v, H3, I3.unpinned.tok _, r2, q3⟩
      | false => exact ⟨.non, H3, I3.unpinned.tok _, rfl, q3⟩
theorem de_truGet (he : DE X E e te dee) (hc : DE X E c tc dc) (m : M1 X (.Dict [some (.Constant (.bool true) j kp)] [e] dp) "get" apos c cpos) :
    DE X E (.Call (.Attribute (.Dict [some (.Constant (.bool true) j kp)] [e] dp) "get" apos) [c] [] cpos) (tTruGet te tc) (dTruGet dee dc) :=
  ⟨pe_truGet he.pe hc.pe m, ⟨fun {σ H δ μ Q Q' E'} hh x d q => he.sn.go hh x d fun v y H1 μ1 t1 r1 d1 => hc.sn.go (hh.go t1) (x.go t1) d1 fun u z H2 μ2 t2 r2 d2 => by
    obtain ⟨b, rfl, d3⟩ := toB_inv d2
    refine ⟨b, r2.bl_inv, ?_⟩
    cases b with
    | true => exact q _ _ _ _ (t1.trans t2) (r1.grow t2.g) d3
    | false => exact q _ _ _ _ (t1.trans t2) .non d3⟩⟩
end
end Dl

set_option Elab.async false
set_option linter.all false
set_option maxRecDepth 100000
set_option maxHeartbeats 4000000
/-! a set of whole numbers by two fors -/
namespace Sc2
open PySem PySem.Spec PyProof.Rows L2
abbrev ex (elt t0 i0 t1 i1 : Expr) (sc : Scope) (pos : Pos) : Expr := .SetComp elt [⟨t0, i0, [], 0⟩, ⟨t1, i1, [], 0⟩] sc pos
theorem outer (elt t0 i0 t1 i1 : Expr) (sc : Scope) (pos : Pos) (it acc : Value) (env : Env) : compTurn (ex elt t0 i0 t1 i1 sc pos) 0 it acc env = (do
    standAt i0.pos
    match ← pyNext it with
    | none => pure (.done .next)
    | some v =>
      letOwnedTupleGo t0 it v
      assign t0 env v
      let x ← eval i1 env
      standAt i1.pos
      let x ← foldedSetIterable i1 env x
      let _ ← runOwn (.compStart (ex elt t0 i0 t1 i1 sc pos) 1 (← holding [x] (pyIter x)) acc env) env
      again (.compLoop (ex elt t0 i0 t1 i1 sc pos) 0 it acc env)) := by rfl
theorem inner (elt t0 i0 t1 i1 : Expr) (sc : Scope) (pos : Pos) (it acc : Value) (env : Env) : compTurn (ex elt t0 i0 t1 i1 sc pos) 1 it acc env = (do
    standAt i1.pos
    match ← pyNext it with
    | none => pure (.done .next)
    | some v =>
      letOwnedTupleGo t1 it v
      assign t1 env v
      (do let v ← eval elt env; standAt elt.pos; let _ ← call (.builtin "set.add") [acc, v])
      again (.compLoop (ex elt t0 i0 t1 i1 sc pos) 1 it acc env)) := by rfl
section
variable {prog : Program} {w : World} {A : Around} {R : Result → Shared → Prop} {s : Shared} {elt t0 i0 t1 i1 : Expr} {sc : Scope} {pos : Pos} {it acc : Value} {env : Env}
/-- an error's way out of a turn -/
abbrev err (prog : Program) (w : World) (A : Around) (env : Env) (R : Result → Shared → Prop) : Value → Shared → Prop := notedBy (model prog w) A env fun e s' => R (.error e) s'
/-- what one turn of the inner loop does -/
def inTurn (prog : Program) (w : World) (A : Around) (elt t1 : Expr) (it acc : Value) (env : Env) (R : Result → Shared → Prop) (K : Shared → Prop) (s : Shared) : Prop :=
  wpAny (model prog w) A (pyNext it) (fun r s₁ => match r with
    | none => R (.ok .next) s₁
    | some v => wpAny (model prog w) A (letOwnedTupleGo t1 it v) (fun _ s₂ => wpAny (model prog w) A (assign t1 env v) (fun _ s₃ => wpAny (model prog w) A (eval elt env) (fun x s₄ =>
        wpAny (model prog w) A (call (.builtin "set.add") [acc, x]) (fun _ s₅ => K s₅) (err prog w A env R) s₄) (err prog w A env R) s₃) (err prog w A env R) s₂) (err prog w A env R) s₁) (err prog w A env R) s
theorem inLoop (I : Nat → Shared → Prop) (turn : ∀ n s, I n s → inTurn prog w A elt t1 it acc env R (fun s' => ∃ m, m < n ∧ I m s') s) (n : Nat) (h : I n s) : codeAny (model prog w) A (.compLoop (ex elt t0 i0 t1 i1 sc pos) 1 it acc env) R s := by
  refine codeAny_loop rfl I (fun n s hI => ?_) n h
  show wpAny _ A ((compTurn (ex elt t0 i0 t1 i1 sc pos) 1 it acc env).onRaise (fun x => do noteFrame x env; theTreesLotGoes x)) _ _ s
  refine wpAny_noted ?_
  rw [inner]
  refine wpAny_bind (wpAny_standAt (wpAny_bind (wpAny_mono (turn n s hI) (fun r s₁ h₁ => ?_) fun _ _ h' => h')))
  cases r with
  | none => exact wpAny_pure h₁
  | some v =>
    refine wpAny_bind (wpAny_mono h₁ (fun _ s₂ h₂ => wpAny_bind (wpAny_mono h₂ (fun _ s₃ h₃ => ?_) fun _ _ h' => h')) fun _ _ h' => h')
    exact wpAny_bind (wpAny_bind (wpAny_mono h₃ (fun x s₄ h₄ => wpAny_bind (wpAny_standAt (wpAny_bind (wpAny_mono h₄ (fun _ s₅ h₅ => wpAny_pure (wpAny_pure ⟨rfl, h₅⟩)) fun _ _ h' => h')))) fun _ _ h' => h'))
/-- what one turn of the outer loop does -/
def outTurn (prog : Program) (w : World) (A : Around) (e : Expr) (t0 i1 : Expr) (it acc : Value) (env : Env) (R : Result → Shared → Prop) (K : Shared → Prop) (s : Shared) : Prop :=
  wpAny (model prog w) A (pyNext it) (fun r s₁ => match r with
    | none => R (.ok .next) s₁
    | some v => wpAny (model prog w) A (letOwnedTupleGo t0 it v) (fun _ s₂ => wpAny (model prog w) A (assign t0 env v) (fun _ s₃ => wpAny (model prog w) A (eval i1 env) (fun x s₄ => wpAny (model prog w) A (pyIter x) (fun it1 s₅ =>
        codeAny (model prog w) A (.compStart e 1 it1 acc env) (fun r s' => match r with | .ok _ => K s' | .error _ => False) s₅) (err prog w A env R) s₄) (err prog w A env R) s₃) (err prog w A env R) s₂) (err prog w A env R) s₁) (err prog w A env R) s
theorem outLoop (hs : ∀ x, foldedSetIterable i1 env x = pure x) (I : Nat → Shared → Prop) (turn : ∀ n s, I n s → outTurn prog w A (ex elt t0 i0 t1 i1 sc pos) t0 i1 it acc env R (fun s' => ∃ m, m < n ∧ I m s') s) (n : Nat) (h : I n s) :
    codeAny (model prog w) A (.compLoop (ex elt t0 i0 t1 i1 sc pos) 0 it acc env) R s := by
  refine codeAny_loop rfl I (fun n s hI => ?_) n h
  show wpAny _ A ((compTurn (ex elt t0 i0 t1 i1 sc pos) 0 it acc env).onRaise (fun x => do noteFrame x env; theTreesLotGoes x)) _ _ s
  refine wpAny_noted ?_
  rw [outer]
  refine wpAny_bind (wpAny_standAt (wpAny_bind (wpAny_mono (turn n s hI) (fun r s₁ h₁ => ?_) fun _ _ h' => h')))
  cases r with
  | none => exact wpAny_pure h₁
  | some v =>
    refine wpAny_bind (wpAny_mono h₁ (fun _ s₂ h₂ => wpAny_bind (wpAny_mono h₂ (fun _ s₃ h₃ => ?_) fun _ _ h' => h')) fun _ _ h' => h')
    refine wpAny_bind (wpAny_mono h₃ (fun x s₄ h₄ => ?_) fun _ _ h' => h')
    refine wpAny_bind (wpAny_standAt (wpAny_bind (wpAny_of_eq (hs x) (wpAny_bind (wpAny_holding (wpAny_mono h₄ (fun it1 s₅ h₅ => ?_) fun _ _ h' => h'))))))
    refine wpAny_bind (wpAny_runOwn ?_)
    rw [Around.mark_none]
    refine codeAny_mono h₅ fun r s' hr => ?_
    cases r with
    | ok f => exact wpAny_pure ⟨rfl, hr⟩
    | error e => exact hr.elim
theorem inStart (h0 : codeAny (model prog w) A (.compLoop (ex elt t0 i0 t1 i1 sc pos) 1 it acc env) R s)
    (h : wpAny (model prog w) A (pyIter it) (fun it' s' => codeAny (model prog w) A (.compLoop (ex elt t0 i0 t1 i1 sc pos) 1 it' acc env) R s') (err prog w A env R) s) :
    codeAny (model prog w) A (.compStart (ex elt t0 i0 t1 i1 sc pos) 1 it acc env) R s := by
  refine codeAny_of_tree ?_
  show wpAny _ _ ((compStart (ex elt t0 i0 t1 i1 sc pos) 1 it acc env).onRaise (fun x => do noteFrame x env; standAt theWindowsPlace)) _ _ s
  refine wpAny_notedAt ?_
  unfold compStart
  show wpAny _ _ (ask >>= _) _ _ s
  refine wpAny_bind (wpAny_askSetting (wpAny_ite ?_))
  split
  · exact wpAny_bind (wpAny_pure (wpAny_pure (And.intro rfl h0)))
  · refine wpAny_bind (wpAny_rule ?_)
    show wpAny _ _ (standAt i1.pos >>= _) _ _ s
    exact wpAny_bind (wpAny_standAt (wpAny_bind (wpAny_mono h (fun it' s' h' => wpAny_pure (And.intro rfl h')) fun _ _ x => x)))
end
/-- what is asked of the inner loop: Kh behind it -/
def tIn (w : World) (wi1 : TI) (g1 : TG) (te : TE) (D : Addr) (vs1 : List Nat) (σ : L2.St) (H : Hp) (Kh : Hp → Prop) : Prop := wi1 σ H fun J H1 => ∃ W : Nat → Nat → Hp → Prop, (∃ m, W 0 m H1) ∧ ∀ j k H, W j k H →
  (J.stop j H ∧ Kh H) ∨ (J.go j H ∧ ∃ Nx : Hp → Prop, (∀ H', Nx H' → ∃ k', k' < k ∧ W (j + 1) k' H') ∧ ∀ x H', J.yld j H x H' → g1 x (wipe σ vs1) H' fun σ3 H5 => wipe σ3 vs1 = wipe σ vs1 ∧
    te σ3 H5 fun y H7 => ∃ (c : Int) (S : Int → Bool) (n : Nat), y = .int c ∧ H7 D = some (SetO w D S n) ∧ n + 1 < scanBound ∧ Nx (upd H7 D (SetO w D (fun j => S j || decide (j = c)) (if S c = true then n else n + 1))))
section
variable {Y : Cx} {elt t0 i0 t1 i1 : Expr} {sc : Scope} {pos : Pos} {wi1 : TI} {g1 : TG} {te : TE}
theorem inRun (hc : Y.calm = true) (hx : Y.xe = fun _ _ => False) (hi : PI Y t1 i1 wi1) (hg : PG Y t1 g1) (he : PE Y elt te) {pins : List (Addr × Obj)} {σ : L2.St} {H : Hp} {s : Shared} (I : Inv Y pins σ H s) {D : Addr} {vs1 : List Nat} {Kh : Hp → Prop} (h : tIn Y.w wi1 g1 te D vs1 σ H Kh)
    {K : Shared → Prop} (fin : ∀ s' H', Inv Y pins (wipe σ vs1) H' s' → Kh H' → K s') :
    wpAny (model Y.prog Y.w) Y.A (eval i1 Y.env) (fun x s4 => wpAny (model Y.prog Y.w) Y.A (pyIter x) (fun it1 s5 => codeAny (model Y.prog Y.w) Y.A (.compStart (ex elt t0 i0 t1 i1 sc pos) 1 it1 (.ref D) Y.env) (fun r s' => match r with | .ok _ => K s' | .error _ => False) s5) (fun _ _ => False) s4) (fun _ _ => False) s := by
  have run := hi.run pins s σ H _ I h
  rw [hx] at run
  refine thnF run fun xv s1 hx1 => thnF hx1 fun itv s2 h2 => ?_
  obtain ⟨it, fp, tn, J, H2, e, I2, T, st2, f2, W, ⟨m0, w0⟩, turn⟩ := h2
  subst e
  have stat : ∀ {H' : Hp}, (∀ b ∈ fp, H' b = none) → ∀ b ∈ fp, FpOk Y pins H' b := fun hn b hb => ⟨hn b hb, (f2 b hb).2⟩
  have loop : codeAny (model Y.prog Y.w) Y.A (.compLoop (ex elt t0 i0 t1 i1 sc pos) 1 (.ref it) (.ref D) Y.env) (fun r s' => match r with | .ok _ => K s' | .error _ => False) s2 := by
    refine inLoop (fun k s' => ∃ j H', Inv Y pins (wipe σ vs1) H' s' ∧ tn j s'.heap ∧ (∀ b ∈ fp, H' b = none) ∧ W j k H') ?_ m0 ⟨0, H2, I2.weak (wipe_length _ _) (fun j v e => (wipe_some e).1), st2, fun b hb => (f2 b hb).1, w0⟩
    rintro k s3 ⟨j, H3, I3, st3, n3, w3⟩
    rcases turn j k H3 w3 with ⟨stop, q⟩ | ⟨go, Nx, hNx, step⟩
    · refine thnF (T.done Y rfl rfl rfl hc j _ s3 (wipe σ vs1) H3 (fun _ _ => False) I3 (stat n3) st3 stop) fun r s4 ⟨hr, I4⟩ => ?_
      subst hr
      exact fin s4 H3 I4 q
    · refine thnF (T.item Y rfl rfl rfl hc j _ s3 (wipe σ vs1) H3 (fun _ _ => False) I3 (stat n3) st3 go) fun r s4 ⟨u, hr, h4⟩ => ?_
      subst hr
      refine thnF h4 fun _ s5 ⟨x, H5, I5, r5, y5, st5, n5⟩ => ?_
      have I5' := I5.pinned (stat n5) (T.obj _ _ st5)
      have pg := hg.run _ s5 (wipe σ vs1) H5 x u _ I5' r5 (step x H5 y5)
      rw [hx] at pg
      refine thnF pg fun _ s6 ⟨σ6, H6, I6, hw6, q6⟩ => ?_
      have pe := he.run _ s6 σ6 H6 _ I6 q6
      rw [hx] at pe
      refine thnF pe fun z s7 ⟨yv, H7, I7, r7, c, S, n, ey, hD, hn, nx⟩ => ?_
      subst ey
      have ps := mt_sadd (X := Y) _ s7 σ6 H7 (.ref D) [.int c] (.ref D) [z] (fun _ H8 => Nx H8) I7 rfl (.cons r7 .nil) ⟨D, c, S, n, rfl, rfl, hD, hn, nx⟩
      rw [hx] at ps
      refine thnF ps fun _ s8 ⟨v8, H8, I8, _, nx8⟩ => ?_
      obtain ⟨m, hm, w8⟩ := hNx H8 nx8
      have still : ∀ b ∈ fp, ∀ o, s5.heap.get? b = some o → s8.heap.get? b = some o ∧ H8 b = none := fun b hb o e =>
        let z := I8.pin (b, o) (List.mem_append_right _ (List.mem_append_right _ (mem_pinsAt hb e)))
        ⟨z.1, z.2.1⟩
      refine ⟨m, hm, j + 1, H8, I8.unpinned.weak (by rw [← hw6, wipe_length]) (fun i v e => by rw [← hw6] at e; exact (wipe_some e).1), T.keep _ _ _ st5 fun b hb o e => (still b hb o e).1, fun b hb => ?_, w8⟩
      obtain ⟨o, e, _⟩ := T.obj _ _ st5 b hb
      exact (still b hb o e).2
  exact inStart loop (T.self Y.A 0 _ _ _ st2 loop)
end
def tSc2 (w : World) (wi : TI) (g : TG) (wi1 : TI) (g1 : TG) (te : TE) (vs vs1 : List Nat) : TE := fun σ H Q => wi σ H fun J H1 => ∀ D, H1 D = none → ∃ W : Nat → Nat → Hp → Prop, (∃ m, W 0 m (upd H1 D (SetO w D (fun _ => false) 0))) ∧ ∀ i m H, W i m H →
  (J.stop i H ∧ Q (.ref D) H) ∨ (J.go i H ∧ ∃ Nx : Hp → Prop, (∀ H', Nx H' → ∃ m', m' < m ∧ W (i + 1) m' H') ∧ ∀ x H', J.yld i H x H' → g x (wipe σ vs) H' fun σ2 H2 => wipe σ2 vs = wipe σ vs ∧ tIn w wi1 g1 te D vs1 σ2 H2 Nx)
section
variable {X : Cx} {elt t0 i0 t1 i1 : Expr} {sc : Scope} {pos : Pos} {wi wi1 : TI} {g g1 : TG} {te : TE} {own : List (Str × Nat)} {vs1 : List Nat}
theorem pe_sc2 (hc : X.calm = true) (hN : X.N.Nodup) (hi : PI X t0 i0 wi) (ok : BlkOk X.N X.env.scope sc own) (hv : ∀ i ∈ vs1, i ∈ own.map (·.2))
    (hg : ∀ (s : Shared) (H : Hp) (C : Addr) (cl : List (Str × Addr)) (fp : List Addr), PG (X.blk s H sc (compEnvC sc cl C X.env) fp) t0 g)
    (hi1 : ∀ (s : Shared) (H : Hp) (C : Addr) (cl : List (Str × Addr)) (fp : List Addr), PI (X.blk s H sc (compEnvC sc cl C X.env) fp) t1 i1 wi1)
    (hg1 : ∀ (s : Shared) (H : Hp) (C : Addr) (cl : List (Str × Addr)) (fp : List Addr), PG (X.blk s H sc (compEnvC sc cl C X.env) fp) t1 g1)
    (he : ∀ (s : Shared) (H : Hp) (C : Addr) (cl : List (Str × Addr)) (fp : List Addr), PE (X.blk s H sc (compEnvC sc cl C X.env) fp) elt te)
    (hs : ∀ x, foldedSetIterable i0 X.env x = pure x := by intro _; rfl) (hs1 : ∀ env x, foldedSetIterable i1 env x = pure x := by intro _ _; rfl) :
    PE X (ex elt t0 i0 t1 i1 sc pos) (tSc2 X.w wi g wi1 g1 te (own.map (·.2)) vs1) := by
  refine ⟨fun pins s σ H Q I h => ?_⟩
  rw [show eval (ex elt t0 i0 t1 i1 sc pos) X.env = _ from PpSet.eval_SetComp elt _ sc pos]
  have free : ∀ y ∈ sc.names, y.2 = .free → ∃ c, X.env.cells.lookup y.1 = some c := fun y hy e => (ok.free y hy e).elim (fun k => I.ok.has _ (.inl k)) fun k => I.ok.has _ (.inr k)
  refine wpAny_comprehension_free rfl hs (closure_ok free) ok.kind (fun y hy e => by rw [ok.uniq y hy, e]) (thn (hi.run pins s σ H _ I h) fun xv s1 hx => thn hx fun itv s2 h2 => ?_)
  obtain ⟨it, fp, tn, J, H2, e, I2, T, st2, f2, q⟩ := h2
  subst e
  refine PpSet.newSet_ok (newEnv_comp ?_)
  obtain ⟨D, hD⟩ : ∃ D, s2.heap.objs.size = D := ⟨_, rfl⟩
  have nD : H2 D = none := I2.hok.fresh (Nat.le_of_eq hD)
  obtain ⟨W, ⟨m0, w0⟩, turn⟩ := q D nD
  rw [hD]
  obtain ⟨s3, hs3⟩ : ∃ s3 : Shared, ({ s2 with heap := s2.heap.push { cls := .type "set", dict := none, data := .set #[] 0 (.fresh 0 0 (!X.w.params.followText "set-order")) } } : Shared) = s3 := ⟨_, rfl⟩
  have h3 : s3.heap = s2.heap.push { cls := .type "set", dict := none, data := .set #[] 0 (.fresh 0 0 (!X.w.params.followText "set-order")) } := by rw [← hs3]
  have I3 : Inv X pins σ (upd H2 D (SetO X.w D (fun _ => false) 0)) s3 := by
    rw [← hs3]
    refine I2.laid (t' := s2.toks) (fun b o e => Heap.get?_push_of_some _ e) (Nat.le_of_eq hD) (setO_new ?_)
    rw [← hD]
    exact setR_fresh X.w
  obtain ⟨H3, hH3⟩ : ∃ H3, upd H2 D (SetO X.w D (fun _ => false) 0) = H3 := ⟨_, rfl⟩
  rw [hH3] at I3 w0
  have f3 : ∀ b ∈ fp, FpOk X pins H3 b ∧ b < s3.heap.objs.size := fun b hb => by
    obtain ⟨o, e, _⟩ := T.obj _ _ st2 b hb
    have lt := Heap.lt_size e
    refine ⟨⟨?_, (f2 b hb).2⟩, by rw [h3, Heap.size_push]; exact Nat.lt_succ_of_lt lt⟩
    rw [← hH3, upd_ne (by rw [← hD]; exact Nat.ne_of_lt lt)]
    exact (f2 b hb).1
  have I4 := block_start I3 ok hN f3
  have st3 : tn 0 s3.heap := T.keep _ _ _ st2 fun b _ o e => by rw [h3]; exact Heap.get?_push_of_some _ e
  have pg := hg s3 H3 s3.heap.objs.size (cellsFrom (s3.heap.objs.size + 1) sc.names (cloFrom X.env.cells sc.names [])) fp
  have pi1 := hi1 s3 H3 s3.heap.objs.size (cellsFrom (s3.heap.objs.size + 1) sc.names (cloFrom X.env.cells sc.names [])) fp
  have pg1 := hg1 s3 H3 s3.heap.objs.size (cellsFrom (s3.heap.objs.size + 1) sc.names (cloFrom X.env.cells sc.names [])) fp
  have pe := he s3 H3 s3.heap.objs.size (cellsFrom (s3.heap.objs.size + 1) sc.names (cloFrom X.env.cells sc.names [])) fp
  rw [hs3]
  show codeAny _ _ (.compStart (ex elt t0 i0 t1 i1 sc pos) 0 (.ref it) (.ref D) (compEnvC sc (cellsFrom (s3.heap.objs.size + 1) sc.names (cloFrom X.env.cells sc.names [])) s3.heap.objs.size X.env)) (compPost (model X.prog X.w) X.A X.xe none _ (.ref D) s3.heap.objs.size) { s3 with heap := pushCells (s3.heap.push { cls := .type "dict", data := .dict #[] }) sc.names }
  generalize hce : compEnvC sc (cellsFrom (s3.heap.objs.size + 1) sc.names (cloFrom X.env.cells sc.names [])) s3.heap.objs.size X.env = ce at I4 pg pi1 pg1 pe ⊢
  have cL : ce.locals = s3.heap.objs.size := by subst hce; rfl
  generalize hs4 : ({ s3 with heap := pushCells (s3.heap.push { cls := .type "dict", data := .dict #[] }) sc.names } : Shared) = s4 at I4 ⊢
  have st4 : tn 0 s4.heap := T.keep _ _ _ st3 fun b _ o e => by rw [← hs4]; exact pushCells_keeps _ _ _ _ (Heap.get?_push_of_some _ e)
  have stat : ∀ {σ' : L2.St} {H' : Hp} {s' : Shared}, Inv (X.blk s3 H3 sc ce fp) [] σ' H' s' → (∀ b ∈ fp, H' b = none) → ∀ b ∈ fp, FpOk (X.blk s3 H3 sc ce fp) [] H' b := fun {σ' H' s'} I' hn b hb =>
    ⟨hn b hb, (I'.ok.exf b hb).1, I'.ok.exfs b hb, .inl hb, fun x c e => (I'.ok.exf b hb).2 x c e, fun p hp => absurd (show p ∈ ([] : List (Addr × Obj)) ++ [] from hp) (by simp)⟩
  have loop : codeAny (model X.prog X.w) X.A (.compLoop (ex elt t0 i0 t1 i1 sc pos) 0 (.ref it) (.ref D) ce) (compPost (model X.prog X.w) X.A X.xe none (fun v s' => ∃ x H', Inv X pins σ H' s' ∧ RelV x v ∧ Q x H') (.ref D) s3.heap.objs.size) s4 := by
    refine outLoop (hs1 ce) (fun n s' => ∃ i H', Inv (X.blk s3 H3 sc ce fp) [] (wipe σ (own.map (·.2))) H' s' ∧ tn i s'.heap ∧ (∀ b ∈ fp, H' b = none) ∧ W i n H') ?_ m0 ⟨0, H3, I4, st4, fun b hb => (f3 b hb).1.1, w0⟩
    rintro n s5 ⟨i, H5, I5, st5, n5, w5⟩
    rcases turn i n H5 w5 with ⟨stop, qq⟩ | ⟨go, Nx, hNx, step⟩
    · refine thnF (T.done (X.blk s3 H3 sc ce fp) rfl rfl rfl hc i [] s5 _ H5 (fun _ _ => False) I5 (stat I5 n5) st5 stop) fun r s6 ⟨hr, I6⟩ => ?_
      subst hr
      have I7 : Inv X pins σ H5 s6 := I3.call' (ch := fp) I6.os I6.base I6.hok I6.bare fun b hb => ⟨(f3 b hb).1.2.2.2.1, (f3 b hb).1.2.1, (f3 b hb).1.2.2.2.2.1, (f3 b hb).1.2.2.2.2.2⟩
      have nC : H5 s3.heap.objs.size = none := by
        have z : H5 ce.locals = none := I6.free
        rw [cL] at z
        exact z
      obtain ⟨m, hn, _⟩ := I6.loc
      have hn : s6.heap.Ns ce.locals m := hn
      rw [cL] at hn
      obtain ⟨f0, f1, f2, f3, f4, f5⟩ := I3.fpOk (Nat.le_refl _) nC
      exact ⟨m, hn, fun h'' sb => ⟨.ref D, H5, I7.turned (t' := s6.toks) (fun b o hb e => (sb.2 b hb).trans e) f0 f1 f3 f4 f5, rfl, qq⟩⟩
    · refine thnF (T.item (X.blk s3 H3 sc ce fp) rfl rfl rfl hc i [] s5 _ H5 (fun _ _ => False) I5 (stat I5 n5) st5 go) fun r s6 ⟨u, hr, h6⟩ => ?_
      subst hr
      refine thnF h6 fun _ s7 ⟨x, H7, I7, r7, y7, st7, n7⟩ => ?_
      have I7' := I7.pinned (stat I7 n7) (T.obj _ _ st7)
      refine thnF (pg.run _ s7 _ H7 x u _ I7' r7 (step x H7 y7)) fun _ s8 ⟨σ8, H8, I8, hw8, q8⟩ => ?_
      have fin : ∀ s' H', Inv (X.blk s3 H3 sc ce fp) ([] ++ pinsAt fp s7.heap) (wipe σ8 vs1) H' s' → Nx H' → ∃ m, m < n ∧ ∃ i H', Inv (X.blk s3 H3 sc ce fp) [] (wipe σ (own.map (·.2))) H' s' ∧ tn i s'.heap ∧ (∀ b ∈ fp, H' b = none) ∧ W i m H' := fun s' H' I' nx => by
        obtain ⟨m', hm, w'⟩ := hNx H' nx
        have still : ∀ b ∈ fp, ∀ o, s7.heap.get? b = some o → s'.heap.get? b = some o ∧ H' b = none := fun b hb o e =>
          let z := I'.pin (b, o) (List.mem_append_right _ (List.mem_append_right _ (mem_pinsAt hb e)))
          ⟨z.1, z.2.1⟩
        refine ⟨m', hm, i + 1, H', (I'.unpinned (pins := [])).weak (by rw [← hw8, wipe_length, wipe_length]) (fun j v e => ?_), T.keep _ _ _ st7 fun b hb o e => (still b hb o e).1, fun b hb => ?_, w'⟩
        · rw [← hw8] at e
          obtain ⟨e1, e2⟩ := wipe_some e
          rw [wipe_out fun z => e2 (hv j z)]
          exact e1
        · obtain ⟨o, e, _⟩ := T.obj _ _ st7 b hb
          exact (still b hb o e).2
      have run := inRun (Y := X.blk s3 H3 sc ce fp) (sc := sc) (pos := pos) (t0 := t0) (i0 := i0) hc rfl pi1 pg1 pe I8 q8 (K := fun s' => ∃ m, m < n ∧ ∃ i H', Inv (X.blk s3 H3 sc ce fp) [] (wipe σ (own.map (·.2))) H' s' ∧ tn i s'.heap ∧ (∀ b ∈ fp, H' b = none) ∧ W i m H') fin
      exact thnF run fun x s9 h9 => thnF h9 fun it1 s10 h10 => h10
  exact PpSet.codeAny_compStart_set loop (T.self X.A 0 _ _ _ st4 loop)
end
end Sc2

set_option Elab.async false
set_option linter.all false
set_option maxRecDepth 100000
/-! sorted({p for t in rows for p in t}) -/
namespace Dl
open PySem PySem.Spec PyProof.Rows L2
theorem sqL_upd {K : PySem.W.Frag} {H : Hp} {a D : Addr} {xs : List V} {o : HO} (h : SqL K H a xs) (hD : H D = none) : SqL K (upd H D o) a xs := by
  rcases h with h | h
  · refine .inl ?_
    rcases h with h | ⟨ob, h⟩
    · exact .inl (by rw [upd_ne (ne_of_none h hD)]; exact h)
    · exact .inr ⟨ob, by rw [upd_ne (ne_of_none h hD)]; exact h⟩
  · exact .inr h
theorem take_mem {rows : List (List Int)} {i : Nat} {r : List Int} (h : rows[i]? = some r) (k : Int) : (∃ x ∈ rows.take (i + 1), k ∈ x) ↔ (∃ x ∈ rows.take i, k ∈ x) ∨ k ∈ r := by
  rw [List.take_add_one, h]
  simp [or_and_right, exists_or]
theorem sc2_in {K : PySem.W.Frag} {w : World} {b D : Addr} {r : List Int} {H1 : Hp} {n0 n1 : Nat} {σ : L2.St} {S0 : Int → Bool} {m0 : Nat} (hD : H1 D = none) (hb : SqL K H1 b (r.map V.int)) (room : m0 + r.length + 1 < scanBound) (hv : σ[n0]? = some (some (.ref b))) (l1 : n1 < σ.length) {Kh : Hp → Prop}
    (fin : ∀ S n, (∀ k, S k = true ↔ S0 k = true ∨ k ∈ r) → n ≤ m0 + r.length → Kh (upd H1 D (SetO w D S n))) : Sc2.tIn w (iList K (tVar n0)) (L2.gName n1) (tVar n1) D [n1] σ (upd H1 D (SetO w D S0 m0)) Kh := by
  refine ⟨_, hv, b, rfl, ⟨_, sqL_upd hb hD⟩, fun j m H => m = r.length - j ∧ j ≤ r.length ∧ ∃ S n, H = upd H1 D (SetO w D S n) ∧ (∀ k, S k = true ↔ S0 k = true ∨ k ∈ r.take j) ∧ n ≤ m0 + j, ⟨_, rfl, Nat.zero_le _, S0, m0, rfl, fun k => by simp, Nat.le_refl _⟩, ?_⟩
  rintro j m H ⟨rfl, hj, S, n, rfl, hS, hn⟩
  have hb2 := sqL_upd (o := SetO w D S n) hb hD
  by_cases hlt : j < r.length
  · have ej : r[j]? = some r[j] := List.getElem?_eq_getElem hlt
    refine .inr ⟨⟨_, .int r[j], hb2, by rw [List.getElem?_map, ej]; rfl⟩, fun H' => ∃ S n, H' = upd H1 D (SetO w D S n) ∧ (∀ k, S k = true ↔ S0 k = true ∨ k ∈ r.take (j + 1)) ∧ n ≤ m0 + (j + 1), fun H' ⟨S, n, e, a, c⟩ => ⟨r.length - (j + 1), by omega, rfl, hlt, S, n, e, a, c⟩, fun x H' y => ?_⟩
    obtain ⟨rfl, y⟩ := y
    have ex := y _ hb2
    rw [List.getElem?_map, ej] at ex
    obtain rfl : V.int r[j] = x := Option.some.inj ex
    have lw : n1 < (wipe σ [n1]).length := by rw [wipe_length]; exact l1
    refine ⟨wipe_set (List.mem_singleton.mpr rfl) |>.trans (by rw [wipe_wipe]), _, List.getElem?_set_self lw, r[j], S, n, rfl, upd_same, by omega, _, _, upd_upd, fun k => ?_, ?_⟩
    · have et : r.take (j + 1) = r.take j ++ [r[j]] := by rw [List.take_add_one, ej]; rfl
      rw [et, List.mem_append, List.mem_singleton, Bool.or_eq_true, hS k, decide_eq_true_eq, or_assoc]
    · split <;> omega
  · have : j = r.length := by omega
    subst this
    refine .inl ⟨⟨_, hb2, by rw [List.length_map]; exact Nat.le_refl _⟩, fin S n (fun k => by rw [hS k, List.take_length]) hn⟩
theorem sc2_out {K : PySem.W.Frag} {w : World} {a D : Addr} {as : List Addr} {rows : List (List Int)} {H1 : Hp} {n0 n1 : Nat} {σ : L2.St} {vs : List Nat} (hD : H1 D = none) (ha : SqL K H1 a (as.map V.ref)) (hl : as.length = rows.length) (hr : ∀ (i : Nat) (b : Addr) (r : List Int), as[i]? = some b → rows[i]? = some r → SqL K H1 b (r.map V.int))
    (room : rows.flatten.length + 1 < scanBound) (h0 : n0 ∈ vs) (l0 : n0 < σ.length) (l1 : n1 < σ.length) {Qd : Hp → Prop} (q : ∀ S n, (∀ k : Int, S k = true ↔ ∃ r ∈ rows, k ∈ r) → n ≤ rows.flatten.length → Qd (upd H1 D (SetO w D S n))) :
    ∃ W : Nat → Nat → Hp → Prop, (∃ m, W 0 m (upd H1 D (SetO w D (fun _ => false) 0))) ∧ ∀ i m H, W i m H → ((Itl K a).stop i H ∧ Qd H) ∨ ((Itl K a).go i H ∧ ∃ Nx : Hp → Prop, (∀ H', Nx H' → ∃ m', m' < m ∧ W (i + 1) m' H') ∧ ∀ x H', (Itl K a).yld i H x H' →
      L2.gName n0 x (wipe σ vs) H' fun σ2 H2 => wipe σ2 vs = wipe σ vs ∧ Sc2.tIn w (iList K (tVar n0)) (L2.gName n1) (tVar n1) D [n1] σ2 H2 Nx) := by
  refine ⟨fun i m H => m = rows.length - i ∧ i ≤ rows.length ∧ ∃ (S : Int → Bool) (n : Nat), H = upd H1 D (SetO w D S n) ∧ (∀ k : Int, S k = true ↔ ∃ r ∈ rows.take i, k ∈ r) ∧ n ≤ (rows.take i).flatten.length, ⟨_, rfl, Nat.zero_le _, _, _, rfl, fun k => by simp, Nat.zero_le _⟩, ?_⟩
  rintro i m H ⟨rfl, hi, S, n, rfl, hS, hn⟩
  have ha2 := sqL_upd (o := SetO w D S n) ha hD
  by_cases hlt : i < rows.length
  · have er : rows[i]? = some rows[i] := List.getElem?_eq_getElem hlt
    have eb : as[i]? = some as[i] := List.getElem?_eq_getElem (by omega)
    have et : (rows.take (i + 1)).flatten.length = (rows.take i).flatten.length + rows[i].length := by
      rw [List.take_add_one, er, List.flatten_append, List.length_append]
      simp
    have le : (rows.take (i + 1)).flatten.length ≤ rows.flatten.length := by
      have := congrArg (fun l => (List.flatten l).length) (List.take_append_drop (i + 1) rows)
      simp only [List.flatten_append, List.length_append] at this
      omega
    refine .inr ⟨⟨_, .ref as[i], ha2, by rw [List.getElem?_map, eb]; rfl⟩, fun H' => ∃ (S : Int → Bool) (n : Nat), H' = upd H1 D (SetO w D S n) ∧ (∀ k : Int, S k = true ↔ ∃ r ∈ rows.take (i + 1), k ∈ r) ∧ n ≤ (rows.take (i + 1)).flatten.length, fun H' ⟨S, n, e, a, c⟩ => ⟨rows.length - (i + 1), by omega, rfl, hlt, S, n, e, a, c⟩, fun x H' y => ?_⟩
    obtain ⟨rfl, y⟩ := y
    have ex := y _ ha2
    rw [List.getElem?_map, eb] at ex
    obtain rfl : V.ref as[i] = x := Option.some.inj ex
    have lw : n0 < (wipe σ vs).length := by rw [wipe_length]; exact l0
    refine ⟨(wipe_set h0).trans (by rw [wipe_wipe]), ?_⟩
    refine sc2_in hD (hr i as[i] rows[i] eb er) (by omega) (List.getElem?_set_self lw) (by rw [List.length_set, wipe_length]; exact l1) fun S2 n2 h2 hn2 => ⟨S2, n2, rfl, fun k => by rw [h2 k, hS k, take_mem er], by omega⟩
  · have : i = rows.length := by omega
    subst this
    refine .inl ⟨⟨_, ha2, by rw [List.length_map]; omega⟩, q S n (fun k => by rw [hS k, List.take_length]) (by rw [List.take_length] at hn; exact hn)⟩
/-- rows of whole numbers, read -/
def rowsD (rows : List (List Int)) : List D := rows.map fun r => .lst (r.map D.int)
def dSortSc (n0 n1 : Nat) (d0 : DTE) : DTE := fun E δ μ Q => d0 E δ μ fun x μ1 => n0 < δ.length ∧ n1 < δ.length ∧ ∃ rows : List (List Int), rd μ1 x = .lst (rowsD rows) ∧ rows.flatten.length < 64 ∧ ∀ ns : List Int, ns.Pairwise (· < ·) → (∀ k, k ∈ ns ↔ ∃ r ∈ rows, k ∈ r) → Q (.lst (ns.map D.int)) μ1
theorem dSortSc_p (n0 n1 : Nat) (d0 : DTE) : ∀ E δ μ Q, Dl.dSortSc n0 n1 d0 E δ μ Q = (d0 E δ μ fun x μ1 => n0 < δ.length ∧ n1 < δ.length ∧ ∃ rows : List (List Int), rd μ1 x = .lst (rowsD rows) ∧ rows.flatten.length < 64 ∧ ∀ ns : List Int, ns.Pairwise (· < ·) → (∀ k, k ∈ ns ↔ ∃ r ∈ rows, k ∈ r) → Q (.lst (ns.map D.int)) μ1) := fun _ _ _ _ => Eq.trans (Eq.symm (Eq.refl _)) (Eq.refl _)
theorem ints_in {K : PySem.W.Frag} {H : Hp} {μ : Mu} : ∀ {r : List Int} {vs : List V}, Reps K H μ vs (r.map D.int) → vs = r.map V.int
  | [], vs, h => h.nil_inv
  | i :: r, vs, h => by
    obtain ⟨v, vs, rfl, h1, h2⟩ := h.cons_inv
    rw [h1.int_inv, ints_in h2]
    rfl
theorem ints_rep {K : PySem.W.Frag} {H : Hp} {μ : Mu} : ∀ (r : List Int), Reps K H μ (r.map V.int) (r.map D.int)
  | [] => .nil
  | i :: r => .cons (.int i) (ints_rep r)
theorem rows_in {K : PySem.W.Frag} {H : Hp} {μ : Mu} : ∀ {rows : List (List Int)} {vs : List V}, Reps K H μ vs (rowsD rows) → ∃ as : List Addr, vs = as.map V.ref ∧ as.length = rows.length ∧ ∀ (i : Nat) (b : Addr) (r : List Int), as[i]? = some b → rows[i]? = some r → SqL K H b (r.map V.int)
  | [], vs, h => ⟨[], by rw [h.nil_inv]; rfl, rfl, fun i b r e => by simp at e⟩
  | r :: rows, vs, h => by
    obtain ⟨v, vs, rfl, h1, h2⟩ := h.cons_inv
    obtain ⟨b, us, rfl, m, hb, ru⟩ := h1.lst_inv
    obtain ⟨as, rfl, hl, hr⟩ := rows_in h2
    refine ⟨b :: as, rfl, by rw [List.length_cons, List.length_cons, hl], fun i c x e1 e2 => ?_⟩
    cases i with
    | zero =>
      cases e1; cases e2
      rw [← ints_in ru]
      exact SqL.of hb
    | succ i => exact hr i c x (by simpa using e1) (by simpa using e2)
section
variable {X : Cx} {E : XK} {x y : Str} {p0 p1 p2 p3 cp np : Pos} {i0 : Expr} {sc : Scope} {pos : Pos} {te : TE} {de : DTE} {own : List (Str × Nat)} {n0 n1 : Nat}
theorem de_sortSc (hc : X.calm = true) (hN : X.N.Nodup) (h : DE X E i0 te de) (ok : BlkOk X.N X.env.scope sc own) (m0 : n0 ∈ own.map (·.2)) (m1 : n1 ∈ own.map (·.2))
    (hg : ∀ s H C cl fp, PG (bk X sc s H C cl fp) (.Name x p0) (L2.gName n0)) (hi1 : ∀ s H C cl fp, PE (bk X sc s H C cl fp) (.Name x p1) (tVar n0)) (hg1 : ∀ s H C cl fp, PG (bk X sc s H C cl fp) (.Name y p2) (L2.gName n1)) (he : ∀ s H C cl fp, PE (bk X sc s H C cl fp) (.Name y p3) (tVar n1))
    (hgl : Gl X "sorted") (hm : X.mg "sorted" = none) (hs : ∀ x, foldedSetIterable i0 X.env x = pure x := by intro _; rfl) :
    DE X E (.Call (.Name "sorted" np) [.SetComp (.Name y p3) [⟨.Name x p0, i0, [], 0⟩, ⟨.Name y p2, .Name x p1, [], 0⟩] sc pos] [] cp) (tCB (rSortedSet X.w) (tCons (Sc2.tSc2 X.w (iList X.K te) (L2.gName n0) (iList X.K (tVar n0)) (L2.gName n1) (tVar n1) (own.map (·.2)) [n1]) tNil)) (dSortSc n0 n1 de) :=
  ⟨pe_callB (cr_sortedSet hc) hgl hm (by rfl) (pa_cons (Sc2.pe_sc2 hc hN (pi_list h.pe) ok (fun i hi => by rw [List.mem_singleton.mp hi]; exact m1) hg (fun s H C cl fp => pi_list (hi1 s H C cl fp)) hg1 he hs (fun _ _ => rfl)) pa_nil), ⟨fun {σ H δ μ Q Q' E'} hh x d q => h.sn.go hh x d fun v y H1 μ1 t1 r1 d1 => by
    obtain ⟨l0, l1, rows, e, h64, d2⟩ := d1
    obtain ⟨a, vs, rfl, ha, ra, _⟩ := stands t1.cells r1 e
    obtain ⟨as, rfl, hl, hr⟩ := rows_in ra
    have hsl := hh.slots.1
    refine ⟨a, rfl, ⟨_, SqL.of ha⟩, fun D hD => sc2_out hD (SqL.of ha) hl hr (Nat.lt_of_lt_of_le (Nat.add_lt_add_right h64 1) (by decide)) m0 (by rw [hsl]; exact l0) (by rw [hsl]; exact l1) fun S n hS hn => ?_⟩
    refine ⟨D, S, n, rfl, upd_same, Nat.lt_of_le_of_lt hn h64, fun ns p k1 k2 _ hp => ?_⟩
    have tD : Then X.K H1 μ1 (upd H1 D (SetO X.w D S n)) μ1 := .new t1.cells hD
    exact q _ _ _ _ (t1.trans (tD.trans (.new tD.cells hp))) (rep_lst tD.cells hp (ints_rep ns)) (d2 ns k1 fun k => (k2 k).trans (hS k))⟩⟩
end
end Dl

set_option Elab.async false
set_option linter.all false
set_option maxRecDepth 100000
/-! sorted whole numbers -/
namespace Dl
open PySem PySem.Spec PyProof.Rows L2
def gSortI : GC := fun ds μ Q => one ds fun x => ∃ ns : List Int, rd μ x = .lst (ns.map D.int) ∧ ∀ ns' : List Int, ns'.Perm ns → ns'.Pairwise (· ≤ ·) → Q (.lst (ns'.map D.int)) μ
theorem gSortI_p : ∀ ds μ Q, Dl.gSortI ds μ Q = (one ds fun x => ∃ ns : List Int, rd μ x = .lst (ns.map D.int) ∧ ∀ ns' : List Int, ns'.Perm ns → ns'.Pairwise (· ≤ ·) → Q (.lst (ns'.map D.int)) μ) := fun _ _ _ => Eq.trans (Eq.symm (Eq.refl _)) (Eq.refl _)
theorem c_sortI {X : Cx} {K : PySem.W.Frag} (hK : X.K = K) : DCl X (.builtin "sorted") (rSortedI K) gSortI := by
  subst hK
  exact ⟨cr_sortedI, fun {xs ds H μ Q Q'} c r d q => by
    obtain ⟨x, rfl, ns, e, d2⟩ := one_inv d
    obtain ⟨v, rfl, r0⟩ := r.inv1
    obtain ⟨a, vs, rfl, ha, ra, _⟩ := stands c r0 e
    rw [ints_in ra] at ha
    exact ⟨a, ns, rfl, SqL.of ha, fun ns' p hp hs hn => q _ _ _ _ (.new c hn) (rep_lst c hn (ints_rep ns')) (d2 ns' hp hs)⟩⟩
end Dl

set_option Elab.async false
set_option linter.all false
set_option maxRecDepth 100000
/-! list(range(n)) -/
namespace Dl
open PySem PySem.Spec PyProof.Rows L2
def dLRg (d : DTE) : DTE := fun E δ μ Q => d E δ μ fun x μ1 => x.toI fun n => 0 ≤ n ∧ n ≤ 16777216 ∧ Q (.lst (rngD 0 n.toNat)) μ1
theorem dLRg_p (d : DTE) : ∀ E δ μ Q, Dl.dLRg d E δ μ Q = (d E δ μ fun x μ1 => x.toI fun n => 0 ≤ n ∧ n ≤ 16777216 ∧ Q (.lst (rngD 0 n.toNat)) μ1) := fun _ _ _ _ => Eq.trans (Eq.symm (Eq.refl _)) (Eq.refl _)
section
variable {X : Cx} {E : XK} {a : Expr} {ta : TE} {da : DTE} {p p2 q2 pos : Pos}
theorem de_listRg (hc : X.calm = true) (hg : Gl X "list") (hm : X.mg "list" = none) (hg2 : Gl X "range") (hm2 : X.mg "range" = none) (h : DE X E a ta da)
    (na : starEach [a] X.env = (false, eval a X.env) :: starEach [] X.env := by rfl) (na2 : starEach [.Call (.Name "range" p2) [a] [] q2] X.env = (false, eval (.Call (.Name "range" p2) [a] [] q2) X.env) :: starEach [] X.env := by rfl) :
    DE X E (.Call (.Name "list" p) [.Call (.Name "range" p2) [a] [] q2] [] pos) (tLstRg (tRg1 ta)) (dLRg da) :=
  ⟨pe_listRg hc hg hm (prg_1 hg2 hm2 h.pe na) na2, ⟨fun {σ H δ μ Q Q' E'} hh x d q => h.sn.go hh x d fun v y H1 μ1 t1 r1 d1 => by
    obtain ⟨n, rfl, h0, h1, d2⟩ := toI_inv d1
    refine ⟨n, r1.int_inv, .of_le (Int.le_refl 0) h1 (by decide) h0, fun r hr => ?_⟩
    have e : rgV 0 n = ((List.range n.toNat).map fun i : Nat => (0 : Int) + (i : Int)).map V.int := by
      unfold rgV
      rw [List.map_map, Int.sub_zero]
      rfl
    have e2 : rngD 0 n.toNat = ((List.range n.toNat).map fun i : Nat => (0 : Int) + (i : Int)).map D.int := by
      unfold rngD
      rw [List.map_map]
      rfl
    rw [e2] at d2
    rw [e]
    exact q _ _ _ _ (t1.trans (.new t1.cells hr)) (rep_lst t1.cells hr (ints_rep _)) d2⟩⟩
end
end Dl

set_option Elab.async false
set_option linter.all false
set_option maxRecDepth 100000
/-! dicts with whole numbers and texts for keys, read -/
namespace Dl
open PySem PySem.Spec PyProof.Rows L2
def keyD : D → Option Key
  | .int i => some (.inl i)
  | .str l => some (.inr (ofL l))
  | _ => none
def atD : List Key → List D → Key → Option D
  | k :: ks, x :: xs, j => if k = j then some x else atD ks xs j
  | _, _, _ => none
/-- a dict and a key of it -/
def dkK (d y : D) (k : List Key → List D → Key → Prop) : Prop := match d, keyD y with | .dK ks xs, some j => k ks xs j | _, _ => False
def isDk (d : D) : Prop := match d with | .dK .. => True | _ => False
section
variable {K : PySem.W.Frag} {H : Hp} {μ : Mu} {v : V} {d : D}
theorem keyD_rep {k : Key} (h : keyD d = some k) (r : Rep K H μ v d) : v = kV k := by
  cases d with
  | int i => cases h; exact r.int_inv
  | str l => cases h; exact r.str_inv
  | _ => cases h
theorem atD_rep : ∀ {kvs : List (Key × V)} {xs : List D}, Reps K H μ (kvs.map (·.2)) xs → ∀ k, (valV kvs k = none ∧ atD (kvs.map (·.1)) xs k = none) ∨ ∃ v x, valV kvs k = some v ∧ atD (kvs.map (·.1)) xs k = some x ∧ Rep K H μ v x
  | [], xs, _, k => .inl ⟨rfl, by cases xs <;> rfl⟩
  | p :: kvs, xs, r, k => by
    rw [List.map_cons] at r
    cases r with
    | @cons _ x _ xs h r =>
      by_cases e : p.1 = k
      · exact .inr ⟨p.2, x, valV_pos e, by show (if p.1 = k then some x else _) = _; rw [if_pos e], h⟩
      · rw [valV_neg e]
        show (_ ∧ (if p.1 = k then some x else atD (kvs.map (·.1)) xs k) = none) ∨ ∃ v y, _ ∧ (if p.1 = k then some x else atD (kvs.map (·.1)) xs k) = some y ∧ _
        rw [if_neg e]
        exact atD_rep r k
theorem rd_dk {ks : List Key} {xs : List D} (c : Cells K H μ) (r : Rep K H μ v d) (e : rd μ d = .dK ks xs) : ∃ a kvs, v = .ref a ∧ Rd H a (.dK kvs) ∧ ks = kvs.map (·.1) ∧ Reps K H μ (kvs.map (·.2)) xs := by
  rcases rd_inv c r with h | ⟨a, hv, hd, hm, hc⟩
  · rw [h] at e; subst e
    cases r with
    | obj m nt c => cases c with | dK h2 r => exact ⟨_, _, rfl, h2, rfl, r⟩
  · rw [e] at hc
    cases hc with | dK h2 r => exact ⟨a, _, hv, h2, rfl, r⟩
theorem dkK_inv {y : D} {k : List Key → List D → Key → Prop} (h : dkK d y k) : ∃ ks xs j, d = .dK ks xs ∧ keyD y = some j ∧ k ks xs j := by
  unfold dkK at h
  split at h
  · exact ⟨_, _, _, rfl, by assumption, h⟩
  · exact h.elim
theorem isDk_rd (c : Cells K H μ) (r : Rep K H μ v d) (h : isDk (rd μ d)) : ∃ a, v = .ref a ∧ IsD H a := by
  cases e : rd μ d with
  | dK ks xs =>
    obtain ⟨a, kvs, rfl, hd, _, _⟩ := rd_dk c r e
    exact ⟨a, rfl, .inl ⟨kvs, hd⟩⟩
  | _ => rw [e] at h; exact h.elim
end
def dDGet1 (a b : DTE) : DTE := fun E δ μ Q => a E δ μ fun x μ1 => isDk (rd μ1 x) ∧ b E δ μ1 fun y μ2 => dkK (rd μ2 x) y fun ks xs k => Q ((atD ks xs k).getD .non) μ2
def dDGet2 (a b c : DTE) : DTE := fun E δ μ Q => a E δ μ fun x μ1 => isDk (rd μ1 x) ∧ b E δ μ1 fun y μ2 => c E δ μ2 fun z μ3 => dkK (rd μ3 x) y fun ks xs k => Q ((atD ks xs k).getD z) μ3
def dDGet (a b : DTE) : DTE := fun E δ μ Q => a E δ μ fun x μ1 => b E δ μ1 fun y μ2 => dkK (rd μ2 x) y fun ks xs k => ∃ z, atD ks xs k = some z ∧ Q z μ2
def gInD (neg : Bool) : G2 := fun y x μ Q => dkK (rd μ x) y fun ks xs k => Q (.bl (if neg then !(atD ks xs k).isSome else (atD ks xs k).isSome)) μ
section
variable {X : Cx} {E : XK} {o e f : Expr} {apos cpos pos : Pos} {td ty tx : TE} {dd dy dx : DTE}
theorem de_dget1 (hu : X.A.units + 1 < cLine) (ho : DE X E o td dd) (he : DE X E e ty dy) (m : M1 X o "get" apos e cpos) : DE X E (.Call (.Attribute o "get" apos) [e] [] cpos) (tDGet1 td ty) (dDGet1 dd dy) :=
  ⟨pe_dget1 hu ho.pe he.pe m, ⟨fun {σ H δ μ Q Q' E'} hh x d q => ho.sn.go hh x d fun v y H1 μ1 t1 r1 d1 => by
    obtain ⟨a, rfl, hd⟩ := isDk_rd t1.cells r1 d1.1
    refine ⟨a, rfl, hd, he.sn.go (hh.go t1) (x.go t1) d1.2 fun u z H2 μ2 t2 r2 d2 => ?_⟩
    obtain ⟨ks, xs, k, e1, e2, d3⟩ := dkK_inv d2
    obtain ⟨b, kvs, eb, hk, rfl, rr⟩ := rd_dk t2.cells (r1.grow t2.g) e1
    cases eb
    cases keyD_rep e2 r2
    refine ⟨valV kvs k, .inl ⟨kvs, k, hk, rfl, rfl⟩, ?_⟩
    rcases atD_rep rr k with ⟨h1, h2⟩ | ⟨w, z2, h1, h2, h3⟩
    · rw [h1]; rw [h2] at d3; exact q _ _ _ _ (t1.trans t2) .non d3
    · rw [h1]; rw [h2] at d3; exact q _ _ _ _ (t1.trans t2) h3 d3⟩⟩
theorem de_dget2 (hu : X.A.units + 1 < cLine) (ho : DE X E o td dd) (he : DE X E e ty dy) (hf : DE X E f tx dx) (m : M2 X o "get" apos e f cpos) : DE X E (.Call (.Attribute o "get" apos) [e, f] [] cpos) (tDGet2 td ty tx) (dDGet2 dd dy dx) :=
  ⟨pe_dget2 hu ho.pe he.pe hf.pe m, ⟨fun {σ H δ μ Q Q' E'} hh x d q => ho.sn.go hh x d fun v y H1 μ1 t1 r1 d1 => by
    obtain ⟨a, rfl, hd⟩ := isDk_rd t1.cells r1 d1.1
    refine ⟨a, rfl, hd, he.sn.go (hh.go t1) (x.go t1) d1.2 fun u z H2 μ2 t2 r2 d2 => hf.sn.go ((hh.go t1).go t2) ((x.go t1).go t2) d2 fun u2 z2 H3 μ3 t3 r3 d3 => ?_⟩
    obtain ⟨ks, xs, k, e1, e2, d4⟩ := dkK_inv d3
    obtain ⟨b, kvs, eb, hk, rfl, rr⟩ := rd_dk t3.cells ((r1.grow t2.g).grow t3.g) e1
    cases eb
    cases keyD_rep e2 r2
    refine ⟨valV kvs k, .inl ⟨kvs, k, hk, rfl, rfl⟩, ?_⟩
    rcases atD_rep rr k with ⟨h1, h2⟩ | ⟨w, z3, h1, h2, h3⟩
    · rw [h1]; rw [h2] at d4; exact q _ _ _ _ ((t1.trans t2).trans t3) r3 d4
    · rw [h1]; rw [h2] at d4; exact q _ _ _ _ ((t1.trans t2).trans t3) h3 d4⟩⟩
theorem de_dget (hu : X.A.units + 1 < cLine) (ho : DE X E o td dd) (he : DE X E e ty dy) (hs : NoSl e) : DE X E (.Subscript o e pos) (tDGet td ty) (dDGet dd dy) :=
  ⟨pe_dget hu ho.pe he.pe hs, ⟨fun {σ H δ μ Q Q' E'} hh x d q => ho.sn.go hh x d fun v y H1 μ1 t1 r1 d1 => he.sn.go (hh.go t1) (x.go t1) d1 fun u z H2 μ2 t2 r2 d2 => by
    obtain ⟨ks, xs, k, e1, e2, z2, e3, d3⟩ := dkK_inv d2
    obtain ⟨b, kvs, rfl, hk, rfl, rr⟩ := rd_dk t2.cells (r1.grow t2.g) e1
    cases keyD_rep e2 r2
    rcases atD_rep rr k with ⟨h1, h2⟩ | ⟨w, z3, h1, h2, h3⟩
    · rw [h2] at e3; cases e3
    · rw [h2] at e3; cases e3
      exact ⟨b, w, rfl, .inl ⟨kvs, k, hk, rfl, h1.symm⟩, q _ _ _ _ (t1.trans t2) h3 d3⟩⟩⟩
def rInD (neg : Bool) : R2 := fun y x H Q => ∃ a o, x = .ref a ∧ DGet H a y o ∧ Q (.bl (if neg then !o.isSome else o.isSome)) H
theorem o_inD (hu : X.A.units + 1 < cLine) : DOp X (compareOp .In) (rInD false) (gInD false) := ⟨fun pins s σ H x y v u Q I rx ry h => by
    obtain ⟨a, o, rfl, g, q⟩ := h
    cases ry
    exact d_in hu I g rx fun s' I' => ⟨.bl _, H, I', rfl, q⟩, fun {x y dx dy H μ Q Q'} c r1 r2 d q => by
    obtain ⟨ks, xs, k, e1, e2, d2⟩ := dkK_inv d
    obtain ⟨b, kvs, rfl, hk, rfl, rr⟩ := rd_dk c r2 e1
    cases keyD_rep e2 r1
    refine ⟨b, valV kvs k, rfl, .inl ⟨kvs, k, hk, rfl, rfl⟩, ?_⟩
    rcases atD_rep rr k with ⟨h1, h2⟩ | ⟨w, z3, h1, h2, h3⟩
    · rw [h1]; rw [h2] at d2; exact q _ _ _ _ (.refl c) (.bl _) d2
    · rw [h1]; rw [h2] at d2; exact q _ _ _ _ (.refl c) (.bl _) d2⟩
theorem o_ninD (hu : X.A.units + 1 < cLine) : DOp X (compareOp .NotIn) (rInD true) (gInD true) := ⟨fun pins s σ H x y v u Q I rx ry h => by
    obtain ⟨a, o, rfl, g, q⟩ := h
    cases ry
    exact d_notIn hu I g rx fun s' I' => ⟨.bl _, H, I', rfl, q⟩, fun {x y dx dy H μ Q Q'} c r1 r2 d q => by
    obtain ⟨ks, xs, k, e1, e2, d2⟩ := dkK_inv d
    obtain ⟨b, kvs, rfl, hk, rfl, rr⟩ := rd_dk c r2 e1
    cases keyD_rep e2 r1
    refine ⟨b, valV kvs k, rfl, .inl ⟨kvs, k, hk, rfl, rfl⟩, ?_⟩
    rcases atD_rep rr k with ⟨h1, h2⟩ | ⟨w, z3, h1, h2, h3⟩
    · rw [h1]; rw [h2] at d2; exact q _ _ _ _ (.refl c) (.bl _) d2
    · rw [h1]; rw [h2] at d2; exact q _ _ _ _ (.refl c) (.bl _) d2⟩
end
end Dl

set_option Elab.async false
set_option linter.all false
set_option maxRecDepth 100000
/-! comprehensions whose turns make cells -/
namespace Dl
open PySem PySem.Spec PyProof.Rows L2
theorem lcL_mu {g : DTG} {tt : DTT} {te : DTE} {δ : Sl} {L : Addr} {C : Mu → Prop} {k : List D → Mu → Prop} {xs : List D} {μ : Mu} (P : Nat → List D → Mu → Prop) (h0 : P 0 [] μ) (hμ : μ L = some (.lst [])) (hl : xs.length ≤ 16777216)
    (hC : ∀ i acc μ', P i acc μ' → C μ')
    (hs : ∀ i x acc (μ' : Mu) (c : Option D → Mu → Prop), xs[i]? = some x → P i acc μ' → μ' L = some (.lst acc) → acc.length ≤ i →
      (∀ y μ2, μ2 L = some (.lst acc) → P (i + 1) (acc ++ [y]) (mup μ2 L (.lst (acc ++ [y]))) → c (some y) μ2) → (∀ μ2, μ2 L = some (.lst acc) → P (i + 1) acc μ2 → c none μ2) → lcStep g tt te δ x μ' c)
    (hd : ∀ acc μ', P xs.length acc μ' → μ' L = some (.lst acc) → acc.length ≤ xs.length → k acc μ') : lcL g tt te δ L C k xs [] μ := by
  have gen : ∀ (n : Nat) (i : Nat), xs.length - i = n → i ≤ xs.length → ∀ acc μ', acc.length ≤ i → μ' L = some (.lst acc) → P i acc μ' → lcL g tt te δ L C k (xs.drop i) acc μ' := by
    intro n
    induction n with
    | zero =>
      intro i hn hi acc μ' ha hm p
      have e : i = xs.length := by omega
      subst e
      rw [List.drop_length]
      exact ⟨hC _ _ _ p, hm, hd acc μ' p hm ha⟩
    | succ n ih =>
      intro i hn hi acc μ' ha hm p
      have hlt : i < xs.length := by omega
      rw [List.drop_eq_getElem_cons hlt]
      rw [lcL]
      refine ⟨hC _ _ _ p, hs i _ acc μ' _ (List.getElem?_eq_getElem hlt) p hm ha (fun y μ2 h2 p' => ?_) (fun μ2 h2 p' => ?_)⟩
      · exact ⟨h2, by omega, ih (i + 1) (by omega) hlt _ _ (by rw [List.length_append]; simp; omega) mup_same p'⟩
      · exact ih (i + 1) (by omega) hlt _ _ (by omega) h2 p'
  simpa using gen _ 0 rfl (Nat.zero_le _) [] μ (Nat.le_refl _) hμ h0
end Dl

set_option Elab.async false
set_option linter.all false
set_option maxRecDepth 100000
/-! == through cells at any depth -/
namespace Dl
open PySem PySem.Spec PyProof.Rows L2
def rdN : Nat → Mu → D → D
  | 0, μ, d => rd μ d
  | n + 1, μ, d => match rd μ d with
    | .lst xs => .lst (xs.map (rdN n μ))
    | .tup xs => .tup (xs.map (rdN n μ))
    | d => d
section
variable {K : PySem.W.Frag} {H : Hp} {μ : Mu}
theorem consN_dp {m : Nat} (ih : ∀ {d : D} {n : Nat} {v : V}, Rep K H μ v d → isP n (rdN m μ d) = true → Dp K H v (toP (rdN m μ d))) : ∀ {xs : List D} {n : Nat} {vs : List V}, isPs n (xs.map (rdN m μ)) = true → Reps K H μ vs xs → DpAll K H vs (toPs (xs.map (rdN m μ)))
  | [], n, vs, _, r => by cases r.nil_inv; rw [List.map_nil, toPs]; exact .nil
  | x :: xs, n, vs, h, r => by
    obtain ⟨v, r0, rfl, h1, h2⟩ := r.cons_inv
    rw [List.map_cons, isPs, Bool.and_eq_true] at h
    rw [List.map_cons, toPs]
    exact .cons (ih h1 h.1) (consN_dp ih h.2 h2)
theorem con_dpN (c : Cells K H μ) : ∀ (m : Nat) {d : D} {n : Nat} {v : V}, Rep K H μ v d → isP n (rdN m μ d) = true → Dp K H v (toP (rdN m μ d))
  | 0, _, _, _, r, h => con_dp c r h
  | m + 1, d, n, v, r, h => by
    unfold rdN at h ⊢
    cases e : rd μ d with
    | lst xs =>
      simp only [e] at h ⊢
      obtain ⟨a, vs, rfl, ha, ra⟩ := rd_lst c r e
      cases n with
      | zero => cases h
      | succ n => rw [toP]; exact .lst (SqL.of ha) (consN_dp (con_dpN c m) (n := n) h ra)
    | tup xs =>
      simp only [e] at h ⊢
      obtain ⟨a, vs, rfl, ha, ra⟩ := rd_tup c r e
      cases n with
      | zero => cases h
      | succ n => rw [toP]; exact .tup ha (consN_dp (con_dpN c m) (n := n) h ra)
    | _ => simp only [e] at h ⊢; rw [← e] at h ⊢; exact con_dp c r h
end
def gEqX (neg : Bool) : G2 := fun x y μ Q => isP 9 (rdN 3 μ x) = true ∧ isP 9 (rdN 3 μ y) = true ∧ Q (.bl (if neg then !PyData.eqv (toP (rdN 3 μ x)) (toP (rdN 3 μ y)) else PyData.eqv (toP (rdN 3 μ x)) (toP (rdN 3 μ y)))) μ
theorem gEqX_p (neg : Bool) : ∀ x y μ Q, gEqX neg x y μ Q = (isP 9 (rdN 3 μ x) = true ∧ isP 9 (rdN 3 μ y) = true ∧ Q (.bl (if neg then !PyData.eqv (toP (rdN 3 μ x)) (toP (rdN 3 μ y)) else PyData.eqv (toP (rdN 3 μ x)) (toP (rdN 3 μ y)))) μ) := fun _ _ _ _ => Eq.trans (Eq.symm (Eq.refl _)) (Eq.refl _)
theorem o_eqX {K : PySem.W.Frag} {X : Cx} (hu : X.A.units + 64 < cLine) (hK : X.K = K := by rfl) : DOp X (compareOp .Eq) (rEqD K) (gEqX false) := by
 subst hK
 exact ⟨op_eqD hu, fun {x y dx dy H μ Q Q'} c r1 r2 d q =>
  ⟨_, _, con_dpN c 3 r1 d.1, con_dpN c 3 r2 d.2.1, isP_shaped (by decide) d.1, isP_shaped (by decide) d.2.1, q _ _ _ _ (.refl c) (.bl _) d.2.2⟩⟩
theorem o_neX {K : PySem.W.Frag} {X : Cx} (hu : X.A.units + 64 < cLine) (hK : X.K = K := by rfl) : DOp X (compareOp .NotEq) (rNeD K) (gEqX true) := by
 subst hK
 exact ⟨op_neD hu, fun {x y dx dy H μ Q Q'} c r1 r2 d q =>
  ⟨_, _, con_dpN c 3 r1 d.1, con_dpN c 3 r2 d.2.1, isP_shaped (by decide) d.1, isP_shaped (by decide) d.2.1, q _ _ _ _ (.refl c) (.bl _) d.2.2⟩⟩
theorem isP_rd {μ : Mu} {k : Nat} {d : D} (h : isP k d = true) : rd μ d = d := by
  cases d with
  | ref a => cases k <;> cases h
  | _ => rfl
/-- what leads to no cell -/
theorem rdN_isP {μ : Mu} : ∀ (n : Nat) {k : Nat} {d : D}, isP k d = true → rdN n μ d = d
  | 0, _, _, h => isP_rd h
  | n + 1, k, d, h => by
    unfold rdN
    rw [isP_rd h]
    have each : ∀ {m : Nat} {xs : List D}, isPs m xs = true → xs.map (rdN n μ) = xs := fun {m xs} h => by
      have : xs.map (rdN n μ) = xs.map id := List.map_congr_left fun x hx => rdN_isP n (isPs_iff.mp h x hx)
      rw [this, List.map_id]
    cases d with
    | lst xs => cases k with
      | zero => cases h
      | succ k => show D.lst (xs.map (rdN n μ)) = _; rw [each (m := k) h]
    | tup xs => cases k with
      | zero => cases h
      | succ k => show D.tup (xs.map (rdN n μ)) = _; rw [each (m := k) h]
    | _ => rfl
end Dl

set_option Elab.async false
set_option linter.all false
set_option maxRecDepth 100000
/-! dicts with whole numbers and texts for keys, made and written -/
namespace Dl
open PySem PySem.Spec PyProof.Rows L2
abbrev AL := List (Key × D)
def dkD (l : AL) : D := .dK (l.map (·.1)) (l.map (·.2))
def hasA (l : AL) (k : Key) : Bool := l.any fun p => decide (p.1 = k)
def putA (l : AL) (k : Key) (x : D) : AL := if hasA l k = true then l.map (fun p => if p.1 = k then (p.1, x) else p) else l ++ [(k, x)]
def lookA : AL → Key → Option D
  | [], _ => none
  | p :: l, k => if p.1 = k then some p.2 else lookA l k
theorem atD_look : ∀ (l : AL) (k : Key), atD (l.map (·.1)) (l.map (·.2)) k = lookA l k
  | [], _ => rfl
  | p :: l, k => by
    show (if p.1 = k then some p.2 else atD (l.map (·.1)) (l.map (·.2)) k) = if p.1 = k then some p.2 else lookA l k
    rw [atD_look l k]
theorem zip_dk (l : AL) : (l.map (·.1)).zip (l.map (·.2)) = l := by
  induction l with
  | nil => rfl
  | cons p l ih => rw [List.map_cons, List.map_cons, List.zip_cons_cons, ih]
theorem hasA_look : ∀ (l : AL) (k : Key), hasA l k = (lookA l k).isSome
  | [], _ => rfl
  | p :: l, k => by
    show (decide (p.1 = k) || hasA l k) = (if p.1 = k then some p.2 else lookA l k).isSome
    by_cases h : p.1 = k
    · rw [decide_eq_true h, if_pos h]; rfl
    · rw [decide_eq_false h, if_neg h, Bool.false_or, hasA_look l k]
theorem lookA_app : ∀ (l m : AL) (k : Key), lookA (l ++ m) k = (lookA l k).or (lookA m k)
  | [], m, k => by
    show lookA m k = (none : Option D).or (lookA m k)
    rw [Option.none_or]
  | p :: l, m, k => by
    show (if p.1 = k then some p.2 else lookA (l ++ m) k) = (if p.1 = k then some p.2 else lookA l k).or _
    by_cases h : p.1 = k
    · rw [if_pos h, if_pos h]; rfl
    · rw [if_neg h, if_neg h, lookA_app l m k]
theorem lookA_upd (k j : Key) (x : D) : ∀ l : AL, lookA (l.map fun p => if p.1 = k then (p.1, x) else p) j = if j = k then (lookA l j).map fun _ => x else lookA l j
  | [] => by by_cases h : j = k <;> simp [h, lookA]
  | p :: l => by
    have ih := lookA_upd k j x l
    rw [List.map_cons]
    by_cases h : p.1 = k
    · rw [if_pos h]
      show (if p.1 = j then some x else lookA _ j) = if j = k then (if p.1 = j then some p.2 else lookA l j).map (fun _ => x) else (if p.1 = j then some p.2 else lookA l j)
      rw [ih]
      by_cases hj : j = k
      · rw [if_pos hj, if_pos hj, if_pos (h.trans hj.symm), if_pos (h.trans hj.symm)]; rfl
      · rw [if_neg hj, if_neg hj, if_neg (fun e => hj (e.symm.trans h)), if_neg (fun e => hj (e.symm.trans h))]
    · rw [if_neg h]
      show (if p.1 = j then some p.2 else lookA _ j) = if j = k then (if p.1 = j then some p.2 else lookA l j).map (fun _ => x) else (if p.1 = j then some p.2 else lookA l j)
      rw [ih]
      by_cases hj : j = k
      · rw [if_pos hj, if_pos hj, if_neg (fun e => h (e.trans hj)), if_neg (fun e => h (e.trans hj))]
      · rw [if_neg hj, if_neg hj]
theorem lookA_put (l : AL) (k j : Key) (x : D) : lookA (putA l k x) j = if j = k then some x else lookA l j := by
  unfold putA
  rw [hasA_look]
  cases h : lookA l k with
  | none =>
    rw [if_neg (by simp), lookA_app]
    show (lookA l j).or (if k = j then some x else none) = _
    by_cases hj : j = k
    · rw [if_pos hj, hj, h, if_pos rfl]; rfl
    · rw [if_neg hj, if_neg (fun e => hj e.symm)]; cases lookA l j <;> rfl
  | some y =>
    rw [if_pos (by rfl), lookA_upd]
    by_cases hj : j = k
    · rw [if_pos hj, if_pos hj, hj, h]; rfl
    · rw [if_neg hj, if_neg hj]
theorem putA_new {l : AL} {k : Key} {x : D} (h : lookA l k = none) : putA l k x = l ++ [(k, x)] := by
  unfold putA
  rw [hasA_look, h]; rfl
def kD : Key → D
  | .inl i => .int i
  | .inr s => .str s.cps.toList
def itD (p : Key × D) : D := .tup [kD p.1, p.2]
theorem keyD_kD (k : Key) : keyD (kD k) = some k := by
  cases k with
  | inl i => rfl
  | inr s => show some (Sum.inr (ofL s.cps.toList)) = _; rfl
section
variable {K : PySem.W.Frag} {H : Hp} {μ : Mu} {v : V} {x : D}
theorem kD_rep (k : Key) : Rep K H μ (kV k) (kD k) := by
  cases k with
  | inl i => exact .int i
  | inr s => exact .str _
theorem any_keys {α β γ : Type} [DecidableEq α] {kvs : List (α × β)} {l : List (α × γ)} (hk : kvs.map (·.1) = l.map (·.1)) (k : α) : (kvs.any fun p => decide (p.1 = k)) = l.any fun p => decide (p.1 = k) := by
  have := congrArg (fun z : List α => z.any fun j => decide (j = k)) hk
  simp only [List.any_map] at this
  exact this
theorem reps_put {kvs : List (Key × V)} {l : AL} (hk : kvs.map (·.1) = l.map (·.1)) (r : Reps K H μ (kvs.map (·.2)) (l.map (·.2))) (rv : Rep K H μ v x) (k : Key) :
    (putK kvs k v).map (·.1) = (putA l k x).map (·.1) ∧ Reps K H μ ((putK kvs k v).map (·.2)) ((putA l k x).map (·.2)) := by
  unfold putK putA hasA
  rw [any_keys hk k]
  split
  · rename_i hany
    clear hany
    induction kvs generalizing l with
    | nil => cases l with
      | nil => exact ⟨rfl, .nil⟩
      | cons _ _ => cases hk
    | cons p kvs ih => cases l with
      | nil => cases hk
      | cons q l =>
        simp only [List.map_cons, List.cons.injEq] at hk
        rw [List.map_cons, List.map_cons] at r
        cases r with | cons h r =>
        obtain ⟨a, b⟩ := ih hk.2 r
        simp only [List.map_cons]
        rw [hk.1]
        by_cases e : q.1 = k
        · rw [if_pos e, if_pos e]
          exact ⟨by rw [a], .cons rv b⟩
        · rw [if_neg e, if_neg e]
          exact ⟨by rw [hk.1, a], .cons h b⟩
  · rw [List.map_append, List.map_append, List.map_append, List.map_append, hk]
    exact ⟨rfl, r.append (.one rv)⟩
theorem dk_exact {a : Addr} {l : AL} (c : Con K H μ a (dkD l) ∧ NF H a) : ∃ kvs : List (Key × V), H a = some (.dK kvs) ∧ kvs.map (·.1) = l.map (·.1) ∧ Reps K H μ (kvs.map (·.2)) (l.map (·.2)) := by
  obtain ⟨c, n⟩ := c
  unfold dkD at c
  generalize e1 : l.map (·.1) = ks at *
  generalize e2 : l.map (·.2) = xs at *
  cases c with
  | dK h r =>
    rcases h with h | ⟨o, h⟩
    · exact ⟨_, h, rfl, r⟩
    · exact absurd h (n o _)
theorem con_dk {a : Addr} {l : AL} {kvs : List (Key × V)} (h : Rd H a (.dK kvs)) (hk : kvs.map (·.1) = l.map (·.1)) (r : Reps K H μ (kvs.map (·.2)) (l.map (·.2))) : Con K H μ a (dkD l) := by
  unfold dkD
  rw [← hk]
  exact .dK h r
theorem rd_dkD {d : D} {l : AL} (c : Cells K H μ) (r : Rep K H μ v d) (e : rd μ d = dkD l) : ∃ a kvs, v = .ref a ∧ Rd H a (.dK kvs) ∧ kvs.map (·.1) = l.map (·.1) ∧ Reps K H μ (kvs.map (·.2)) (l.map (·.2)) := by
  obtain ⟨a, kvs, h1, h2, h3, h4⟩ := rd_dk c r e
  exact ⟨a, kvs, h1, h2, h3.symm, h4⟩
end
def celK (μ : Mu) (d : D) (k : Addr → AL → Prop) : Prop := match d with | .ref p => (match μ p with | some (.dK ks xs) => ks.length = xs.length ∧ k p (ks.zip xs) | _ => False) | _ => False
theorem celK_ref {μ : Mu} {p : Addr} {l : AL} {k : Addr → AL → Prop} (h : μ p = some (dkD l)) : celK μ (.ref p) k = k p l := by
  unfold celK
  simp only [h, dkD, zip_dk, List.length_map, true_and]
theorem zip_fst {ks : List Key} {xs : List D} (h : ks.length = xs.length) : dkD (ks.zip xs) = .dK ks xs := by
  unfold dkD
  rw [List.map_fst_zip (by omega), List.map_snd_zip (by omega)]
theorem celK_inv {μ : Mu} {d : D} {k : Addr → AL → Prop} (h : celK μ d k) : ∃ p l, d = .ref p ∧ μ p = some (dkD l) ∧ k p l := by
  cases d with
  | ref p =>
    unfold celK at h
    cases e : μ p with
    | none => simp only [e] at h
    | some z =>
      cases z with
      | dK ks xs =>
        simp only [e] at h
        exact ⟨p, _, rfl, by rw [zip_fst h.1]; exact e, h.2⟩
      | _ => simp only [e] at h
  | _ => exact h.elim
/-! {} -/
def dDict0 : DTE := fun _ _ μ Q => ∀ p, μ p = none → Q (.ref p) (mup μ p (dkD []))
section
variable {X : Cx} {E : XK} {o i value : Expr} {td ty tv : TE} {dd dy dv : DTE} {pos pos' : Pos}
theorem de_dict0 : DE X E (.Dict [] [] pos) tDNewK dDict0 := ⟨pe_dnewK, ⟨fun {σ H δ μ Q Q' E'} hh x d q p hp =>
  q _ _ _ _ (.cell hh.cells hp (con_dk (.inl upd_same) rfl .nil)) (.ref p) (d p (mu_none hh.cells hp))⟩⟩
/-! d[k] = v -/
def sDPutD (td ty tv : DTE) : DTS := fun E D δ μ => tv E δ μ fun v μ1 => td E δ μ1 fun x μ2 => ty E δ μ2 fun y μ3 => celK μ3 x fun p l => ∃ k, keyD y = some k ∧ l.length < 16777216 ∧ D.nx δ (mup μ3 p (dkD (putA l k v)))
theorem ds_dput (hu : X.A.units + 1 < cLine) (ho : DE X E o td dd) (hi : DE X E i ty dy) (hv : DE X E value tv dv) (hs : swapsWith value (some (.Subscript o i pos')) pos.line X.env = pure false := by rfl) :
    DS X E (.Assign [.Subscript o i pos'] value pos) (sDPut td ty tv) (sDPutD dd dy dv) :=
  ⟨ps_dput hu ho.pe hi.pe hv.pe hs, ⟨fun {σ H δ μ D D' E'} hh x d q => hv.sn.go hh x d fun v dv H1 μ1 t1 r1 d1 => ho.sn.go (hh.go t1) (x.go t1) d1 fun u du H2 μ2 t2 r2 d2 => hi.sn.go ((hh.go t1).go t2) ((x.go t1).go t2) d2 fun y dy H3 μ3 t3 r3 d3 => by
    obtain ⟨p, l, rfl, hp, k, ek, hl, d4⟩ := celK_inv d3
    obtain ⟨kvs, hH, hk, rr⟩ := dk_exact (t3.cells p _ hp)
    cases keyD_rep ek r3
    cases r2.ref_inv
    have hl2 : kvs.length = l.length := by have := congrArg List.length hk; rwa [List.length_map, List.length_map] at this
    have g : Grow H3 μ3 (upd H3 p (.dK (putK kvs k v))) (mup μ3 p (dkD (putA l k dv))) := .put hH (fun _ z => by cases z) hp
    obtain ⟨k1, k2⟩ := reps_put hk rr ((r1.grow t2.g).grow t3.g) k
    have tp : Then X.K H3 μ3 (upd H3 p (.dK (putK kvs k v))) (mup μ3 p (dkD (putA l k dv))) := .put t3.cells hH (fun _ z => by cases z) hp (con_dk (.inl upd_same) k1 (k2.grow g))
    have ta := ((t1.trans t2).trans t3).trans tp
    exact ⟨p, _, rfl, .inl ⟨kvs, k, hH, rfl, by rw [sizeLine_eq]; omega, rfl⟩, q.nx _ _ _ _ ta (hh.slots.grow ta.g) d4⟩⟩⟩
end
/-! a dict's things, by {k: v for ..} -/
def dcStep (g : DTG) (tt : DTT) (tk tv : DTE) (δ : Sl) (x : D) (μ : Mu) (c : Option (Key × D) → Mu → Prop) : Prop :=
  g x δ μ fun δ2 μ2 => tt noX δ2 μ2 fun b μ3 => bif b then tk noX δ2 μ3 (fun y μ4 => tv noX δ2 μ4 fun z μ5 => ∃ j, keyD y = some j ∧ c (some (j, z)) μ5) else c none μ3
def dcL (g : DTG) (tt : DTT) (tk tv : DTE) (δ : Sl) (L : Addr) (C : Mu → Prop) (k : AL → Mu → Prop) : List D → AL → Mu → Prop
  | [], acc, μ => C μ ∧ μ L = some (dkD acc) ∧ k acc μ
  | x :: xs, acc, μ => C μ ∧ dcStep g tt tk tv δ x μ fun o μ5 => match o with
    | some p => μ5 L = some (dkD acc) ∧ acc.length < 16777216 ∧ dcL g tt tk tv δ L C k xs (putA acc p.1 p.2) (mup μ5 L (dkD (putA acc p.1 p.2)))
    | none => dcL g tt tk tv δ L C k xs acc μ5
def dDc (w : DTI) (g : DTG) (tt : DTT) (tk tv : DTE) (ws : List Nat) : DTE := fun E δ μ Q => w E δ μ fun xs C μ1 => ∀ L, μ1 L = none → dcL g tt tk tv (wipeD δ ws) L C (fun acc μ2 => Q (dkD acc) (era μ2 L)) xs [] (mup μ1 L (dkD []))
def dDcC (w : DTI) (g : DTG) (tt : DTT) (tk tv : DTE) (ws : List Nat) : DTE := fun E δ μ Q => w E δ μ fun xs C μ1 => ∀ L, μ1 L = none → dcL g tt tk tv (wipeD δ ws) L C (fun _ μ2 => Q (.ref L) μ2) xs [] (mup μ1 L (dkD []))
theorem se_dc {K : PySem.W.Frag} {E : XK} {wi : TI} {g : TG} {tt : TT} {tk tv : TE} {dw : DTI} {dg : DTG} {dt : DTT} {dk dv : DTE} {ws : List Nat} (hi : SI K E wi dw) (hg : SGw K ws g dg) (ht : ST K E0 tt dt) (hk : SE K E0 tk dk) (he : SE K E0 tv dv)
    (fin : DK → Addr → AL → Mu → Prop)
    (hf : ∀ {H μ Q Q' L acc}, Cells K H μ → QR K H μ Q Q' → μ L = some (dkD acc) → fin Q' L acc μ → Q (.ref L) H) :
    SE K E (tDc wi g tt tk tv ws) (fun E δ μ Q => dw E δ μ fun xs C μ1 => ∀ L, μ1 L = none → dcL dg dt dk dv (wipeD δ ws) L C (fin Q L) xs [] (mup μ1 L (dkD []))) :=
  ⟨fun {σ H δ μ Q Q' E'} hh x d q => hi.go hh x d fun J xs C H1 μ1 t1 w1 d1 L hL => by
    have d2 := d1 L (mu_none t1.cells hL)
    have t2 : Then K H1 μ1 (upd H1 L (.dK [])) (mup μ1 L (dkD [])) := .cell t1.cells hL (con_dk (.inl upd_same) rfl .nil)
    refine ⟨fun i m H' => m = xs.length - i ∧ i ≤ xs.length ∧ ∃ acc μ', Then K H1 μ1 H' μ' ∧ dcL dg dt dk dv (wipeD δ ws) L C (fin Q' L) (xs.drop i) acc μ', ⟨xs.length, by simp, Nat.zero_le _, [], _, t2, by simpa using d2⟩, ?_⟩
    rintro i m H3 ⟨rfl, hi, acc, μ3, t3, f3⟩
    have c3 : C μ3 := by
      cases hxs : xs.drop i with
      | nil => rw [hxs] at f3; exact f3.1
      | cons a r => rw [hxs] at f3; exact f3.1
    obtain ⟨go, stop⟩ := w1 i H3 μ3 t3 c3
    by_cases hlt : i < xs.length
    · obtain ⟨jgo, yl⟩ := go hlt
      refine .inr ⟨jgo, fun H' => ∃ acc μ', Then K H1 μ1 H' μ' ∧ dcL dg dt dk dv (wipeD δ ws) L C (fin Q' L) (xs.drop (i + 1)) acc μ', fun H' ⟨a, b, c, e⟩ => ⟨xs.length - (i + 1), by omega, rfl, hlt, a, b, c, e⟩, fun v H4 y => ?_⟩
      obtain ⟨dv', ev, t4, rv⟩ := yl v H4 y
      rw [List.drop_eq_getElem_cons hlt] at f3
      have ed : dv' = xs[i] := by rw [List.getElem?_eq_getElem hlt] at ev; exact (Option.some.inj ev).symm
      subst ed
      have s4 : Slots K H4 μ3 (wipe σ ws) (wipeD δ ws) := ((hh.slots.wipe ws).grow ((t1.trans t3).g)).grow t4.g
      refine hg.go ⟨t4.cells, s4⟩ rv f3.2 fun σ5 δ5 H5 μ5 t5 s5 e5 q5 => ⟨e5.trans wipe_wipe, ht.go ⟨t5.cells, s5⟩ xr_no q5 fun b H6 μ6 t6 q6 => ?_⟩
      have t16 := ((t3.trans t4).trans t5).trans t6
      cases b with
      | false =>
        rw [if_neg Bool.false_ne_true]
        exact ⟨acc, μ6, t16, q6⟩
      | true =>
        rw [if_pos rfl]
        refine hk.go ⟨t6.cells, s5.grow t6.g⟩ xr_no q6 fun w z H7 μ7 t7 r7 q7 => ?_
        refine he.go ⟨t7.cells, (s5.grow t6.g).grow t7.g⟩ xr_no q7 fun w2 z2 H8 μ8 t8 r8 q8 => ?_
        obtain ⟨j, ej, m8, l8, f8⟩ := q8
        obtain ⟨kvs, hH, hkk, rr⟩ := dk_exact (t8.cells L _ m8)
        cases keyD_rep ej r7
        have hl2 : kvs.length = acc.length := by have := congrArg List.length hkk; rwa [List.length_map, List.length_map] at this
        have g : Grow H8 μ8 (upd H8 L (.dK (putK kvs j w2))) (mup μ8 L (dkD (putA acc j z2))) := .put hH (fun _ z => by cases z) m8
        obtain ⟨k1, k2⟩ := reps_put hkk rr r8 j
        have tp : Then K H8 μ8 (upd H8 L (.dK (putK kvs j w2))) (mup μ8 L (dkD (putA acc j z2))) := .put t8.cells hH (fun _ z => by cases z) m8 (con_dk (.inl upd_same) k1 (k2.grow g))
        exact ⟨kvs, j, rfl, hH, by rw [sizeLine_eq]; omega, putA acc j z2, _, ((t16.trans t7).trans t8).trans tp, f8⟩
    · have e : i = xs.length := by omega
      subst e
      rw [List.drop_length] at f3
      exact .inl ⟨stop rfl, hf t3.cells ((q.go t1).go t3) f3.2.1 f3.2.2⟩⟩
theorem finK_v {K : PySem.W.Frag} {H : Hp} {μ : Mu} {Q : VK} {Q' : DK} {L : Addr} {acc : AL} (c : Cells K H μ) (q : QR K H μ Q Q') (m : μ L = some (dkD acc)) (f : Q' (dkD acc) (era μ L)) : Q (.ref L) H := q _ _ _ _ (.freeze c) (rep_freeze c m) f
theorem finK_c {K : PySem.W.Frag} {H : Hp} {μ : Mu} {Q : VK} {Q' : DK} {L : Addr} {acc : AL} (c : Cells K H μ) (q : QR K H μ Q Q') (m : μ L = some (dkD acc)) (f : Q' (.ref L) μ) : Q (.ref L) H := q _ _ _ _ (.refl c) (.ref L) f
section
variable {X : Cx} {E : XK} {kx vx tg iter : Expr} {ifs : List Expr} {scope : Scope} {own : List (Str × Nat)} {pos : Pos} {wi : TI} {g : TG} {tt : TT} {tk tv : TE} {dw : DTI} {dg : DTG} {dt : DTT} {dk dv : DTE}
theorem de_dc (hc : X.calm = true) (hN : X.N.Nodup) (hi : DI X E tg iter wi dw) (ok : BlkOk X.N X.env.scope scope own)
    (hg : ∀ s H C cl fp, DGw (bk X scope s H C cl fp) (own.map (·.2)) tg g dg) (ht : ∀ s H C cl fp, DTs (bk X scope s H C cl fp) E0 ifs tt dt) (hk : ∀ s H C cl fp, DE (bk X scope s H C cl fp) E0 kx tk dk) (he : ∀ s H C cl fp, DE (bk X scope s H C cl fp) E0 vx tv dv)
    (hs : ∀ x, foldedSetIterable iter X.env x = pure x := by intro _; rfl) : DE X E (.DictComp kx vx [⟨tg, iter, ifs, 0⟩] scope pos) (tDc wi g tt tk tv (own.map (·.2))) (dDc dw dg dt dk dv (own.map (·.2))) :=
  ⟨pe_dc hc hN hi.pe ok (fun s H C cl fp => (hg s H C cl fp).pe) (fun s H C cl fp => (ht s H C cl fp).pe) (fun s H C cl fp => (hk s H C cl fp).pe) (fun s H C cl fp => (he s H C cl fp).pe) hs,
    se_dc hi.sn (hg X.s_0 X.H_0 0 [] []).sn (ht X.s_0 X.H_0 0 [] []).sn (hk X.s_0 X.H_0 0 [] []).sn (he X.s_0 X.H_0 0 [] []).sn (fun Q' L acc μ => Q' (dkD acc) (era μ L)) finK_v⟩
theorem de_dcC (hc : X.calm = true) (hN : X.N.Nodup) (hi : DI X E tg iter wi dw) (ok : BlkOk X.N X.env.scope scope own)
    (hg : ∀ s H C cl fp, DGw (bk X scope s H C cl fp) (own.map (·.2)) tg g dg) (ht : ∀ s H C cl fp, DTs (bk X scope s H C cl fp) E0 ifs tt dt) (hk : ∀ s H C cl fp, DE (bk X scope s H C cl fp) E0 kx tk dk) (he : ∀ s H C cl fp, DE (bk X scope s H C cl fp) E0 vx tv dv)
    (hs : ∀ x, foldedSetIterable iter X.env x = pure x := by intro _; rfl) : DE X E (.DictComp kx vx [⟨tg, iter, ifs, 0⟩] scope pos) (tDc wi g tt tk tv (own.map (·.2))) (dDcC dw dg dt dk dv (own.map (·.2))) :=
  ⟨pe_dc hc hN hi.pe ok (fun s H C cl fp => (hg s H C cl fp).pe) (fun s H C cl fp => (ht s H C cl fp).pe) (fun s H C cl fp => (hk s H C cl fp).pe) (fun s H C cl fp => (he s H C cl fp).pe) hs,
    se_dc hi.sn (hg X.s_0 X.H_0 0 [] []).sn (ht X.s_0 X.H_0 0 [] []).sn (hk X.s_0 X.H_0 0 [] []).sn (he X.s_0 X.H_0 0 [] []).sn (fun Q' L _ μ => Q' (.ref L) μ) finK_c⟩
end
theorem putA_len (l : AL) (k : Key) (x : D) : (putA l k x).length ≤ l.length + 1 := by
  unfold putA
  split
  · rw [List.length_map]; omega
  · rw [List.length_append]; exact Nat.le_refl _
def putsA (ps : List (Key × D)) : AL := ps.foldl (fun a p => putA a p.1 p.2) []
theorem putsA_snoc (ps : List (Key × D)) (p : Key × D) : putsA (ps ++ [p]) = putA (putsA ps) p.1 p.2 := by unfold putsA; rw [List.foldl_append]; rfl
theorem putsA_len (ps : List (Key × D)) : (putsA ps).length ≤ ps.length := by
  have : ∀ (qs : List (Key × D)) (a : AL), (qs.foldl (fun a p => putA a p.1 p.2) a).length ≤ a.length + qs.length := by
    intro qs
    induction qs with
    | nil => intro a; exact Nat.le_refl _
    | cons q qs ih =>
      intro a
      have h1 := ih (putA a q.1 q.2)
      have h2 := putA_len a q.1 q.2
      show (qs.foldl (fun a p => putA a p.1 p.2) (putA a q.1 q.2)).length ≤ a.length + (qs.length + 1)
      omega
  have h := this ps []
  show (ps.foldl (fun a p => putA a p.1 p.2) []).length ≤ ps.length
  simpa using h
/-- each thing of l gives a key and a thing, or none -/
theorem dcL_of {α : Type} {g : DTG} {tt : DTT} {tk tv : DTE} {δ : Sl} {L : Addr} {C : Mu → Prop} {k : AL → Mu → Prop} {μ : Mu} (l : List α) (gx : α → D) (f : α → Option (Key × D)) (hl : l.length ≤ 16777216) (hC : ∀ μ', Off L μ μ' → C μ')
    (hs : ∀ (i : Nat) (a : α) (μ' : Mu) (c : Option (Key × D) → Mu → Prop), l[i]? = some a → Off L μ μ' → c (f a) μ' → dcStep g tt tk tv δ (gx a) μ' c)
    (hd : k (putsA (l.filterMap f)) (mup μ L (dkD (putsA (l.filterMap f))))) : dcL g tt tk tv δ L C k (l.map gx) [] (mup μ L (dkD [])) := by
  have gen : ∀ (n i : Nat), l.length - i = n → i ≤ l.length → dcL g tt tk tv δ L C k ((l.drop i).map gx) (putsA ((l.take i).filterMap f)) (mup μ L (dkD (putsA ((l.take i).filterMap f)))) := by
    intro n
    induction n with
    | zero =>
      intro i hn hi
      have e : i = l.length := by omega
      subst e
      rw [List.drop_length, List.take_length]
      exact ⟨hC _ fun a ne => mup_ne ne, mup_same, hd⟩
    | succ n ih =>
      intro i hn hi
      have hlt : i < l.length := by omega
      have e2 : (l.take (i + 1)).filterMap f = (l.take i).filterMap f ++ (f l[i]).toList := by
        rw [List.take_add_one, List.getElem?_eq_getElem hlt, List.filterMap_append]
        show _ ++ List.filterMap f [l[i]] = _
        cases h : f l[i] <;> simp [h]
      have h2 := ih (i + 1) (by omega) hlt
      rw [List.drop_eq_getElem_cons hlt, List.map_cons, dcL]
      refine ⟨hC _ fun a ne => mup_ne ne, hs i l[i] _ _ (List.getElem?_eq_getElem hlt) (fun a ne => mup_ne ne) ?_⟩
      cases h : f l[i] with
      | none =>
        rw [h] at e2
        have e2 : (l.take (i + 1)).filterMap f = (l.take i).filterMap f := by rw [e2]; simp
        rw [e2] at h2
        exact h2
      | some p =>
        rw [h] at e2
        have e2 : (l.take (i + 1)).filterMap f = (l.take i).filterMap f ++ [p] := e2
        rw [e2, putsA_snoc] at h2
        have hb : (putsA ((l.take i).filterMap f)).length ≤ i := Nat.le_trans (putsA_len _) (Nat.le_trans (List.length_filterMap_le _ _) (by rw [List.length_take]; omega))
        refine ⟨mup_same, by omega, ?_⟩
        rw [mup_mup]
        exact h2
  have h := gen _ 0 rfl (Nat.zero_le _)
  rw [List.drop_zero] at h
  exact h
/-! len(d) -/
def asDk (d : D) (k : AL → Prop) : Prop := match d with | .dK ks xs => ks.length = xs.length ∧ k (ks.zip xs) | _ => False
theorem asDk_dk {l : AL} {k : AL → Prop} : asDk (dkD l) k = k l := by unfold asDk dkD; simp only [zip_dk, List.length_map, true_and]
theorem asDk_inv {d : D} {k : AL → Prop} (h : asDk d k) : ∃ l, d = dkD l ∧ k l := by
  cases d with
  | dK ks xs => exact ⟨_, (zip_fst h.1).symm, h.2⟩
  | _ => exact h.elim
def rLenD : List V → Hp → VK → Prop := fun xs H Q => ∃ (a : Addr) (kvs : List (Key × V)), xs = [V.ref a] ∧ Rd H a (.dK kvs) ∧ Q (.int kvs.length) H
theorem call_lenR {X : Cx} : CallR X (.builtin "len") rLenD := fun pins s σ H xs us Q I r h => by
  obtain ⟨a, kvs, rfl, ha, q⟩ := h
  obtain ⟨u, rfl, ru⟩ := vals1 r
  cases ru
  exact d_len I ha fun t s' I' => ⟨.int kvs.length, H, I', ⟨t, rfl⟩, q⟩
def gLenD : GC := fun ds μ Q => one ds fun x => asDk (rd μ x) fun l => Q (.int (l.length : Nat)) μ
theorem c_lenD {X : Cx} : DCl X (.builtin "len") rLenD gLenD := ⟨call_lenR, fun {xs ds H μ Q Q'} c r d q => by
  obtain ⟨x, rfl, d1⟩ := one_inv d
  obtain ⟨v, rfl, r0⟩ := r.inv1
  obtain ⟨l, e, d2⟩ := asDk_inv d1
  obtain ⟨a, kvs, rfl, h, hk, rr⟩ := rd_dkD c r0 e
  have hl2 : kvs.length = l.length := by have := congrArg List.length hk; rwa [List.length_map, List.length_map] at this
  exact ⟨a, kvs, rfl, h, q _ _ _ _ (.refl c) (by rw [hl2]; exact .int _) d2⟩⟩
/-! list(d.items()) -/
def tLiR (te : TE) : TE := fun σ H Q => te σ H fun x H1 => ∃ (d : Addr) (kvs : List (Key × V)), x = .ref d ∧ Rd H1 d (.dK kvs) ∧
  ∀ (H' : Hp) (p : Addr) (as : List Addr), (∀ b u, H1 b = some u → H' b = some u) → H1 p = none → (∀ t ∈ as, H1 t = none) → p ∉ as → H' p = some (.lst (as.map V.ref)) →
    Paired (fun (t : Addr) (z : Key × V) => H' t = some (.tup [kV z.1, z.2])) as kvs → Q (.ref p) H'
section
variable {X : Cx} {E : XK} {e : Expr} {te : TE} {de : DTE} {p apos cpos pos : Pos}
theorem pe_liR (hc : X.calm = true) (he : PE X e te) (hg : Gl X "list") (hm : X.mg "list" = none) (hv : bootBuiltins "list" = some (.type "list"))
    (hb : attributeBase e "items" X.env (eval e X.env) = eval e X.env := by rfl) (hl : (apos.endLine == cpos.line) = true := by rfl)
    (hs : starEach [.Call (.Attribute e "items" apos) [] [] cpos] X.env = (false, eval (.Call (.Attribute e "items" apos) [] [] cpos) X.env) :: starEach [] X.env := by rfl) :
    PE X (.Call (.Name "list" p) [.Call (.Attribute e "items" apos) [] [] cpos] [] pos) (tLiR te) := ⟨fun pins s σ H Q I q0 => by
  refine wpAny_Call_Name_kw (ld_blt I hg hm hv (PyProof.Rows.callWith_type1 ?_ hs rfl))
  rw [hs]
  refine Calls.spliced_cons (wpAny_Call_method (T := "dict") (id := "dict.items") hb rfl hl F.plainAttrs_dict F.slot_dict_items F.type_dict_items
    (thn (he.run pins s σ H _ I q0) fun u s1 z => ?_))
  obtain ⟨x, H1, I1, rx, d, kvs, ex, hd, q⟩ := z
  subst ex; cases rx
  obtain ⟨hz, hs0, vs, kv, hdo⟩ := dk_rd I1.hok hd
  obtain ⟨ep, hat⟩ := hdo.dictAt
  have lk : kvs.length = vs.length := Paired.length kv
  have I2 : Inv X pins σ H1 { s1 with heap := s1.heap.push { cls := .type "dict_items", data := .fields #[.ref d] } } :=
    I1.kept (t' := s1.toks) fun b ob w => Heap.get?_push_of_some _ w
  refine ⟨hdo.typeIs, hdo.mapOf.noDict, method_meetsIn F.slot_dict_items F.entry_dict_items rfl
    (PySem.evalArgs_none ⟨rfl, hdo.typeIs, F.args_dict_items_1 _, _, meets_dict_items (mixKind X.prog X.w) d hs0, ⟨vs, hdo⟩, Calls.spliced_nil ?_⟩)⟩
  refine PySem.W.kdx_call (knd := mixKind X.prog X.w) (kvs := vs) (ep := ep) (I1.ok.hd hc) ⟨_, Heap.get?_push_size _ rfl, rfl, rfl⟩ (hat.push _) (by omega) fun h' tk acc c as k1 k2 k3 k4 k5 => ?_
  obtain ⟨H', m1, m2, m3, m4, m5, m6, J⟩ := LiI.items_laid (tk := tk) I2 hz kv k1 k2 k3 k4 k5
  exact ⟨.ref _, H', J, rfl, q H' _ as m1 m2 m3 m4 m5 m6⟩⟩
end
def dLi (de : DTE) : DTE := fun E δ μ Q => de E δ μ fun x μ1 => asDk (rd μ1 x) fun l => Q (.lst (l.map itD)) μ1
theorem items_rep {K : PySem.W.Frag} {H H' : Hp} {μ : Mu} (g : Grow H μ H' μ) : ∀ {kvs : List (Key × V)} {l : AL} {as : List Addr}, kvs.map (·.1) = l.map (·.1) → Reps K H μ (kvs.map (·.2)) (l.map (·.2)) →
    Paired (fun (t : Addr) (z : Key × V) => H' t = some (.tup [kV z.1, z.2])) as kvs → (∀ t ∈ as, μ t = none) → Reps K H' μ (as.map V.ref) (l.map itD)
  | [], [], _, _, _, pr, _ => by cases pr; exact .nil
  | [], _ :: _, _, h, _, _, _ => by cases h
  | _ :: _, [], _, h, _, _, _ => by cases h
  | z :: kvs, y :: l, _, h, r, pr, hm => by
    cases pr with
    | @cons t _ as _ h1 pr =>
      simp only [List.map_cons, List.cons.injEq] at h
      rw [List.map_cons, List.map_cons] at r
      cases r with | cons r1 r =>
      refine .cons (.of_con (hm t (.head _)) (.tup (.inl h1) (.cons ?_ (.cons (r1.grow g) .nil)))) (items_rep g h.2 r pr fun u hu => hm u (.tail _ hu))
      rw [h.1]
      exact kD_rep _
theorem de_li {X : Cx} {E : XK} {e : Expr} {te : TE} {de : DTE} {p apos cpos pos : Pos} (hc : X.calm = true) (he : DE X E e te de) (hg : Gl X "list") (hm : X.mg "list" = none) (hv : bootBuiltins "list" = some (.type "list") := by decide +kernel)
    (hb : attributeBase e "items" X.env (eval e X.env) = eval e X.env := by rfl) (hl : (apos.endLine == cpos.line) = true := by rfl)
    (hs : starEach [.Call (.Attribute e "items" apos) [] [] cpos] X.env = (false, eval (.Call (.Attribute e "items" apos) [] [] cpos) X.env) :: starEach [] X.env := by rfl) :
    DE X E (.Call (.Name "list" p) [.Call (.Attribute e "items" apos) [] [] cpos] [] pos) (tLiR te) (dLi de) :=
  ⟨pe_liR hc he.pe hg hm hv hb hl hs, ⟨fun {σ H δ μ Q Q' E'} hh x d q => he.sn.go hh x d fun v y H1 μ1 t1 r1 d1 => by
    obtain ⟨l, e, d2⟩ := asDk_inv d1
    obtain ⟨a, kvs, rfl, h, hk, rr⟩ := rd_dkD t1.cells r1 e
    refine ⟨a, kvs, rfl, h, fun H' p as k1 k2 k3 k4 k5 k6 => ?_⟩
    have g : Grow H1 μ1 H' μ1 := .ext fun b u w _ => k1 b u w
    have t : Then X.K H1 μ1 H' μ1 := ⟨g, fun b z w => ⟨(t1.cells b z w).1.stay g fun u => k1 b u, (t1.cells b z w).2.keep (t1.cells b z w).1 fun u => k1 b u⟩⟩
    have ht : ∀ t ∈ as, μ1 t = none := fun t ht => mu_none t1.cells (k3 t ht)
    exact q _ _ _ _ (t1.trans t) (.of_con (mu_none t1.cells k2) (.lst k5 (items_rep g hk rr k6 ht))) d2⟩⟩
end Dl

set_option Elab.async false
set_option linter.all false
set_option maxRecDepth 100000
/-! list(zip(a, b)) of two lists: the machine's own steps -/
namespace LzZ
open PySem PySem.Calls PyProof.Rows PyProof.V PySem.Spec PySem.W
section
variable {prog : Program} {w : World} {A : Around} {E : Value → Shared → Prop} {s : Shared}
/-- a zip whose last tuple T is still held -/
abbrev ZipT (h : Heap) (u P O T : Addr) (f : Bool) : Prop := h.get? u = some { cls := .type "zip", dict := none, data := .fields #[rawInt T, .bool f, .bool false, .ref P, .ref O], slots := #[] }
theorem held_not {u P O T : Addr} {f : Bool} {oT : Obj} {Q : Bool → Shared → Prop} (hu : ZipT s.heap u P O T f) (hT : s.heap.get? T = some oT)
    (hQ : ∀ h', ZipT h' u P O T true → Heap.SameBut u s.heap h' → Q false { s with heap := h' }) : wpAny (model prog w) A (Builtin.SmallTypes.ownedTupleIsFree (.ref u)) Q E s := by
  unfold Builtin.SmallTypes.ownedTupleIsFree
  refine wpAny_bind (wpAny_field hu rfl (x := rawInt T) rfl ?_)
  show wpAny _ _ (loadIfAlive (T : Int).toNat >>= _) Q _ _
  rw [Int.toNat_natCast]
  refine wpAny_bind (kdx_alive hT ?_)
  simp only [Option.isNone_some, Bool.false_eq_true, if_false]
  refine wpAny_bind (wpAny_field hu rfl (x := .bool f) rfl ?_)
  cases f with
  | true =>
    rw [if_neg (show ¬ (Value.bool true != Value.bool true) = true from Bool.false_ne_true)]
    exact wpAny_pure (hQ _ hu (Heap.SameBut.refl _ _))
  | false =>
    rw [if_pos (show (Value.bool false != Value.bool true) = true by rfl)]
    exact wpAny_bind (wpAny_setField_rec hu (by simp) fun h3 e3 s3 => wpAny_pure (hQ h3 e3 s3))
theorem zt_item {u P O T ia ib la lb : Addr} {f : Bool} {oT : Obj} {ka kb : Nat} {xs ys : Array Value} {x y : Value} {Q : Value → Shared → Prop} (D : ZipApart u P O ia ib la lb)
    (hu : ZipT s.heap u P O T f) (hT : s.heap.get? T = some oT) (hP : IsPair s.heap P (.ref ia) (.ref ib))
    (ha : s.heap.IsListIter ia la ka) (hb : s.heap.IsListIter ib lb kb) (hla : s.heap.IsList la xs) (hlb : s.heap.IsList lb ys) (hx : xs[ka]? = some x) (hy : ys[kb]? = some y)
    (hQ : ∀ h', ZipT h' u P O T true → h'.IsListIter ia la (ka + 1) → h'.IsListIter ib lb (kb + 1) → IsPair h' s.heap.objs.size x y → h'.objs.size = s.heap.objs.size + 1 →
      (∀ c o, c ≠ u → c ≠ ia → c ≠ ib → s.heap.get? c = some o → h'.get? c = some o) → Q (.ref s.heap.objs.size) { s with heap := h' }) :
    wpAny (model prog w) A (Builtin.«zip.__next__» ⟨[.ref u], []⟩) (fun fin s' => ∃ v, fin = .done (.ret v) ∧ Q v s') E s := by
  show wpAny _ _ (field (.ref u) 2 >>= _) _ E s
  refine wpAny_bind (wpAny_field hu rfl (x := .bool false) rfl ?_)
  show wpAny _ _ (field (.ref u) 3 >>= _) _ E s
  refine wpAny_bind (wpAny_field hu rfl (x := .ref P) rfl ?_)
  refine wpAny_bind (wpAny_seqItems hP rfl ?_)
  show wpAny _ _ (Builtin.SmallTypes.ownedTupleIsFree (.ref u) >>= _) _ E s
  refine wpAny_bind (held_not hu hT fun h1 u1 s1 => ?_)
  simp only [Bool.false_eq_true, if_false]
  rw [show (#[Value.ref ia, Value.ref ib] : Array Value) = [Value.ref ia, Value.ref ib].toArray from rfl, List.forIn_toArray]
  simp only [List.forIn_cons, List.forIn_nil]
  refine wpAny_bind (wpAny_bind (wpAny_bind (wpAny_holding ?_)))
  show wpAny _ _ (Builtin.SmallTypes.nextOf (.ref ia) >>= fun v => pure (some v)) _ E _
  refine wpAny_bind (wpAny_nextOf_list_item (ha.extBut s1.extBut D.i1z) (hla.extBut s1.extBut D.l1z) hx fun h2 a2 s2 => wpAny_pure (wpAny_pure ?_))
  refine wpAny_bind (wpAny_bind (wpAny_holding ?_))
  show wpAny _ _ (Builtin.SmallTypes.nextOf (.ref ib) >>= fun v => pure (some v)) _ E _
  refine wpAny_bind (wpAny_nextOf_list_item ((hb.extBut s1.extBut D.i2z).extBut s2.extBut D.i12.symm) ((hlb.extBut s1.extBut D.l2z).extBut s2.extBut D.l2i1) hy fun h3 b3 s3 => wpAny_pure (wpAny_pure ?_))
  refine wpAny_pure ?_
  show wpAny _ _ (newTuple [x, y] >>= _) _ E _
  refine wpAny_bind (wpAny_newTuple ?_)
  have z3 : h3.objs.size = s.heap.objs.size := by rw [s3.1, s2.1, s1.1]
  have u3 : ZipT h3 u P O T true := s3.extBut _ _ D.i2z.symm (s2.extBut _ _ D.i1z.symm u1)
  have a3 : h3.IsListIter ia la (ka + 1) := a2.extBut s3.extBut D.i12
  refine wpAny_pure ⟨_, rfl, ?_⟩
  show Q (.ref h3.objs.size) _
  have t3 : IsPair (h3.push { cls := .type "tuple", data := .seq #[x, y] }) h3.objs.size x y := Heap.get?_push_size _ rfl
  have y3 : (h3.push { cls := .type "tuple", data := .seq #[x, y] }).objs.size = h3.objs.size + 1 := Heap.size_push ..
  rw [z3] at t3 y3 ⊢
  exact hQ _ (Heap.get?_push_of_some _ u3) (a3.at fun o e => Heap.get?_push_of_some _ e) (b3.at fun o e => Heap.get?_push_of_some _ e) t3 y3 fun c o c1 c2 c3 e => Heap.get?_push_of_some _ (s3.extBut _ _ c3 (s2.extBut _ _ c2 (s1.extBut _ _ c1 e)))
theorem zt_end {u P O T ia ib la lb : Addr} {f : Bool} {oT : Obj} {ka kb : Nat} {xs ys : Array Value} {Q : Fin → Shared → Prop} (hh : A.handled = none) (D : ZipApart u P O ia ib la lb)
    (hu : ZipT s.heap u P O T f) (hT : s.heap.get? T = some oT) (hP : IsPair s.heap P (.ref ia) (.ref ib))
    (ha : s.heap.IsListIter ia la ka) (hb : s.heap.IsListIter ib lb kb) (hla : s.heap.IsList la xs) (hlb : s.heap.IsList lb ys) (hend : xs[ka]? = none ∨ ys[kb]? = none)
    (hE : ∀ h' e, (∀ c o, c ≠ u → c ≠ ia → c ≠ ib → s.heap.get? c = some o → h'.get? c = some o) → (∃ o, h'.get? e = some o ∧ o.cls = .type "StopIteration") → E (.ref e) { s with heap := h' }) :
    wpAny (model prog w) A (Builtin.«zip.__next__» ⟨[.ref u], []⟩) Q E s := by
  show wpAny _ _ (field (.ref u) 2 >>= _) _ E s
  refine wpAny_bind (wpAny_field hu rfl (x := .bool false) rfl ?_)
  show wpAny _ _ (field (.ref u) 3 >>= _) _ E s
  refine wpAny_bind (wpAny_field hu rfl (x := .ref P) rfl ?_)
  refine wpAny_bind (wpAny_seqItems hP rfl ?_)
  show wpAny _ _ (Builtin.SmallTypes.ownedTupleIsFree (.ref u) >>= _) _ E s
  refine wpAny_bind (held_not hu hT fun h1 u1 s1 => ?_)
  simp only [Bool.false_eq_true, if_false]
  rw [show (#[Value.ref ia, Value.ref ib] : Array Value) = [Value.ref ia, Value.ref ib].toArray from rfl, List.forIn_toArray]
  simp only [List.forIn_cons, List.forIn_nil]
  refine wpAny_bind (wpAny_bind (wpAny_bind (wpAny_holding ?_)))
  show wpAny _ _ (Builtin.SmallTypes.nextOf (.ref ia) >>= fun v => pure (some v)) _ E _
  cases hx : xs[ka]? with
  | none =>
    refine wpAny_bind (wpAny_nextOf_list_end hh (ha.extBut s1.extBut D.i1z) (hla.extBut s1.extBut D.l1z) hx fun h2 e s2 he => ?_)
    exact hE h2 e (fun c o c1 c2 _ x => s2 _ _ c2 (s1.extBut _ _ c1 x)) he
  | some x =>
    have hy : ys[kb]? = none := by
      rcases hend with z | z
      · rw [hx] at z; cases z
      · exact z
    refine wpAny_bind (wpAny_nextOf_list_item (ha.extBut s1.extBut D.i1z) (hla.extBut s1.extBut D.l1z) hx fun h2 a2 s2 => wpAny_pure (wpAny_pure ?_))
    refine wpAny_bind (wpAny_bind (wpAny_holding ?_))
    show wpAny _ _ (Builtin.SmallTypes.nextOf (.ref ib) >>= fun v => pure (some v)) _ E _
    refine wpAny_bind (wpAny_nextOf_list_end hh ((hb.extBut s1.extBut D.i2z).extBut s2.extBut D.i12.symm) ((hlb.extBut s1.extBut D.l2z).extBut s2.extBut D.l2i1) hy fun h3 e s3 he => ?_)
    exact hE h3 e (fun c o c1 c2 c3 x => s3 _ _ c3 (s2.extBut _ _ c2 (s1.extBut _ _ c1 x))) he
theorem nx_item {u P O T ia ib la lb : Addr} {f : Bool} {oT : Obj} {ka kb : Nat} {xs ys : Array Value} {x y : Value} {Q : Option Value → Shared → Prop} (D : ZipApart u P O ia ib la lb)
    (hu : ZipT s.heap u P O T f) (hT : s.heap.get? T = some oT) (hP : IsPair s.heap P (.ref ia) (.ref ib))
    (ha : s.heap.IsListIter ia la ka) (hb : s.heap.IsListIter ib lb kb) (hla : s.heap.IsList la xs) (hlb : s.heap.IsList lb ys) (hx : xs[ka]? = some x) (hy : ys[kb]? = some y)
    (hQ : ∀ h', ZipT h' u P O T true → h'.IsListIter ia la (ka + 1) → h'.IsListIter ib lb (kb + 1) → IsPair h' s.heap.objs.size x y → h'.objs.size = s.heap.objs.size + 1 →
      (∀ c o, c ≠ u → c ≠ ia → c ≠ ib → s.heap.get? c = some o → h'.get? c = some o) → Q (some (.ref s.heap.objs.size)) { s with heap := h' }) :
    wpAny (model prog w) A (pyNext (.ref u)) Q E s := by
  have ht : s.TypeIs (.ref u) "zip" := ⟨_, hu, rfl⟩
  unfold pyNext
  exact wpAny_bind (wpAny_attempt (wpAny_callSpecial?_slot (name := Str.ofString "__next__") ht F.slot_zip_next (wpAny_call_entry F.slot_zip_next ht F.entry_zip_next
    (zt_item D hu hT hP ha hb hla hlb hx hy fun h' q1 q2 q3 q4 q5 q6 => wpAny_pure (hQ h' q1 q2 q3 q4 q5 q6)) (F.args_zip_next_1 _))))
theorem nx_end {u P O T ia ib la lb : Addr} {f : Bool} {oT : Obj} {ka kb : Nat} {xs ys : Array Value} {Q : Option Value → Shared → Prop} (hh : A.handled = none) (D : ZipApart u P O ia ib la lb)
    (hu : ZipT s.heap u P O T f) (hT : s.heap.get? T = some oT) (hP : IsPair s.heap P (.ref ia) (.ref ib))
    (ha : s.heap.IsListIter ia la ka) (hb : s.heap.IsListIter ib lb kb) (hla : s.heap.IsList la xs) (hlb : s.heap.IsList lb ys) (hend : xs[ka]? = none ∨ ys[kb]? = none)
    (hQ : ∀ h', (∀ c o, c ≠ u → c ≠ ia → c ≠ ib → s.heap.get? c = some o → h'.get? c = some o) → Q none { s with heap := h' }) : wpAny (model prog w) A (pyNext (.ref u)) Q E s := by
  have ht : s.TypeIs (.ref u) "zip" := ⟨_, hu, rfl⟩
  unfold pyNext
  refine wpAny_bind (wpAny_attempt (wpAny_callSpecial?_slot (name := Str.ofString "__next__") ht F.slot_zip_next (wpAny_call_entry F.slot_zip_next ht F.entry_zip_next
    (zt_end hh D hu hT hP ha hb hla hlb hend fun h' e hk he => ?_) (F.args_zip_next_1 _))))
  obtain ⟨o, ho, hc⟩ := he
  exact wpAny_bind (wpAny_isInstance (T := "StopIteration") (b := true) ⟨o, ho, hc⟩ isSubtype_stop (wpAny_pure (hQ _ hk)))
/-- a zip behind so many items: fresh, or its last tuple held in the list S -/
structure ZipSt (h : Heap) (S u P O ia ib la lb : Addr) (xs ys : Array Value) (i : Nat) : Prop where
  st : (i = 0 ∧ IsZip h u P O .none ∧ ∃ a b, IsPair h O a b) ∨ ∃ T f oT, ZipT h u P O T f ∧ h.get? T = some oT ∧ T ≠ S ∧ T ≠ u ∧ T ≠ ia ∧ T ≠ ib
  pr : IsPair h P (.ref ia) (.ref ib)
  a : h.IsListIter ia la i
  b : h.IsListIter ib lb i
  la : h.IsList la xs
  lb : h.IsList lb ys
theorem ZipSt.keep {h h' : Heap} {S u P O ia ib la lb : Addr} {xs ys : Array Value} {i : Nat} (x : ZipSt h S u P O ia ib la lb xs ys i) (k : ∀ c o, c ≠ S → h.get? c = some o → h'.get? c = some o)
    (n : u ≠ S ∧ P ≠ S ∧ O ≠ S ∧ ia ≠ S ∧ ib ≠ S ∧ la ≠ S ∧ lb ≠ S) : ZipSt h' S u P O ia ib la lb xs ys i := by
  obtain ⟨n1, n2, n3, n4, n5, n6, n7⟩ := n
  refine ⟨?_, k _ _ n2 x.pr, x.a.at fun o e => k _ o n4 e, x.b.at fun o e => k _ o n5 e, x.la.at fun o e => k _ o n6 e, x.lb.at fun o e => k _ o n7 e⟩
  rcases x.st with ⟨e, p, a, b, q⟩ | ⟨T, f, oT, p, q, r1, r2⟩
  · exact .inl ⟨e, k _ _ n1 p, a, b, k _ _ n3 q⟩
  · exact .inr ⟨T, f, oT, k _ _ n1 p, k _ _ r1 q, r1, r2⟩
theorem st_item {S u P O ia ib la lb : Addr} {i : Nat} {xs ys : Array Value} {x y : Value} {Q : Option Value → Shared → Prop} (D : ZipApart u P O ia ib la lb) (z : ZipSt s.heap S u P O ia ib la lb xs ys i) (hS : S < s.heap.objs.size) (hx : xs[i]? = some x) (hy : ys[i]? = some y)
    (hQ : ∀ h', ZipSt h' S u P O ia ib la lb xs ys (i + 1) → IsPair h' s.heap.objs.size x y → h'.objs.size = s.heap.objs.size + 1 →
      (∀ c o, c ≠ u → c ≠ O → c ≠ ia → c ≠ ib → s.heap.get? c = some o → h'.get? c = some o) → Q (some (.ref s.heap.objs.size)) { s with heap := h' }) :
    wpAny (model prog w) A (pyNext (.ref u)) Q E s := by
  obtain ⟨st, pr, a, b, ha, hb⟩ := z
  have lt : ∀ {c o}, s.heap.get? c = some o → s.heap.objs.size ≠ c := fun e => Nat.ne_of_gt (Heap.lt_size e)
  rcases st with ⟨rfl, p, v, w, q⟩ | ⟨T, f, oT, p, q, r1, r2, r3, r4⟩
  · refine wpAny_pyNext_zip_item D p pr q a b ha hb hx hy fun h' q1 q2 q3 q4 q5 q6 q7 => hQ h' ⟨.inr ⟨_, false, _, q1, q5, Nat.ne_of_gt hS, lt p, ?_, ?_⟩, q7 _ _ D.TIz D.TITO D.TIi1 D.TIi2 pr, q3, q4, ha.at fun o e => q7 _ o D.l1z D.l1TO D.l1i1 D.l1i2 e, hb.at fun o e => q7 _ o D.l2z D.l2TO D.l2i1 D.l2i2 e⟩ q5 q6 q7
    · obtain ⟨_, e, _⟩ := a; exact lt e
    · obtain ⟨_, e, _⟩ := b; exact lt e
  · exact nx_item D p q pr a b ha hb hx hy fun h' q1 q3 q4 q5 q6 q7 => hQ h' ⟨.inr ⟨T, true, oT, q1, q7 _ _ r2 r3 r4 q, r1, r2, r3, r4⟩, q7 _ _ D.TIz D.TIi1 D.TIi2 pr, q3, q4, ha.at fun o e => q7 _ o D.l1z D.l1i1 D.l1i2 e, hb.at fun o e => q7 _ o D.l2z D.l2i1 D.l2i2 e⟩ q5 q6 fun c o c1 _ c3 c4 e => q7 c o c1 c3 c4 e
theorem st_end {S u P O ia ib la lb : Addr} {i : Nat} {xs ys : Array Value} {Q : Option Value → Shared → Prop} (hh : A.handled = none) (D : ZipApart u P O ia ib la lb) (z : ZipSt s.heap S u P O ia ib la lb xs ys i) (hend : xs[i]? = none ∨ ys[i]? = none)
    (hQ : ∀ h', (∀ c o, c ≠ u → c ≠ O → c ≠ ia → c ≠ ib → s.heap.get? c = some o → h'.get? c = some o) → Q none { s with heap := h' }) : wpAny (model prog w) A (pyNext (.ref u)) Q E s := by
  obtain ⟨st, pr, a, b, ha, hb⟩ := z
  rcases st with ⟨rfl, p, v, w, q⟩ | ⟨T, f, oT, p, q, r1, r2, r3, r4⟩
  · exact wpAny_pyNext_zip_end hh D p pr q a b ha hb hend hQ
  · exact nx_end hh D p q pr a b ha hb hend fun h' q7 => hQ h' fun c o c1 _ c3 c4 e => q7 c o c1 c3 c4 e
end
/-- the tuples told so far -/
structure ZG (xs ys : Array Value) (lo : Addr) (h : Heap) (as : List Addr) : Prop where
  rise : as.Pairwise (· < ·)
  above : ∀ a ∈ as, lo < a
  pairs : ∀ (j : Nat) (a : Addr), as[j]? = some a → ∃ x y, xs[j]? = some x ∧ ys[j]? = some y ∧ IsPair h a x y
theorem ZG.there {xs ys : Array Value} {lo : Addr} {h : Heap} {as : List Addr} (g : ZG xs ys lo h as) {a : Addr} (m : a ∈ as) : a < h.objs.size := by
  obtain ⟨j, hj⟩ := List.mem_iff_getElem?.mp m
  obtain ⟨_, _, _, _, e⟩ := g.pairs j a hj
  exact Heap.lt_size e
section
variable {prog : Program} {w : World} {A : Around} {E : Value → Shared → Prop} {s : Shared} {R : Result → Shared → Prop} {xs ys : Array Value} {N : Nat} {S u P O ia ib la lb : Addr}
structure Low (S u P O ia ib la lb : Addr) : Prop where
  u : u < S
  P : P < S
  O : O < S
  ia : ia < S
  ib : ib < S
  la : la < S
  lb : lb < S
theorem Low.ne (l : Low S u P O ia ib la lb) : u ≠ S ∧ P ≠ S ∧ O ≠ S ∧ ia ≠ S ∧ ib ≠ S ∧ la ≠ S ∧ lb ≠ S := ⟨Nat.ne_of_lt l.u, Nat.ne_of_lt l.P, Nat.ne_of_lt l.O, Nat.ne_of_lt l.ia, Nat.ne_of_lt l.ib, Nat.ne_of_lt l.la, Nat.ne_of_lt l.lb⟩
theorem zl_loop (hh : A.handled = none) (D : ZipApart u P O ia ib la lb) (lo : Low S u P O ia ib la lb) (hN : N ≤ sizeLine) (h1 : ∀ i, i < N → ∃ x y, xs[i]? = some x ∧ ys[i]? = some y) (h2 : xs[N]? = none ∨ ys[N]? = none) (res : Value) {h₀ : Heap}
    (hR : ∀ h' tk acc c as, (∀ b o, b < S → b ≠ u → b ≠ O → b ≠ ia → b ≠ ib → h₀.get? b = some o → h'.get? b = some o) → h'.get? S = some { cls := .type "list", dict := none, data := .seq acc c, slots := #[] } → as.length = N → ZG xs ys S h' as →
      acc.toList = as.map Value.ref → R (.ok (.ret res)) { s with heap := h', toks := tk }) :
    ∀ (k i : Nat) (h : Heap) (tk c : Nat) (acc : Array Value) (as : List Addr), N - i = k → i ≤ N → ZipSt h S u P O ia ib la lb xs ys i → (∀ b o, b < S → b ≠ u → b ≠ O → b ≠ ia → b ≠ ib → h₀.get? b = some o → h.get? b = some o) →
      h.get? S = some { cls := .type "list", dict := none, data := .seq acc c, slots := #[] } → acc.toList = as.map Value.ref → as.length = i → ZG xs ys S h as →
      codeAny (model prog w) A (.builtin "list.extend.loop" ⟨[.ref S, .ref u, res], []⟩) R { s with heap := h, toks := tk } := by
  have sN : ∀ {a : Addr}, S < a → a ≠ u ∧ a ≠ O ∧ a ≠ ia ∧ a ≠ ib := fun {a} z => ⟨Nat.ne_of_gt (Nat.lt_trans lo.u z), Nat.ne_of_gt (Nat.lt_trans lo.O z), Nat.ne_of_gt (Nat.lt_trans lo.ia z), Nat.ne_of_gt (Nat.lt_trans lo.ib z)⟩
  have sS : S ≠ u ∧ S ≠ O ∧ S ≠ ia ∧ S ≠ ib := ⟨Nat.ne_of_gt lo.u, Nat.ne_of_gt lo.O, Nat.ne_of_gt lo.ia, Nat.ne_of_gt lo.ib⟩
  intro k
  induction k with
  | zero =>
    intro i h tk c acc as hk hi st keep eS eacc el g
    have e : i = N := by omega
    subst e
    refine codeAny_builtin PySem.F.entry_extend_loop ?_
    rw [Around.under_plainId PySem.F.plain_extend_loop _]
    show wpAny _ A.in1 (pyNext (.ref u) >>= _) _ _ _
    refine wpAny_bind (st_end (s := { s with heap := h, toks := tk }) (A := A.in1) hh D st h2 fun h' he => ?_)
    refine wpAny_pure (hR h' tk acc c as (fun b o b0 b1 b2 b3 b4 q => he b o b1 b2 b3 b4 (keep b o b0 b1 b2 b3 b4 q)) (he S _ sS.1 sS.2.1 sS.2.2.1 sS.2.2.2 eS) el ⟨g.rise, g.above, fun j a hj => ?_⟩ eacc)
    obtain ⟨x, y, e1, e2, e3⟩ := g.pairs j a hj
    obtain ⟨n1, n2, n3, n4⟩ := sN (g.above a (List.mem_of_getElem? hj))
    exact ⟨x, y, e1, e2, he a _ n1 n2 n3 n4 e3⟩
  | succ k ih =>
    intro i h tk c acc as hk hi st keep eS eacc el g
    have lt : i < N := by omega
    obtain ⟨x, y, hx, hy⟩ := h1 i lt
    have esz : acc.size = i := by rw [← Array.length_toList, eacc, List.length_map, el]
    have lS : S < h.objs.size := Heap.lt_size eS
    refine codeAny_builtin PySem.F.entry_extend_loop ?_
    rw [Around.under_plainId PySem.F.plain_extend_loop _]
    show wpAny _ A.in1 (pyNext (.ref u) >>= _) _ _ _
    refine wpAny_bind (st_item (s := { s with heap := h, toks := tk }) (S := S) D st lS hx hy fun h' st' ht hz kp => ?_)
    dsimp only at ht hz kp ⊢
    have eS' := kp S _ sS.1 sS.2.1 sS.2.2.1 sS.2.2.2 eS
    have up : ∀ b o, b ≠ S → h'.get? b = some o → (h'.update S (Obj.mapSeq (·.push (Value.ref h.objs.size)))).get? b = some o := fun b o hb e => (Heap.get?_update_other _ _ (Ne.symm hb)).trans e
    show wpAny _ A.in1 (updateSeq S (·.push (Value.ref h.objs.size)) >>= _) _ _ _
    refine wpAny_bind (wpAny_updateSeq eS' rfl (wpAny_pure ⟨plainId_quiet PySem.F.plain_extend_loop _, ih (i + 1) _ tk _ (acc.push (Value.ref h.objs.size)) (as ++ [h.objs.size]) (by omega) lt (st'.keep up lo.ne)
      (fun b o b0 b1 b2 b3 b4 q => up b o (Nat.ne_of_lt b0) (kp b o b1 b2 b3 b4 (keep b o b0 b1 b2 b3 b4 q))) (Heap.get?_update_self _ eS' rfl) (by rw [Array.toList_push, eacc, List.map_append]; rfl) (by rw [List.length_append, el]; rfl) ⟨?_, ?_, ?_⟩⟩)
      (by rw [esz]; omega) (by show (acc.push (Value.ref h.objs.size)).size ≤ sizeLine + 1; rw [Array.size_push, esz]; omega))
    · refine List.pairwise_append.mpr ⟨g.rise, List.pairwise_singleton _ _, fun a m b m2 => ?_⟩
      rw [List.mem_singleton.mp m2]
      exact g.there m
    · intro a m
      rcases List.mem_append.mp m with m | m
      · exact g.above a m
      · rw [List.mem_singleton.mp m]; exact lS
    · intro j b hj
      rcases Nat.lt_trichotomy j as.length with h | h | h
      · rw [List.getElem?_append_left h] at hj
        obtain ⟨x', y', e1, e2, e3⟩ := g.pairs j b hj
        have hb := g.above b (List.mem_of_getElem? hj)
        obtain ⟨n1, n2, n3, n4⟩ := sN hb
        exact ⟨x', y', e1, e2, up b _ (Nat.ne_of_gt hb) (kp b _ n1 n2 n3 n4 e3)⟩
      · subst h
        rw [List.getElem?_append_right (Nat.le_refl _), Nat.sub_self] at hj
        cases hj
        exact ⟨x, y, by rw [el]; exact hx, by rw [el]; exact hy, up _ _ (Nat.ne_of_gt lS) ht⟩
      · rw [List.getElem?_eq_none (by rw [List.length_append, List.length_singleton]; omega)] at hj; cases hj
theorem len_zip : typeLookup (.type "zip") "__len__" = pure none := by rw [typeLookup_type, builtinLookup_eq_fast]; kernel_rfl
theorem hint_zip : typeLookup (.type "zip") "__length_hint__" = pure none := by rw [typeLookup_type, builtinLookup_eq_fast]; kernel_rfl
theorem zl_hint (hT : s.TypeIs (.ref u) "zip") {Q : Bool → Shared → Prop} (h : Q true s) : wpAny (model prog w) A (Builtin.List.listLengthHint (.ref u)) Q E s := by
  unfold Builtin.List.listLengthHint
  refine wpAny_bind (wpAny_specialOf hT len_zip ?_)
  show wpAny _ _ (specialOf (Value.ref u) (Str.ofString "__length_hint__") >>= _) Q E s
  exact wpAny_bind (wpAny_specialOf hT hint_zip (wpAny_pure h))
theorem zl_extend (hh : A.handled = none) (D : ZipApart u P O ia ib la lb) (lo : Low S u P O ia ib la lb) (hN : N ≤ sizeLine) (h1 : ∀ i, i < N → ∃ x y, xs[i]? = some x ∧ ys[i]? = some y) (h2 : xs[N]? = none ∨ ys[N]? = none) (res : Value) (c₀ : Nat)
    (hS : s.heap.get? S = some { cls := .type "list", data := .seq #[] c₀ }) (hu : IsZip s.heap u P O .none) (st : ZipSt s.heap S u P O ia ib la lb xs ys 0)
    (hR : ∀ h' tk acc c as, (∀ b o, b < S → b ≠ u → b ≠ O → b ≠ ia → b ≠ ib → s.heap.get? b = some o → h'.get? b = some o) → h'.get? S = some { cls := .type "list", dict := none, data := .seq acc c, slots := #[] } → as.length = N → ZG xs ys S h' as →
      acc.toList = as.map Value.ref → R (.ok (.ret res)) { s with heap := h', toks := tk }) :
    wpAny (model prog w) A.in1 (Builtin.List.listExtendWith (.ref S) (.ref u) res)
      (fun fin s' => match fin with | .done f => R (.ok f) s' | .again c' => c'.quiet = true ∧ codeAny (model prog w) A c' R s') (fun e s' => R (.error e) s') s := by
  have key : ∀ (h : Heap) (c tk : Nat), (∀ b o, b ≠ S → s.heap.get? b = some o → h.get? b = some o) → h.get? S = some { cls := .type "list", data := .seq #[] c } →
      codeAny (model prog w) A (.builtin "list.extend.loop" ⟨[.ref S, .ref u, res], []⟩) R { s with heap := h, toks := tk } := fun h c tk hk eS =>
    zl_loop (h₀ := s.heap) hh D lo hN h1 h2 res hR N 0 h tk c #[] [] (Nat.sub_zero _) (Nat.zero_le _) (st.keep hk lo.ne) (fun b o b0 _ _ _ _ q => hk b o (Nat.ne_of_lt b0) q) eS rfl rfl
      ⟨List.Pairwise.nil, (fun _ m => nomatch m), (fun j a hj => by simp at hj)⟩
  unfold Builtin.List.listExtendWith
  refine wpAny_bind (wpAny_typeOf (T := "zip") ⟨_, hu, rfl⟩ ?_)
  have q1 : Builtin.List.listSameRef (.ref S) (.ref u) = false := by simp [Builtin.List.listSameRef, lo.ne.1.symm]
  have q2 : (Value.type "zip" == Value.type "list") = false := by decide
  have q3 : (Value.type "zip" == Value.type "tuple") = false := by decide
  simp only [q1, q2, q3, Bool.or_false, Bool.false_eq_true, if_false]
  refine wpAny_bind (wpAny_pyIter_zip hu ?_)
  refine wpAny_bind (wpAny_holding (zl_hint ⟨_, hu, rfl⟩ ?_))
  refine wpAny_ite_split (fun _ => ?_) (fun _ => wpAny_pure ⟨plainId_quiet PySem.F.plain_extend_loop _, key _ c₀ _ (fun b o _ e => e) hS⟩)
  refine wpAny_bind (wpAny_rule (wpAny_bind ?_))
  show wpAny _ _ (updateSeq S (·.push .none) >>= fun _ => updateSeq S (·.pop)) _ _ s
  refine wpAny_bind (wpAny_updateSeq hS rfl ?_)
  have e2 := Heap.get?_update_self (Obj.mapSeq (·.push Value.none)) hS rfl
  refine wpAny_updateSeq (hz := by seq_fits) e2 rfl ?_
  have e3 := Heap.get?_update_self (Obj.mapSeq (·.pop)) e2 rfl
  refine wpAny_pure ⟨plainId_quiet PySem.F.plain_extend_loop _, key _ _ _ (fun b o hb e => ?_) e3⟩
  exact (Heap.get?_update_other _ _ (Ne.symm hb)).trans ((Heap.get?_update_other _ _ (Ne.symm hb)).trans e)
theorem zl_init (hh : A.handled = none) (D : ZipApart u P O ia ib la lb) (lo : Low S u P O ia ib la lb) (hN : N ≤ sizeLine) (h1 : ∀ i, i < N → ∃ x y, xs[i]? = some x ∧ ys[i]? = some y) (h2 : xs[N]? = none ∨ ys[N]? = none)
    (eS : s.heap.get? S = some { cls := .type "list", data := .seq #[] }) (hu : IsZip s.heap u P O .none) (st : ZipSt s.heap S u P O ia ib la lb xs ys 0)
    (hR : ∀ h' tk acc c as, (∀ b o, b < S → b ≠ u → b ≠ O → b ≠ ia → b ≠ ib → s.heap.get? b = some o → h'.get? b = some o) → h'.get? S = some { cls := .type "list", dict := none, data := .seq acc c, slots := #[] } → as.length = N → ZG xs ys S h' as →
      acc.toList = as.map Value.ref → R (.ok (.ret .none)) { s with heap := h', toks := tk }) :
    wpAny (model prog w) A.in1 (Builtin.«list.__init__» ⟨[.ref S, .ref u], []⟩)
      (fun fin s' => match fin with | .done f => R (.ok f) s' | .again c' => c'.quiet = true ∧ codeAny (model prog w) A c' R s') (fun e s' => R (.error e) s') s := by
  show wpAny _ _ (do let old ← Builtin.List.listItems (.ref S); Builtin.List.listUpdate (.ref S) (fun _ => #[]); letGo old.toList.reverse; Builtin.List.listExtendWith (.ref S) (.ref u) .none) _ _ s
  refine wpAny_bind ?_
  unfold Builtin.List.listItems
  refine wpAny_bind (wpAny_seqItems eS rfl (wpAny_pure ?_))
  show wpAny _ _ (updateSeq S (fun _ => #[]) >>= fun _ => letGo (#[] : Array Value).toList.reverse >>= fun _ => Builtin.List.listExtendWith (.ref S) (.ref u) .none) _ _ s
  refine wpAny_bind (wpAny_updateSeq eS rfl ?_)
  have e2 := Heap.get?_update_self (Obj.mapSeq (fun _ => (#[] : Array Value))) eS rfl
  have oth : ∀ b o, b ≠ S → s.heap.get? b = some o → (s.heap.update S (Obj.mapSeq (fun _ => (#[] : Array Value)))).get? b = some o := fun b o hb e => (Heap.get?_update_other _ _ (Ne.symm hb)).trans e
  refine wpAny_bind (wpAny_letGo ?_)
  exact zl_extend hh D lo hN h1 h2 .none _ e2 (oth _ _ lo.ne.1 hu) (st.keep oth lo.ne) fun h' tk acc c as hk hS' hl hG hacc =>
    hR h' tk acc c as (fun b o b0 b1 b2 b3 b4 e => hk b o b0 b1 b2 b3 b4 (oth b o (Nat.ne_of_lt b0) e)) hS' hl hG hacc
/-- list(u), u a fresh zip -/
theorem zl_call {Q : Value → Shared → Prop} (hh : A.handled = none) (D : ZipApart u P O ia ib la lb) (lo : Low s.heap.objs.size u P O ia ib la lb) (hN : N ≤ sizeLine) (h1 : ∀ i, i < N → ∃ x y, xs[i]? = some x ∧ ys[i]? = some y) (h2 : xs[N]? = none ∨ ys[N]? = none)
    (hu : IsZip s.heap u P O .none) (pr : IsPair s.heap P (.ref ia) (.ref ib)) {v₀ w₀ : Value} (po : IsPair s.heap O v₀ w₀) (ha : s.heap.IsListIter ia la 0) (hb : s.heap.IsListIter ib lb 0) (hla : s.heap.IsList la xs) (hlb : s.heap.IsList lb ys)
    (hQ : ∀ h' tk acc c as, (∀ b o, b ≠ u → b ≠ O → b ≠ ia → b ≠ ib → s.heap.get? b = some o → h'.get? b = some o) → h'.get? s.heap.objs.size = some { cls := .type "list", dict := none, data := .seq acc c, slots := #[] } → as.length = N →
      ZG xs ys s.heap.objs.size h' as → acc.toList = as.map Value.ref → Q (.ref s.heap.objs.size) { s with heap := h', toks := tk }) :
    wpAny (model prog w) A (call (.type "list") [.ref u]) Q E s := by
  refine callType_codes (Q₁ := fun obj s₁ => obj = .ref s.heap.objs.size ∧ s₁ = { s with heap := s.heap.push { cls := .type "list", data := .seq #[] } }) PySem.F.called_list (PySem.F.typeCall_list_1 _) PySem.F.entry_list_init
    (code_list_new _ ⟨rfl, rfl⟩) fun obj s₁ q => ?_
  obtain ⟨rfl, rfl⟩ := q
  have eS : (s.heap.push { cls := .type "list", data := .seq #[] }).get? s.heap.objs.size = some { cls := .type "list", data := .seq #[] } := Heap.get?_push_size _ rfl
  have oth : ∀ b o, s.heap.get? b = some o → (s.heap.push { cls := .type "list", data := .seq #[] }).get? b = some o := fun b o e => Heap.get?_push_of_some _ e
  refine ⟨⟨_, eS, rfl⟩, PySem.F.args_list_init_2 _ _, zl_init (A := A.in1) hh D lo hN h1 h2 eS (oth _ _ hu) ⟨.inl ⟨rfl, oth _ _ hu, _, _, oth _ _ po⟩, oth _ _ pr, ha.at fun o e => oth _ o e, hb.at fun o e => oth _ o e, hla.at fun o e => oth _ o e, hlb.at fun o e => oth _ o e⟩
    fun h' tk acc c as hk hS' hl hG hacc => ?_⟩
  exact ⟨rfl, hQ h' tk acc c as (fun b o b1 b2 b3 b4 e => hk b o (Heap.lt_size e) b1 b2 b3 b4 (oth b o e)) hS' hl hG hacc⟩
end
end LzZ

set_option Elab.async false
set_option linter.all false
set_option maxRecDepth 100000
/-! list(zip(a, b)) of two lists, by data -/
namespace Dl
open PySem PySem.Spec PyProof.Rows L2 LzZ
def laid : Hp → List Addr → List (V × V) → Hp
  | H, a :: as, z :: zs => laid (upd H a (.tup [z.1, z.2])) as zs
  | H, _, _ => H
theorem laid_off {b : Addr} : ∀ (as : List Addr) (zs : List (V × V)) (H : Hp), b ∉ as → laid H as zs b = H b
  | [], _, _, _ => by simp [laid]
  | _ :: _, [], _, _ => by simp [laid]
  | a :: as, z :: zs, H, h => by
    rw [List.mem_cons, not_or] at h
    rw [laid, laid_off as zs _ h.2, upd_ne h.1]
theorem laid_at : ∀ (as : List Addr) (zs : List (V × V)) (H : Hp), as.length = zs.length → as.Nodup → ∀ (j : Nat) (t : Addr) (z : V × V), as[j]? = some t → zs[j]? = some z → laid H as zs t = some (.tup [z.1, z.2])
  | [], _, _, _, _, j, t, z, h, _ => by simp at h
  | _ :: _, [], _, h, _, _, _, _, _, _ => by cases h
  | a :: as, y :: zs, H, h, hn, j, t, z, e1, e2 => by
    have hn' := List.nodup_cons.mp hn
    rw [laid]
    cases j with
    | zero =>
      simp only [List.getElem?_cons_zero, Option.some.injEq] at e1 e2
      subst e1 e2
      rw [laid_off as zs _ hn'.1, upd_same]
    | succ j => exact laid_at as zs _ (Nat.succ.inj h) hn'.2 j t z (by simpa using e1) (by simpa using e2)
theorem vals_refs : ∀ as : List Addr, Vals (as.map V.ref) (as.map Value.ref)
  | [] => .nil
  | _ :: as => .cons rfl (vals_refs as)
theorem vals_at : ∀ {xs : List V} {us : List Value}, Vals xs us → ∀ {j : Nat} {u : Value}, us[j]? = some u → ∃ x, xs[j]? = some x ∧ RelV x u
  | _, _, .nil, j, u, h => by simp at h
  | _, _, .cons r t, 0, u, h => by
    simp only [List.getElem?_cons_zero, Option.some.injEq] at h
    subst h
    exact ⟨_, rfl, r⟩
  | _, _, .cons r t, j + 1, u, h => by
    obtain ⟨x, e, q⟩ := vals_at t (j := j) (u := u) (by simpa using h)
    exact ⟨x, by simpa using e, q⟩
theorem vals_len : ∀ {xs : List V} {us : List Value}, Vals xs us → xs.length = us.length
  | _, _, .nil => rfl
  | _, _, .cons _ t => by rw [List.length_cons, List.length_cons, vals_len t]
theorem zip_laid {X : Cx} {pins : List (Addr × Obj)} {σ : L2.St} {H : Hp} {s : Shared} {h' : Heap} {tk : Nat} {xs ys : List V} {us ws : Array Value} {acc : Array Value} {c S : Nat} {as : List Addr} (I : Inv X pins σ H s) (hx : Vals xs us.toList) (hy : Vals ys ws.toList)
    (hn : (xs.zip ys).length ≤ sizeLine) (hk : ∀ b o, s.heap.get? b = some o → h'.get? b = some o) (lS : s.heap.objs.size ≤ S) (hS : h'.get? S = some { cls := .type "list", dict := none, data := .seq acc c, slots := #[] })
    (hl : as.length = (xs.zip ys).length) (hG : ZG us ws S h' as) (hacc : acc.toList = as.map Value.ref) :
    ∃ H' : Hp, (∀ b o, H b = some o → H' b = some o) ∧ H S = none ∧ (∀ t ∈ as, H t = none) ∧ S ∉ as ∧ H' S = some (.lst (as.map V.ref)) ∧
      (∀ (j : Nat) (t : Addr) (z : V × V), as[j]? = some t → (xs.zip ys)[j]? = some z → H' t = some (.tup [z.1, z.2])) ∧ Inv X pins σ H' { s with heap := h', toks := tk } := by
  have nS : S ∉ as := fun z => Nat.lt_irrefl _ (hG.above _ z)
  have nd : as.Nodup := hG.rise.imp fun h => Nat.ne_of_lt h
  have newS : H S = none := I.hok.fresh lS
  have new : ∀ t ∈ as, H t = none := fun t ht => I.hok.fresh (Nat.le_of_lt (Nat.lt_of_le_of_lt lS (hG.above t ht)))
  have low : ∀ b o, s.heap.get? b = some o → b ∉ as ∧ b ≠ S := fun b o e =>
    ⟨fun z => Nat.lt_irrefl b (Nat.lt_of_lt_of_le (Heap.lt_size e) (Nat.le_of_lt (Nat.lt_of_le_of_lt lS (hG.above b z)))), fun z => Nat.lt_irrefl b (Nat.lt_of_lt_of_le (Heap.lt_size e) (by rw [z]; exact lS))⟩
  have off : ∀ b, b ∉ as → b ≠ S → laid (upd H S (.lst (as.map V.ref))) as (xs.zip ys) b = H b := fun b h1 h2 => by rw [laid_off as _ _ h1, upd_ne h2]
  have kp : ∀ b u, H b = some u → (laid (upd H S (.lst (as.map V.ref))) as (xs.zip ys)) b = some u := fun b u e => by
    rw [off b (fun z => by rw [new b z] at e; cases e) (fun z => by rw [z, newS] at e; cases e)]; exact e
  have eS : laid (upd H S (.lst (as.map V.ref))) as (xs.zip ys) S = some (.lst (as.map V.ref)) := by rw [laid_off as _ _ nS, upd_same]
  have atP := laid_at as (xs.zip ys) (upd H S (.lst (as.map V.ref))) hl nd
  refine ⟨laid (upd H S (.lst (as.map V.ref))) as (xs.zip ys), kp, newS, new, nS, eS, atP, ?_⟩
  refine I.call' (ch := []) rfl ⟨fun b o q _ _ _ => hk b o q, fun b o q _ _ _ => ⟨o.slots, hk b o q⟩, fun b o q n _ => by rw [off b (low b o q).1 (low b o q).2]; exact n,
    fun b o q _ => ⟨o, hk b o q⟩, fun b xs q => kp b _ q, fun b o u q => kp b _ q, fun b ps q => ⟨#[], by rw [kp b _ q]; simp⟩⟩ (fun b u q => ?_) I.bare fun b z => by simp at z
  by_cases hb : b ∈ as
  · obtain ⟨j, hj⟩ := List.mem_iff_getElem?.mp hb
    obtain ⟨x, y, e1, e2, e3⟩ := hG.pairs j b hj
    obtain ⟨x', f1, g1⟩ := vals_at hx (j := j) (u := x) (by simpa using e1)
    obtain ⟨y', f2, g2⟩ := vals_at hy (j := j) (u := y) (by simpa using e2)
    rw [atP j b (x', y') hj (by rw [List.getElem?_zip_eq_some]; exact ⟨f1, f2⟩)] at q
    cases q
    exact ⟨by show 2 ≤ sizeLine; decide, [x, y], .cons g1 (.cons g2 .nil), ⟨_, e3, rfl, _, rfl⟩⟩
  · by_cases hb2 : b = S
    · subst hb2
      rw [eS] at q
      cases q
      refine ⟨by rw [List.length_map, hl]; exact hn, acc.toList, c, by rw [hacc]; exact vals_refs as, ?_⟩
      rw [Array.toArray_toList]
      exact hS
    · rw [off b hb hb2] at q
      exact (I.hok b u q).stay (fun d v _ y => hk d v y) (fun d y => kp d _ y) fun d xs y => kp d _ y
def tLz (K : PySem.W.Frag) (ta : TA) : TE := fun σ H Q => ta σ H fun vs H1 => ∃ (a b : Addr) (xs ys : List V), vs = [.ref a, .ref b] ∧ SqL K H1 a xs ∧ SqL K H1 b ys ∧
  ∀ (H' : Hp) (p : Addr) (as : List Addr), (∀ b u, H1 b = some u → H' b = some u) → H1 p = none → (∀ t ∈ as, H1 t = none) → p ∉ as → as.length = (xs.zip ys).length → H' p = some (.lst (as.map V.ref)) →
    (∀ (j : Nat) (t : Addr) (z : V × V), as[j]? = some t → (xs.zip ys)[j]? = some z → H' t = some (.tup [z.1, z.2])) → Q (.ref p) H'
section
variable {X : Cx} {E : XK} {e e2 : Expr} {ta : TA} {da : DTA} {p zp zpos pos : Pos}
theorem pe_lz (hc : X.calm = true) (hg : Gl X "list") (hm : X.mg "list" = none) (hg2 : Gl X "zip") (hm2 : X.mg "zip" = none) (ha : PA X [e, e2] ta)
    (hs : starEach [.Call (.Name "zip" zp) [e, e2] [] zpos] X.env = (false, eval (.Call (.Name "zip" zp) [e, e2] [] zpos) X.env) :: starEach [] X.env := by rfl)
    (hs2 : starEach [e, e2] X.env = (false, eval e X.env) :: starEach [e2] X.env := by rfl) (hp2 : (backTo zpos (starEach [e2] X.env)).any (·.1) = false := by rfl) :
    PE X (.Call (.Name "list" p) [.Call (.Name "zip" zp) [e, e2] [] zpos] [] pos) (tLz X.K ta) := ⟨fun pins s σ H Q I q0 => by
  refine wpAny_Call_Name_kw (ld_blt I hg hm (show bootBuiltins "list" = some (.type "list") by decide +kernel) (PyProof.Rows.callWith_type1 ?_ hs rfl))
  rw [hs]
  refine Calls.spliced_cons (wpAny_Call_Name_kw (ld_blt I hg2 hm2 PyProof.Rows.boot_zip (PyProof.Rows.callWith_type1 (thn (ha.run zpos pins s σ H _ I q0) fun us s1 ⟨vs, H1, I1, r1, q1⟩ => ?_) hs2 hp2)))
  obtain ⟨a, b, xs, ys, ex, hqx, hqy, q⟩ := q1
  subst ex
  cases r1 with | cons r rr =>
  cases rr with | cons r' rr =>
  cases rr; cases r; cases r'
  obtain ⟨us, rv, p1, n1⟩ := I1.list hqx
  obtain ⟨ws, rw2, p2, n2⟩ := I1.list hqy
  have la := p1.lt
  have lb := p2.lt
  refine call_zip_2 p1.isList p2.isList fun h2 hz hP hO ha2 hb2 hsz hk => ?_
  have I2 : Inv X pins σ H1 { s1 with heap := h2 } := I1.kept (t' := s1.toks) hk
  refine Calls.spliced_nil ?_
  have l0 : ∀ n : Nat, n < 5 → (s1.heap.objs.size + n : Nat) < h2.objs.size := fun n h => by rw [hsz]; omega
  have low : Low h2.objs.size (s1.heap.objs.size + 4) (s1.heap.objs.size + 2) (s1.heap.objs.size + 3) s1.heap.objs.size (s1.heap.objs.size + 1) a b :=
    ⟨l0 4 (by decide), l0 2 (by decide), l0 3 (by decide), l0 0 (by decide), l0 1 (by decide), Nat.lt_trans la (l0 0 (by decide)), Nat.lt_trans lb (l0 0 (by decide))⟩
  have lx := vals_len rv
  have ly := vals_len rw2
  have lz : (xs.zip ys).length ≤ sizeLine := by rw [List.length_zip]; omega
  refine zl_call (s := { s1 with heap := h2 }) (N := (xs.zip ys).length) (xs := us.toArray) (ys := ws.toArray) (I1.ok.hd hc) (PySem.W.ktu_apart s1.heap.objs.size a b la lb) low lz ?_ ?_ hz hP hO ha2 hb2 (p1.isList.at fun o e => hk _ o e) (p2.isList.at fun o e => hk _ o e) fun h' tk acc c as k1 k2 k3 k4 k5 => ?_
  · intro i hi
    rw [List.length_zip] at hi
    exact ⟨_, _, Array.getElem?_eq_getElem (by rw [List.size_toArray]; omega), Array.getElem?_eq_getElem (by rw [List.size_toArray]; omega)⟩
  · rw [List.length_zip]
    rcases Nat.le_total xs.length ys.length with h | h
    · exact .inl (Array.getElem?_eq_none (by rw [List.size_toArray]; omega))
    · exact .inr (Array.getElem?_eq_none (by rw [List.size_toArray]; omega))
  · have kk : ∀ b o, s1.heap.get? b = some o → h'.get? b = some o := fun b o e => by
      have l := Heap.lt_size e
      exact k1 b o (Nat.ne_of_lt (Nat.lt_add_right 4 l)) (Nat.ne_of_lt (Nat.lt_add_right 3 l)) (Nat.ne_of_lt l) (Nat.ne_of_lt (Nat.lt_add_right 1 l)) (hk b o e)
    obtain ⟨H', m1, m2, m3, m4, m5, m6, J⟩ := zip_laid (tk := tk) I1 rv rw2 lz kk (Nat.le_of_lt (l0 0 (by decide))) k2 k3 k4 k5
    exact ⟨.ref _, H', J, rfl, q H' _ as m1 m2 m3 m4 k3 m5 m6⟩⟩
def dLz (da : DTA) : DTE := fun E δ μ Q => da E δ μ fun ds μ1 => two ds fun x y => (rd μ1 x).toL fun xs => (rd μ1 y).toL fun ys => Q (.lst (zipD xs ys)) μ1
theorem dLz_p (da : DTA) : ∀ E δ μ Q, dLz da E δ μ Q = (da E δ μ fun ds μ1 => two ds fun x y => (rd μ1 x).toL fun xs => (rd μ1 y).toL fun ys => Q (.lst (zipD xs ys)) μ1) := fun _ _ _ _ => Eq.trans (Eq.symm (Eq.refl _)) (Eq.refl _)
theorem laid_rep {K : PySem.W.Frag} {H H' : Hp} {μ : Mu} (g : Grow H μ H' μ) : ∀ {vs ws : List V} {xs ys : List D} {as : List Addr}, Reps K H μ vs xs → Reps K H μ ws ys → as.length = (vs.zip ws).length →
    (∀ (j : Nat) (t : Addr) (z : V × V), as[j]? = some t → (vs.zip ws)[j]? = some z → H' t = some (.tup [z.1, z.2])) → (∀ t ∈ as, μ t = none) → Reps K H' μ (as.map V.ref) (zipD xs ys)
  | [], ws, xs, ys, as, r, _, hl, _, _ => by
    cases r
    cases as with
    | nil => exact .nil
    | cons _ _ => simp at hl
  | v :: vs, [], xs, ys, as, _, r, hl, _, _ => by
    cases r
    cases as with
    | nil => cases xs <;> exact .nil
    | cons _ _ => simp at hl
  | v :: vs, w :: ws, xs, ys, as, r, r', hl, hp, hm => by
    cases r with | @cons _ x _ xs h r =>
    cases r' with | @cons _ y _ ys h' r' =>
    cases as with
    | nil => simp at hl
    | cons t as =>
      refine .cons (.of_con (hm t (.head _)) (.tup (.inl (hp 0 t (v, w) rfl rfl)) (.cons (h.grow g) (.cons (h'.grow g) .nil)))) ?_
      exact laid_rep g r r' (by simpa using hl) (fun j t z e1 e2 => hp (j + 1) t z (by simpa using e1) (by simpa using e2)) fun u hu => hm u (.tail _ hu)
theorem de_lz {K : PySem.W.Frag} (hK : X.K = K) (hc : X.calm = true) (hg : Gl X "list") (hm : X.mg "list" = none) (hg2 : Gl X "zip") (hm2 : X.mg "zip" = none) (ha : DA X E [e, e2] ta da)
    (hs : starEach [.Call (.Name "zip" zp) [e, e2] [] zpos] X.env = (false, eval (.Call (.Name "zip" zp) [e, e2] [] zpos) X.env) :: starEach [] X.env := by rfl)
    (hs2 : starEach [e, e2] X.env = (false, eval e X.env) :: starEach [e2] X.env := by rfl) (hp2 : (backTo zpos (starEach [e2] X.env)).any (·.1) = false := by rfl) :
    DE X E (.Call (.Name "list" p) [.Call (.Name "zip" zp) [e, e2] [] zpos] [] pos) (tLz K ta) (dLz da) := by
  subst hK
  exact ⟨pe_lz hc hg hm hg2 hm2 ha.pe hs hs2 hp2, ⟨fun {σ H δ μ Q Q' E'} hh x d q => ha.sn.go hh x d fun v y H1 μ1 t1 r1 d1 => by
    obtain ⟨x1, x2, rfl, d2⟩ := two_inv d1
    obtain ⟨v1, v2, rfl, r2, r3⟩ := r1.inv2
    obtain ⟨xs, e1, d3⟩ := toL_inv d2
    obtain ⟨ys, e2, d4⟩ := toL_inv d3
    obtain ⟨a, vs, rfl, ha', ra⟩ := rd_lst t1.cells r2 e1
    obtain ⟨b, ws, rfl, hb', rb⟩ := rd_lst t1.cells r3 e2
    refine ⟨a, b, vs, ws, rfl, SqL.of ha', SqL.of hb', fun H' p as k1 k2 k3 k4 k5 k6 k7 => ?_⟩
    have g : Grow H1 μ1 H' μ1 := .ext fun b u w _ => k1 b u w
    have t : Then X.K H1 μ1 H' μ1 := ⟨g, fun b z w => ⟨(t1.cells b z w).1.stay g fun u => k1 b u, (t1.cells b z w).2.keep (t1.cells b z w).1 fun u => k1 b u⟩⟩
    exact q _ _ _ _ (t1.trans t) (.of_con (mu_none t1.cells k2) (.lst k6 (laid_rep g ra rb k5 k7 fun t ht => mu_none t1.cells (k3 t ht)))) d4⟩⟩
end
/-! how the walk meets dicts -/
theorem hu1 {X : Cx} {k : Nat} (hr : Room k X.A) : X.A.units + 1 < cLine := by have := hr.units; omega
theorem dDict0_p : ∀ E δ μ Q, dDict0 E δ μ Q = (∀ p, μ p = none → Q (.ref p) (mup μ p (dkD []))) := fun _ _ _ _ => Eq.trans (Eq.symm (Eq.refl _)) (Eq.refl _)
theorem sDPutD_p (td ty tv : DTE) : ∀ E D δ μ, sDPutD td ty tv E D δ μ = (tv E δ μ fun v μ1 => td E δ μ1 fun x μ2 => ty E δ μ2 fun y μ3 => celK μ3 x fun p l => ∃ k, keyD y = some k ∧ l.length < 16777216 ∧ D.nx δ (mup μ3 p (dkD (putA l k v)))) := fun _ _ _ _ => Eq.trans (Eq.symm (Eq.refl _)) (Eq.refl _)
theorem dDc_p (w : DTI) (g : DTG) (tt : DTT) (tk tv : DTE) (ws : List Nat) : ∀ E δ μ Q, dDc w g tt tk tv ws E δ μ Q = (w E δ μ fun xs C μ1 => ∀ L, μ1 L = none → dcL g tt tk tv (wipeD δ ws) L C (fun acc μ2 => Q (dkD acc) (era μ2 L)) xs [] (mup μ1 L (dkD []))) := fun _ _ _ _ => Eq.trans (Eq.symm (Eq.refl _)) (Eq.refl _)
theorem dDcC_p (w : DTI) (g : DTG) (tt : DTT) (tk tv : DTE) (ws : List Nat) : ∀ E δ μ Q, dDcC w g tt tk tv ws E δ μ Q = (w E δ μ fun xs C μ1 => ∀ L, μ1 L = none → dcL g tt tk tv (wipeD δ ws) L C (fun _ μ2 => Q (.ref L) μ2) xs [] (mup μ1 L (dkD []))) := fun _ _ _ _ => Eq.trans (Eq.symm (Eq.refl _)) (Eq.refl _)
theorem dLi_p (de : DTE) : ∀ E δ μ Q, dLi de E δ μ Q = (de E δ μ fun x μ1 => asDk (rd μ1 x) fun l => Q (.lst (l.map itD)) μ1) := fun _ _ _ _ => Eq.trans (Eq.symm (Eq.refl _)) (Eq.refl _)
theorem gLenD_p : ∀ ds μ Q, gLenD ds μ Q = (one ds fun x => asDk (rd μ x) fun l => Q (.int (l.length : Nat)) μ) := fun _ _ _ => Eq.trans (Eq.symm (Eq.refl _)) (Eq.refl _)
theorem dDGet1_p (a b : DTE) : ∀ E δ μ Q, dDGet1 a b E δ μ Q = (a E δ μ fun x μ1 => isDk (rd μ1 x) ∧ b E δ μ1 fun y μ2 => dkK (rd μ2 x) y fun ks xs k => Q ((atD ks xs k).getD .non) μ2) := fun _ _ _ _ => Eq.trans (Eq.symm (Eq.refl _)) (Eq.refl _)
theorem dDGet2_p (a b c : DTE) : ∀ E δ μ Q, dDGet2 a b c E δ μ Q = (a E δ μ fun x μ1 => isDk (rd μ1 x) ∧ b E δ μ1 fun y μ2 => c E δ μ2 fun z μ3 => dkK (rd μ3 x) y fun ks xs k => Q ((atD ks xs k).getD z) μ3) := fun _ _ _ _ => Eq.trans (Eq.symm (Eq.refl _)) (Eq.refl _)
theorem dDGet_p (a b : DTE) : ∀ E δ μ Q, dDGet a b E δ μ Q = (a E δ μ fun x μ1 => b E δ μ1 fun y μ2 => dkK (rd μ2 x) y fun ks xs k => ∃ z, atD ks xs k = some z ∧ Q z μ2) := fun _ _ _ _ => Eq.trans (Eq.symm (Eq.refl _)) (Eq.refl _)
theorem gInD_p (neg : Bool) : ∀ y x μ Q, gInD neg y x μ Q = (dkK (rd μ x) y fun ks xs k => Q (.bl (if neg then !(atD ks xs k).isSome else (atD ks xs k).isSome)) μ) := fun _ _ _ _ => Eq.trans (Eq.symm (Eq.refl _)) (Eq.refl _)
theorem dkK_str (l : AL) (c : List Nat) (F : List Key → List D → Key → Prop) : dkK (dkD l) (.str c) F = F (l.map (·.1)) (l.map (·.2)) (.inr (ofL c)) := Eq.trans (Eq.symm (Eq.refl _)) (Eq.refl _)
theorem dkK_int (l : AL) (c : Int) (F : List Key → List D → Key → Prop) : dkK (dkD l) (.int c) F = F (l.map (·.1)) (l.map (·.2)) (.inl c) := Eq.trans (Eq.symm (Eq.refl _)) (Eq.refl _)
theorem isDk_dk (l : AL) : isDk (dkD l) = True := Eq.trans (Eq.symm (Eq.refl _)) (Eq.refl _)
theorem rd_dk' {μ : Mu} (l : AL) : rd μ (dkD l) = dkD l := Eq.trans (Eq.symm (Eq.refl _)) (Eq.refl _)
theorem tyN_dkD (l : AL) : tyN (dkD l) = some "dict" := Eq.trans (Eq.symm (Eq.refl _)) (Eq.refl _)
theorem isN_dkD (l : AL) : isN (dkD l) = false := Eq.trans (Eq.symm (Eq.refl _)) (Eq.refl _)
theorem isS_dkD (l : AL) : isS (dkD l) = false := Eq.trans (Eq.symm (Eq.refl _)) (Eq.refl _)
theorem keyD_s (c : List Nat) : keyD (.str c) = some (.inr (ofL c)) := Eq.trans (Eq.symm (Eq.refl _)) (Eq.refl _)
theorem keyD_i (c : Int) : keyD (.int c) = some (.inl c) := Eq.trans (Eq.symm (Eq.refl _)) (Eq.refl _)
end Dl

set_option Elab.async false
set_option linter.all false
set_option maxRecDepth 100000
/-! a field of a cell += a whole number; text.startswith(part, at); texts by > -/
namespace Dl
open PySem PySem.Spec PyProof.Rows L2
def insK (μ : Mu) (C : Addr) (ks : List Str) (p : Addr) (k : List D → Prop) : Prop := match μ p with | some (.ins C' ks' xs) => C' = C ∧ ks' = ks ∧ k xs | _ => False
theorem insK_inv {μ : Mu} {C p : Addr} {ks : List Str} {k : List D → Prop} (h : insK μ C ks p k) : ∃ xs, μ p = some (.ins C ks xs) ∧ k xs := by
  unfold insK at h
  split at h
  · rename_i e
    obtain ⟨rfl, rfl, h⟩ := h
    exact ⟨_, e, h⟩
  · exact h.elim
theorem insK_of {μ : Mu} {C p : Addr} {ks : List Str} {xs : List D} {k : List D → Prop} (h : μ p = some (.ins C ks xs)) : insK μ C ks p k = k xs := by
  unfold insK
  simp only [h, true_and]
def sAugF (C : Addr) (ks : List Str) (i : Nat) (a v : DTE) (f : Int → Int → Int) : DTS := fun E D δ μ => a E δ μ fun x μ1 => x.toR fun p => insK μ1 C ks p fun xs => match xs[i]? with
  | some z => z.toI fun n => v E δ μ1 fun y μ2 => y.toI fun m => insK μ2 C ks p fun ys => D.nx δ (mup μ2 p (.ins C ks (ys.set i (.int (f n m)))))
  | none => False
theorem sAugF_p (C : Addr) (ks : List Str) (i : Nat) (a v : DTE) (f : Int → Int → Int) : ∀ E D δ μ, sAugF C ks i a v f E D δ μ = (a E δ μ fun x μ1 => x.toR fun p => insK μ1 C ks p fun xs => match xs[i]? with
  | some z => z.toI fun n => v E δ μ1 fun y μ2 => y.toI fun m => insK μ2 C ks p fun ys => D.nx δ (mup μ2 p (.ins C ks (ys.set i (.int (f n m)))))
  | none => False) := fun _ _ _ _ => Eq.trans (Eq.symm (Eq.refl _)) (Eq.refl _)
def rInt2 (f : Int → Int → Int) : V → V → Hp → VK → Prop := fun x y H Q => ∃ i j, x = .int i ∧ y = .int j ∧ Q (.int (f i j)) H
section
variable {X : Cx} {E : XK} {o e : Expr} {f : Str} {pos pos' : Pos} {to te : TE} {dob de : DTE}
theorem ds_augF {K : PySem.W.Frag} {C : Addr} {ks : List Str} {i : Nat} {op : Operator} {g : Int → Int → Int} (hK : X.K = K) (c : Cls K C) (n : NoAttr K C f) (hi : ks[i]? = some f) (hn : f ∉ ks.take i) (hl : ks.length < 900) (hop : InOp X op (rInt2 g)) (ha : DE X E o to dob) (hv : DE X E e te de) :
    DS X E (.AugAssign (.Attribute o f pos') op e pos) (sFldAug K to te (rInt2 g) f) (sAugF C ks i dob de g) := by
  subst hK
  refine ⟨ps_fldaug ha.pe hv.pe hop, ⟨fun {σ H δ μ D D' E'} hh x d q => ha.sn.go hh x d fun u z H1 μ1 t1 r1 d1 => ?_⟩⟩
  obtain ⟨p, rfl, d2⟩ := toR_inv d1
  obtain ⟨xs, em, d3⟩ := insK_inv d2
  have q1 := (t1.cells p _ em).1
  cases q1 with | @ins _ _ dx fs xs h rr =>
  cases ex : xs[i]? with
  | none => rw [ex] at d3; exact d3.elim
  | some w =>
    rw [ex] at d3
    obtain ⟨m, rfl, d4⟩ := toI_inv d3
    obtain ⟨v0, h1, h2⟩ := rr.get ex
    refine ⟨p, C, dx, fs, v0, r1.ref_inv, h, c, n, lookup_at hi h1 hn, hv.sn.go (hh.go t1) (x.go t1) d4 fun v y H2 μ2 t2 r2 d5 => ?_⟩
    obtain ⟨j, rfl, d6⟩ := toI_inv d5
    obtain ⟨ys, em2, d7⟩ := insK_inv d6
    refine ⟨m, j, h2.int_inv, r2.int_inv, ?_⟩
    have q2 := (t2.cells p _ em2).1
    generalize hks : fs.map (·.1) = ks at *
    cases q2 with | @ins _ _ dx2 fs2 ys h' rr' =>
    obtain ⟨k1, k2, k3⟩ := putF_old (v := V.int (g m j)) hi hn
    refine ⟨dx2, fs2, h', by have : (fs2.map (·.1)).length < 900 := hl; rw [List.length_map] at this; omega, ?_⟩
    have t3 : Then X.K H2 μ2 (upd H2 p (.ins C dx2 (putF f (V.int (g m j)) fs2))) (mup μ2 p (.ins C (fs2.map (·.1)) (ys.set i (.int (g m j))))) := by
      refine .put t2.cells h' (fun _ z => by cases z) em2 ?_
      have gg : Grow H2 μ2 (upd H2 p (.ins C dx2 (putF f (V.int (g m j)) fs2))) (mup μ2 p (.ins C (fs2.map (·.1)) (ys.set i (.int (g m j))))) := .put h' (fun _ z => by cases z) em2
      exact con_ins upd_same k1.symm (by rw [k2]; exact (rr'.grow gg).set (.int _) i)
    exact q.nx _ _ _ _ ((t1.trans t2).trans t3) ((hh.slots.grow (t1.trans t2).g).grow t3.g) d7
end
def dSw3 (a : DTE) (b : DTA) : DTE := fun E δ μ Q => a E δ μ fun x μ1 => isS x = true ∧ b E δ μ1 fun xs μ2 => x.toS fun l => two xs fun y z => y.toS fun m => z.toI fun i => Q (.bl (Txt.startswith3 (ofL l) (ofL m) i)) μ2
theorem dSw3_p (a : DTE) (b : DTA) : ∀ E δ μ Q, dSw3 a b E δ μ Q = (a E δ μ fun x μ1 => isS x = true ∧ b E δ μ1 fun xs μ2 => x.toS fun l => two xs fun y z => y.toS fun m => z.toI fun i => Q (.bl (Txt.startswith3 (ofL l) (ofL m) i)) μ2) := fun _ _ _ _ => Eq.trans (Eq.symm (Eq.refl _)) (Eq.refl _)
theorem sw3_at {l m : List Nat} {i : Nat} (hi : i ≤ l.length) : Txt.startswith3 (ofL l) (ofL m) (i : Nat) = m.isPrefixOf (l.drop i) := by
  have e : PySem.fromIndex (ofL l).length (i : Nat) = i := by
    rw [ofL_len]
    unfold PySem.fromIndex
    rw [if_neg (by omega)]
    omega
  unfold Txt.startswith3
  rw [e, StrLaws.subAt_eq, ofL_len, ofL_len]
  show (decide (i + m.length ≤ l.length) && ((l.drop i).take m.length == m)) = _
  rw [Bool.eq_iff_iff, List.isPrefixOf_iff_prefix, Bool.and_eq_true, decide_eq_true_eq, beq_iff_eq, List.prefix_iff_eq_take]
  constructor
  · rintro ⟨_, h⟩; exact h.symm
  · intro h
    refine ⟨?_, h.symm⟩
    have := congrArg List.length h
    rw [List.length_take, List.length_drop] at this
    omega
theorem de_sw3 {X : Cx} {E : XK} {K : PySem.W.Frag} {o e : Expr} {es : List Expr} {apos cpos : Pos} {to : TE} {t : TA} {dob : DTE} {d : DTA} (hK : X.K = K) (ho : DE X E o to dob) (ha : DA X E (e :: es) t d)
    (h1 : attributeBase o "startswith" X.env (eval o X.env) = eval o X.env := by rfl)
    (h2 : ((((backTo cpos (starEach (e :: es) X.env)).all fun x => !x.fst) && (backToKw cpos (keywordEach [] X.env)).all fun x => x.fst.isSome) && decide (((e :: es).length + ([] : List Keyword).length + if ([] : List Keyword).isEmpty = true then 0 else 1) < 30)) = true := by rfl)
    (h3 : (apos.endLine == cpos.line) = true := by rfl) (h4 : starEach (e :: es) X.env = (false, eval e X.env) :: starEach es X.env := by rfl) (h5 : ((backTo cpos (starEach es X.env)).any fun x => x.fst) = false := by rfl) :
    DE X E (.Call (.Attribute o "startswith" apos) (e :: es) [] cpos) (tBM K "str" (fun x xs H Q => ∃ (a b : Str) (i : Int), x = .str a ∧ xs = [.str b, .int i] ∧ Q (.bl (Txt.startswith3 a b i)) H) to t) (dSw3 dob d) := by
  subst hK
  refine ⟨pe_bm PySem.F.plainAttrs_str PySem.F.slot_str_startswith PySem.F.type_str_startswith mt_startswith3 ho.pe ha.pe h1 h2 h3 h4 h5, ⟨fun {σ H δ μ Q Q' E'} hh x d q => ho.sn.go hh x d fun v y H1 μ1 t1 r1 d1 => ?_⟩⟩
  obtain ⟨d1, d2⟩ := d1
  obtain ⟨z, rfl⟩ := isS_inv r1 d1
  refine ⟨rfl, ha.sn.go (hh.go t1) (x.go t1) d2 fun vs xs H2 μ2 t2 r2 d2 => ?_⟩
  obtain ⟨l, rfl, d3⟩ := toS_inv d2
  obtain ⟨y1, y2, rfl, d4⟩ := two_inv d3
  obtain ⟨m, rfl, d5⟩ := toS_inv d4
  obtain ⟨i, rfl, d6⟩ := toI_inv (d := y2) d5
  obtain ⟨w1, w2, rfl, e1, e2⟩ := r2.inv2
  exact ⟨_, _, _, r1.str_inv, by rw [e1.str_inv, e2.int_inv], q _ _ _ _ (t1.trans t2) (.bl _) d6⟩
theorem o_gtS {X : Cx} : DOp X (compareOp .Gt) (fun x y H Q => ∃ i j, x = .str i ∧ y = .str j ∧ Q (.bl (decide (j.cps.toList < i.cps.toList))) H) (gS (fun _ _ => True) fun l m => .bl (decide (m < l))) :=
  ⟨op_gt_str, fun {x y dx dy H μ Q Q'} c r1 r2 d q => by
    obtain ⟨l, rfl, d⟩ := toS_inv d
    obtain ⟨m, rfl, _, d⟩ := toS_inv (d := dy) d
    exact ⟨_, _, r1.str_inv, r2.str_inv, q _ _ _ _ (.refl c) (.bl _) d⟩⟩
end Dl

set_option Elab.async false
set_option linter.all false
set_option maxRecDepth 100000
/-! tuple(a list or a tuple) -/
namespace Dl
open PySem PySem.Spec PyProof.Rows L2
def dTupOf (a : DTE) : DTE := fun E δ μ Q => a E δ μ fun x μ1 => match rd μ1 x with | .lst xs => Q (.tup xs) μ1 | _ => False
theorem de_tupOf {X : Cx} {E : XK} {a : Expr} {ta : TE} {da : DTE} {K : PySem.W.Frag} {p pos : Pos} (hg : Gl X "tuple") (hm : X.mg "tuple" = none) (h : DE X E a ta da) (hK : X.K = K := by rfl) (na : starEach [a] X.env = (false, eval a X.env) :: starEach [] X.env := by rfl) :
    DE X E (.Call (.Name "tuple" p) [a] [] pos) (tThen ta (kTup K)) (dTupOf da) := by
  subst hK
  refine ⟨pe_tupleOf hg hm h.pe na, ⟨fun {σ H δ μ Q Q' E'} hh x d q => h.sn.go hh x d fun v y H1 μ1 t1 r1 d1 => ?_⟩⟩
  have d1 : match rd μ1 y with | .lst xs => Q' (.tup xs) μ1 | _ => False := d1
  cases e : rd μ1 y with
  | lst xs =>
    simp only [e] at d1
    obtain ⟨a, vs, rfl, ha, ra⟩ := rd_lst t1.cells r1 e
    exact .inl ⟨a, vs, rfl, SqL.of ha, fun p hp => q _ _ _ _ (t1.trans (.new t1.cells hp)) (rep_tup t1.cells hp ra) d1⟩
  | _ => simp only [e] at d1
theorem dTupOf_p (a : DTE) : ∀ E δ μ Q, Dl.dTupOf a E δ μ Q = (a E δ μ fun x μ1 => match rd μ1 x with | .lst xs => Q (.tup xs) μ1 | _ => False) := fun _ _ _ _ => Eq.trans (Eq.symm (Eq.refl _)) (Eq.refl _)
end Dl

set_option Elab.async false
set_option linter.all false
set_option maxRecDepth 100000
/-! del x[i] of a cell's list -/
namespace Dl
open PySem PySem.Spec PyProof.Rows L2
theorem Reps.eraseIdx {K : PySem.W.Frag} {H : Hp} {μ : Mu} : ∀ {vs : List V} {xs : List D} (i : Nat), Reps K H μ vs xs → Reps K H μ (vs.eraseIdx i) (xs.eraseIdx i)
  | _, _, _, .nil => .nil
  | _, _, 0, .cons _ t => t
  | _, _, i + 1, .cons q t => .cons q (Reps.eraseIdx i t)
def sDelL (o i : DTE) : DTS := fun E D δ μ => o E δ μ fun x μ1 => i E δ μ1 fun y μ2 => cel μ2 x fun p xs => y.toI fun k => -(2 ^ 63) ≤ k ∧ k < 2 ^ 63 ∧ match seqIndex? k xs.length with | some j => D.nx δ (mup μ2 p (.lst (xs.eraseIdx j))) | none => False
theorem ds_delL {X : Cx} {E : XK} {o i : Expr} {to ti : TE} {dob di : DTE} {tpos pos : Pos} (ho : DE X E o to dob) (hi : DE X E i ti di) : DS X E (.Delete [.Subscript o i tpos] pos) (tDelL to ti) (sDelL dob di) :=
  ⟨ps_delL ho.pe hi.pe, ⟨fun {σ H δ μ D D' E'} hh xr d q => ho.sn.go hh xr d fun u y H1 μ1 t1 r1 d1 => hi.sn.go (hh.go t1) (xr.go t1) d1 fun w z H2 μ2 t2 r2 d2 => by
    obtain ⟨p, us, xs, rfl, rfl, hm, hp, rp, d3⟩ := cel_inv t2.cells (r1.grow t2.g) d2
    obtain ⟨k, rfl, d4⟩ := toI_inv d3
    obtain ⟨k1, k2, d4⟩ := d4
    cases e : seqIndex? k xs.length with
    | none => simp only [e] at d4
    | some j =>
      simp only [e] at d4
      have t3 := then_lst t2.cells hm hp (rp.eraseIdx j)
      exact ⟨p, us, k, j, rfl, r2.int_inv, hp, k1, k2, by rw [rp.length]; exact e, q.nx _ _ _ _ ((t1.trans t2).trans t3) (hh.slots.grow ((t1.trans t2).trans t3).g) d4⟩⟩⟩
theorem sDelL_p (o i : DTE) : ∀ E D δ μ, Dl.sDelL o i E D δ μ = (o E δ μ fun x μ1 => i E δ μ1 fun y μ2 => cel μ2 x fun p xs => y.toI fun k => -(2 ^ 63) ≤ k ∧ k < 2 ^ 63 ∧ match seqIndex? k xs.length with | some j => D.nx δ (mup μ2 p (.lst (xs.eraseIdx j))) | none => False) := fun _ _ _ _ => Eq.trans (Eq.symm (Eq.refl _)) (Eq.refl _)
theorem seqIx_nat {n k : Nat} (h : k < n) : seqIndex? (k : Int) n = some k := by
  unfold seqIndex?
  split <;> simp_all <;> omega
end Dl

set_option Elab.async false
set_option linter.all false
set_option maxRecDepth 100000
/-! list comprehensions with two fors -/
namespace Dl
open PySem PySem.Spec PyProof.Rows L2
def lcL2 (g : DTG) (tt : DTT) (w1 : DTI) (g1 : DTG) (tt1 : DTT) (te : DTE) (δ : Sl) (vs1 : List Nat) (L : Addr) (C : Mu → Prop) (k : List D → Mu → Prop) : List D → List D → Mu → Prop
  | [], acc, μ => C μ ∧ μ L = some (.lst acc) ∧ k acc μ
  | x :: xs, acc, μ => C μ ∧ g x δ μ fun δ2 μ2 => tt noX δ2 μ2 fun b μ3 => bif b then w1 noX δ2 μ3 fun ys C1 μ4 => lcL g1 tt1 te (wipeD δ2 vs1) L C1 (fun acc' μ5 => lcL2 g tt w1 g1 tt1 te δ vs1 L C k xs acc' μ5) ys acc μ4
    else lcL2 g tt w1 g1 tt1 te δ vs1 L C k xs acc μ3
def dLc2 (w : DTI) (g : DTG) (tt : DTT) (w1 : DTI) (g1 : DTG) (tt1 : DTT) (te : DTE) (ws vs1 : List Nat) : DTE := fun E δ μ Q => w E δ μ fun xs C μ1 => ∀ L, μ1 L = none → lcL2 g tt w1 g1 tt1 te (wipeD δ ws) vs1 L C (fun acc μ2 => Q (.lst acc) (era μ2 L)) xs [] (mup μ1 L (.lst []))
theorem se_lc2 {K : PySem.W.Frag} {E : XK} {wi wi1 : TI} {g g1 : TG} {tt tt1 : TT} {te : TE} {dw dw1 : DTI} {dg dg1 : DTG} {dt dt1 : DTT} {de : DTE} {ws vs1 : List Nat} (hi : SI K E wi dw) (hg : SGw K ws g dg) (ht : ST K E0 tt dt)
    (hi1 : SI K E0 wi1 dw1) (hg1 : SGw K vs1 g1 dg1) (ht1 : ST K E0 tt1 dt1) (he : SE K E0 te de)
    (fin : DK → Addr → List D → Mu → Prop)
    (hf : ∀ {H μ Q Q' L acc}, Cells K H μ → QR K H μ Q Q' → μ L = some (.lst acc) → fin Q' L acc μ → Q (.ref L) H) :
    SE K E (tLc2 wi g tt wi1 g1 tt1 te ws vs1) (fun E δ μ Q => dw E δ μ fun xs C μ1 => ∀ L, μ1 L = none → lcL2 dg dt dw1 dg1 dt1 de (wipeD δ ws) vs1 L C (fin Q L) xs [] (mup μ1 L (.lst []))) :=
  ⟨fun {σ H δ μ Q Q' E'} hh x d q => hi.go hh x d fun J xs C H1 μ1 t1 w1 d1 L hL => by
    have d2 := d1 L (mu_none t1.cells hL)
    have t2 : Then K H1 μ1 (upd H1 L (.lst [])) (mup μ1 L (.lst [])) := .cell t1.cells hL (con_lst hL .nil)
    refine ⟨fun i m H' => m = xs.length - i ∧ i ≤ xs.length ∧ ∃ acc μ', Then K H1 μ1 H' μ' ∧ lcL2 dg dt dw1 dg1 dt1 de (wipeD δ ws) vs1 L C (fin Q' L) (xs.drop i) acc μ', ⟨xs.length, by simp, Nat.zero_le _, [], _, t2, by simpa using d2⟩, ?_⟩
    rintro i m H3 ⟨rfl, hi, acc, μ3, t3, f3⟩
    have c3 : C μ3 := by
      cases hxs : xs.drop i with
      | nil => rw [hxs] at f3; exact f3.1
      | cons a r => rw [hxs] at f3; exact f3.1
    obtain ⟨go, stop⟩ := w1 i H3 μ3 t3 c3
    by_cases hlt : i < xs.length
    · obtain ⟨jgo, yl⟩ := go hlt
      refine .inr ⟨jgo, fun H' => ∃ acc μ', Then K H1 μ1 H' μ' ∧ lcL2 dg dt dw1 dg1 dt1 de (wipeD δ ws) vs1 L C (fin Q' L) (xs.drop (i + 1)) acc μ', fun H' ⟨a, b, c, e⟩ => ⟨xs.length - (i + 1), by omega, rfl, hlt, a, b, c, e⟩, fun v H4 y => ?_⟩
      obtain ⟨dv, ev, t4, rv⟩ := yl v H4 y
      rw [List.drop_eq_getElem_cons hlt] at f3
      have ed : dv = xs[i] := by rw [List.getElem?_eq_getElem hlt] at ev; exact (Option.some.inj ev).symm
      subst ed
      have s4 : Slots K H4 μ3 (wipe σ ws) (wipeD δ ws) := ((hh.slots.wipe ws).grow ((t1.trans t3).g)).grow t4.g
      refine hg.go ⟨t4.cells, s4⟩ rv f3.2 fun σ5 δ5 H5 μ5 t5 s5 e5 q5 => ⟨e5.trans wipe_wipe, ht.go ⟨t5.cells, s5⟩ xr_no q5 fun b H6 μ6 t6 q6 => ?_⟩
      have t16 := ((t3.trans t4).trans t5).trans t6
      cases b with
      | false =>
        rw [if_neg Bool.false_ne_true]
        exact ⟨acc, μ6, t16, q6⟩
      | true =>
        rw [if_pos rfl]
        refine hi1.go ⟨t6.cells, s5.grow t6.g⟩ xr_no q6 fun J1 ys C1 H7 μ7 t7 w7 d7 => ?_
        have t17 := t16.trans t7
        refine ⟨fun j k H' => k = ys.length - j ∧ j ≤ ys.length ∧ ∃ acc μ', Then K H7 μ7 H' μ' ∧ lcL dg1 dt1 de (wipeD δ5 vs1) L C1 (fun acc' μ5 => lcL2 dg dt dw1 dg1 dt1 de (wipeD δ ws) vs1 L C (fin Q' L) (xs.drop (i + 1)) acc' μ5) (ys.drop j) acc μ', ⟨ys.length, by simp, Nat.zero_le _, acc, μ7, .refl t7.cells, by simpa using d7⟩, ?_⟩
        rintro j k H8 ⟨rfl, hj, acc8, μ8, t8, f8⟩
        have c8 : C1 μ8 := by
          cases hys : ys.drop j with
          | nil => rw [hys] at f8; exact f8.1
          | cons a r => rw [hys] at f8; exact f8.1
        obtain ⟨go1, stop1⟩ := w7 j H8 μ8 t8 c8
        by_cases hlt1 : j < ys.length
        · obtain ⟨jgo1, yl1⟩ := go1 hlt1
          refine .inr ⟨jgo1, fun H' => ∃ acc μ', Then K H7 μ7 H' μ' ∧ lcL dg1 dt1 de (wipeD δ5 vs1) L C1 (fun acc' μ5 => lcL2 dg dt dw1 dg1 dt1 de (wipeD δ ws) vs1 L C (fin Q' L) (xs.drop (i + 1)) acc' μ5) (ys.drop (j + 1)) acc μ', fun H' ⟨a, b, c, e⟩ => ⟨ys.length - (j + 1), by omega, rfl, hlt1, a, b, c, e⟩, fun v1 H9 y1 => ?_⟩
          obtain ⟨dv1, ev1, t9, rv1⟩ := yl1 v1 H9 y1
          rw [List.drop_eq_getElem_cons hlt1] at f8
          have ed1 : dv1 = ys[j] := by rw [List.getElem?_eq_getElem hlt1] at ev1; exact (Option.some.inj ev1).symm
          subst ed1
          have s9 : Slots K H9 μ8 (wipe σ5 vs1) (wipeD δ5 vs1) := ((((s5.grow t6.g).grow t7.g).wipe vs1).grow t8.g).grow t9.g
          refine hg1.go ⟨t9.cells, s9⟩ rv1 f8.2 fun σa δa Ha μa ta sa ea qa => ⟨ea.trans wipe_wipe, ht1.go ⟨ta.cells, sa⟩ xr_no qa fun b Hb μb tb qb => ?_⟩
          have t19 := ((t8.trans t9).trans ta).trans tb
          cases b with
          | false =>
            rw [if_neg Bool.false_ne_true]
            exact ⟨acc8, μb, t19, qb⟩
          | true =>
            rw [if_pos rfl]
            refine he.go ⟨tb.cells, sa.grow tb.g⟩ xr_no qb fun w z Hc μc tc rc qc => ?_
            obtain ⟨mc, lc, fc⟩ := qc
            have cc := (tc.cells L _ mc).1
            cases cc with | @lst _ us _ hc rr =>
            exact ⟨us, hc, by rw [rr.length, sizeLine_eq]; exact lc, acc8 ++ [z], _, (t19.trans tc).trans (then_lst tc.cells mc hc (rr.append (.one rc))), fc⟩
        · have e : j = ys.length := by omega
          subst e
          rw [List.drop_length] at f8
          exact .inl ⟨stop1 rfl, acc8, μ8, t17.trans t8, f8.2.2⟩
    · have e : i = xs.length := by omega
      subst e
      rw [List.drop_length] at f3
      exact .inl ⟨stop rfl, hf t3.cells ((q.go t1).go t3) f3.2.1 f3.2.2⟩⟩
section
variable {X : Cx} {E : XK} {elt tg iter tg1 iter1 : Expr} {ifs ifs1 : List Expr} {scope : Scope} {own : List (Str × Nat)} {vs1 : List Nat} {pos : Pos} {wi wi1 : TI} {g g1 : TG} {tt tt1 : TT} {te : TE} {dw dw1 : DTI} {dg dg1 : DTG} {dt dt1 : DTT} {de : DTE}
theorem de_lc2 (hc : X.calm = true) (hN : X.N.Nodup) (hi : DI X E tg iter wi dw) (ok : BlkOk X.N X.env.scope scope own) (hv : ∀ i ∈ vs1, i ∈ own.map (·.2))
    (hg : ∀ s H C cl fp, DGw (bk X scope s H C cl fp) (own.map (·.2)) tg g dg) (ht : ∀ s H C cl fp, DTs (bk X scope s H C cl fp) E0 ifs tt dt)
    (hi1 : ∀ s H C cl fp, DI (bk X scope s H C cl fp) E0 tg1 iter1 wi1 dw1) (hg1 : ∀ s H C cl fp, DGw (bk X scope s H C cl fp) vs1 tg1 g1 dg1) (ht1 : ∀ s H C cl fp, DTs (bk X scope s H C cl fp) E0 ifs1 tt1 dt1)
    (he : ∀ s H C cl fp, DE (bk X scope s H C cl fp) E0 elt te de)
    (hs : ∀ x, foldedSetIterable iter X.env x = pure x := by intro _; rfl) (hs1 : ∀ env x, foldedSetIterable iter1 env x = pure x := by intro _ _; rfl) :
    DE X E (.ListComp elt [⟨tg, iter, ifs, 0⟩, ⟨tg1, iter1, ifs1, 0⟩] scope pos) (tLc2 wi g tt wi1 g1 tt1 te (own.map (·.2)) vs1) (dLc2 dw dg dt dw1 dg1 dt1 de (own.map (·.2)) vs1) :=
  ⟨pe_lc2 hc hN hi.pe ok hv (fun s H C cl fp => (hg s H C cl fp).pe) (fun s H C cl fp => (ht s H C cl fp).pe) (fun s H C cl fp => (hi1 s H C cl fp).pe) (fun s H C cl fp => (hg1 s H C cl fp).pe) (fun s H C cl fp => (ht1 s H C cl fp).pe) (fun s H C cl fp => (he s H C cl fp).pe) hs hs1,
    se_lc2 hi.sn (hg X.s_0 X.H_0 0 [] []).sn (ht X.s_0 X.H_0 0 [] []).sn (hi1 X.s_0 X.H_0 0 [] []).sn (hg1 X.s_0 X.H_0 0 [] []).sn (ht1 X.s_0 X.H_0 0 [] []).sn (he X.s_0 X.H_0 0 [] []).sn (fun Q' L acc μ => Q' (.lst acc) (era μ L)) fin_v⟩
theorem ds_setLc2 {i : Nat} {y : Str} {py spos : Pos} (hc : X.calm = true) (hN : X.N.Nodup) (hy : X.N[i]? = some y) (hyl : X.env.scope.names.lookup y = some .local)
    (hsw : swapsWith (.ListComp elt [⟨tg, iter, ifs, 0⟩, ⟨tg1, iter1, ifs1, 0⟩] scope pos) (some (.Name y py)) spos.line X.env = pure true) (hi : DI X E tg iter wi dw) (ok : BlkOk X.N X.env.scope scope own) (hv : ∀ i ∈ vs1, i ∈ own.map (·.2))
    (hg : ∀ s H C cl fp, DGw (bk X scope s H C cl fp) (own.map (·.2)) tg g dg) (ht : ∀ s H C cl fp, DTs (bk X scope s H C cl fp) E0 ifs tt dt)
    (hi1 : ∀ s H C cl fp, DI (bk X scope s H C cl fp) E0 tg1 iter1 wi1 dw1) (hg1 : ∀ s H C cl fp, DGw (bk X scope s H C cl fp) vs1 tg1 g1 dg1) (ht1 : ∀ s H C cl fp, DTs (bk X scope s H C cl fp) E0 ifs1 tt1 dt1)
    (he : ∀ s H C cl fp, DE (bk X scope s H C cl fp) E0 elt te de)
    (hs : ∀ x, foldedSetIterable iter X.env x = pure x := by intro _; rfl) (hs1 : ∀ env x, foldedSetIterable iter1 env x = pure x := by intro _ _; rfl) :
    DS X E (.Assign [.Name y py] (.ListComp elt [⟨tg, iter, ifs, 0⟩, ⟨tg1, iter1, ifs1, 0⟩] scope pos) spos) (tAsg (tLc2 wi g tt wi1 g1 tt1 te (own.map (·.2)) vs1) (L2.gName i)) (sAsg (dLc2 dw dg dt dw1 dg1 dt1 de (own.map (·.2)) vs1) (gName i)) :=
  ⟨ps_setLc2 hc hN hy hyl hsw hi.pe ok hv (fun s H C cl fp => (hg s H C cl fp).pe) (fun s H C cl fp => (ht s H C cl fp).pe) (fun s H C cl fp => (hi1 s H C cl fp).pe) (fun s H C cl fp => (hg1 s H C cl fp).pe) (fun s H C cl fp => (ht1 s H C cl fp).pe) (fun s H C cl fp => (he s H C cl fp).pe) hs hs1,
    ss_asg (se_lc2 hi.sn (hg X.s_0 X.H_0 0 [] []).sn (ht X.s_0 X.H_0 0 [] []).sn (hi1 X.s_0 X.H_0 0 [] []).sn (hg1 X.s_0 X.H_0 0 [] []).sn (ht1 X.s_0 X.H_0 0 [] []).sn (he X.s_0 X.H_0 0 [] []).sn (fun Q' L acc μ => Q' (.lst acc) (era μ L)) fin_v) sg_name⟩
end
theorem dLc2_p (w : DTI) (g : DTG) (tt : DTT) (w1 : DTI) (g1 : DTG) (tt1 : DTT) (te : DTE) (ws vs1 : List Nat) : ∀ E δ μ Q, Dl.dLc2 w g tt w1 g1 tt1 te ws vs1 E δ μ Q = (w E δ μ fun xs C μ1 => ∀ L, μ1 L = none → lcL2 g tt w1 g1 tt1 te (wipeD δ ws) vs1 L C (fun acc μ2 => Q (.lst acc) (era μ2 L)) xs [] (mup μ1 L (.lst []))) := fun _ _ _ _ => Eq.trans (Eq.symm (Eq.refl _)) (Eq.refl _)
end Dl

set_option Elab.async false
set_option linter.all false
set_option maxRecDepth 100000
set_option maxHeartbeats 4000000
/-! sorted(set(a text)): its signs, each once, risen. -/
namespace PySem
namespace St
open PyProof.Rows L2
def kc (e : Int × Value) : Nat := match e.2 with | .str x _ => x.cps.toList.headD 0 | _ => 0
def GoodC (w : World) (e : Int × Value) : Prop := ∃ c tk, e.2 = Value.str (one c) tk ∧ e.1 = hashStr w (one c)
/-- the set of signs at a -/
def SetC (w : World) (h : Heap) (a : Addr) (σ : List Nat) : Prop :=
  ∃ o es ep t, h.get? a = some o ∧ o.ExactSet ∧ o.data = .set es ep t ∧ (∀ e ∈ es.toList, GoodC w e) ∧ (es.toList.map kc).Perm σ ∧
    es.size < scanBound ∧ t.fits es.size = true ∧ Ris t.place.toList ∧ (w.params.followText "set-order" = true ∨ t.led = true)
theorem once_nd (l : List Nat) : (once l).Nodup := by
  have h : ∀ (l σ : List Nat), σ.Nodup → (l.foldl add1 σ).Nodup := by
    intro l
    induction l with
    | nil => exact fun σ h => h
    | cons c r ih =>
      intro σ h
      refine ih _ ?_
      unfold add1
      split
      · exact h
      · rename_i q
        exact List.nodup_append.mpr ⟨h, List.nodup_cons.mpr ⟨List.not_mem_nil, List.nodup_nil⟩, fun a ha b hb z => q (by rw [List.mem_singleton.mp hb] at z; rw [← z]; exact ha)⟩
  exact h l [] List.nodup_nil
theorem mem_once (l : List Nat) (d : Nat) : d ∈ once l ↔ d ∈ l := by
  have h : ∀ (l σ : List Nat), d ∈ l.foldl add1 σ ↔ d ∈ σ ∨ d ∈ l := by
    intro l
    induction l with
    | nil => intro σ; simp
    | cons c r ih =>
      intro σ
      rw [List.foldl_cons, ih, mem_add1, List.mem_cons, or_assoc]
  rw [show once l = l.foldl add1 [] from rfl, h]
  simp
section
variable {P : Program} {w : World} {h h' : Heap} {a : Addr} {σ : List Nat}
theorem SetC.at (R : SetC w h a σ) (k : ∀ o, h.get? a = some o → h'.get? a = some o) : SetC w h' a σ := by
  obtain ⟨o, es, ep, t, ho, r⟩ := R
  exact ⟨o, es, ep, t, k o ho, r⟩
theorem goodc_elems {l : List (Int × Value)} (g : ∀ e ∈ l, GoodC w e) : ElemsOf (strKind P w) l := fun e he => by
  obtain ⟨c, tk, h1, h2⟩ := g e he
  exact ⟨⟨one c, by rw [h1]; exact key_one c tk, h2⟩, by rw [h1] <;> rfl⟩
theorem goodc_kc {e : Int × Value} {c : Nat} {tk : Tok} (h : e.2 = Value.str (one c) tk) : kc e = c := by
  unfold kc
  rw [h]
  rfl
theorem goodc_is {e : Int × Value} (g : GoodC w e) (c : Nat) : (strKind P w).is (one c) e.2 = true ↔ kc e = c := by
  obtain ⟨d, tk, h1, _⟩ := g
  rw [goodc_kc h1, h1]
  constructor
  · intro q
    obtain ⟨u, q⟩ := Value.isStrOf_shape (show Value.isStrOf (one c) (Value.str (one d) tk) = true from q)
    injection q with q _
    exact one_inj q
  · rintro rfl
    exact key_one _ _
theorem goodc_mem {l : List (Int × Value)} (g : ∀ e ∈ l, GoodC w e) (c : Nat) : c ∈ l.map kc ↔ ∃ e ∈ l, (strKind P w).is (one c) e.2 = true := by
  rw [List.mem_map]
  constructor
  · rintro ⟨e, he, q⟩
    exact ⟨e, he, (goodc_is (g e he) c).2 q⟩
  · rintro ⟨e, he, q⟩
    exact ⟨e, he, (goodc_is (g e he) c).1 q⟩
end
section
variable {P : Program} {w : World} {A : Around} {E : Value → Shared → Prop} {s : Shared} {a : Addr} {σ : List Nat}
theorem setC_add_tail {g : Bool → Sem Unit} (hg : ∀ (b : Bool) (s₁ : Shared) (Q' : Unit → Shared → Prop), Q' () s₁ → wpAny (model P w) A (g b) Q' E s₁)
    {o : Obj} {es : Array (Int × Value)} {ep : Nat} {t : SetTable} (ho : s.heap.get? a = some o) (hex : o.ExactSet) (hd : o.data = .set es ep t)
    {es1 : Array (Int × Value)} {t2 : SetTable} (g1 : ∀ e ∈ es1.toList, GoodC w e) (m1 : (es1.toList.map kc).Perm σ)
    (hb1 : es1.size < scanBound) (hf2 : t2.fits es1.size = true) (hr : Ris t2.place.toList) (hl : w.params.followText "set-order" = true ∨ t2.led = true) {wasDummy : Bool} {R : Option Bool → Shared → Prop}
    (hR : ∀ h', Heap.SameBut a s.heap h' → SetC w h' a σ → R (some true) { s with heap := h' }) :
    wpAny (model P w) A (do
        storeSet a es1 t2
        if (!wasDummy && t2.tooFull) = true then do
            g (relayAll t2 es1 (SetTable.grown es1.size)).2.2
            storeSet a (relayAll t2 es1 (SetTable.grown es1.size)).1 (relayAll t2 es1 (SetTable.grown es1.size)).2.1
            pure (some true)
          else pure (some true)) R E s := by
  refine wpAny_bind (wpAny_storeSet_of ho hd ?_ (fits_of_scanBound hb1))
  have ho1 := store_at (es' := es1) (t' := t2) ho hd
  have sb1 := Heap.SameBut.update s.heap a (Obj.putSet es1 t2)
  split
  · have pm := relayAll_perm t2 es1 (SetTable.grown es1.size)
    have hf3 := relayAll_fits t2 es1 (SetTable.grown es1.size)
    have hr3 := relayAll_ris t2 es1 (SetTable.grown es1.size)
    have hl3 := relayAll_led t2 es1 (SetTable.grown es1.size)
    generalize relayAll t2 es1 (SetTable.grown es1.size) = Z at pm hf3 hr3 hl3 ⊢
    obtain ⟨es2, t3, gave⟩ := Z
    dsimp only at pm hf3 hr3 hl3 ⊢
    have hsz : es2.size = es1.size := by rw [← Array.length_toList, pm.length_eq, Array.length_toList]
    have hb2 : es2.size < scanBound := by rw [hsz]; exact hb1
    refine wpAny_bind (hg _ _ _ ?_)
    refine wpAny_bind (wpAny_storeSet_of ho1 rfl ?_ (fits_of_scanBound hb2))
    have ho2 := store_at (es' := es2) (t' := t3) ho1 rfl
    refine wpAny_pure (hR _ (sb1.trans (Heap.SameBut.update _ a _)) ?_)
    exact ⟨_, es2, _, t3, ho2, hex, rfl, fun e he => g1 e (pm.mem_iff.mp he), (pm.map kc).trans m1, hb2, hf3, hr3,
      hl.imp id fun z => by rw [hl3]; exact z⟩
  · exact wpAny_pure (hR _ sb1 ⟨_, es1, _, t2, ho1, hex, rfl, g1, m1, hb1, hf2, hr, hl⟩)

theorem setC_add_hashed {c : Nat} {tk : Tok} {Q : Bool → Shared → Prop} (R : SetC w s.heap a σ) (room : σ.length + 1 < scanBound)
    (hQ : ∀ h' b, Heap.SameBut a s.heap h' → SetC w h' a (add1 σ c) → Q b { s with heap := h' }) :
    wpAny (model P w) A (setAddHashed a (.str (one c) tk) ((strKind P w).hash (one c))) Q E s := by
  obtain ⟨o, es, ep, t, ho, hex, hd, g, hm, hb, hf, hr, hl⟩ := R
  have hkey : (strKind P w).is (one c) (.str (one c) tk) = true := key_one c tk
  have hsc : (Value.str (one c) tk).scannable = true := rfl
  have hel : ElemsOf (strKind P w) es.toList := goodc_elems g
  unfold setAddHashed setAddHashedIn
  refine wpAny_holding (wpAny_bind (wpAny_setState_of ho hd hf ?_))
  dsimp only
  rw [byScan_of hsc hb hel]
  simp only [↓reduceIte]
  unfold setAddByScan
  refine wpAny_bind ?_
  refine wpAny_bind (wpAny_rule ?_)
  refine wpAny_bind (wpAny_setScan_of hkey ho hd hf hel ?_)
  cases hfi : List.findIdx? (fun e => (strKind P w).is (one c) e.2) es.toList with
  | some j =>
    dsimp only
    obtain ⟨hj, pj, _⟩ := List.findIdx?_eq_some_iff_getElem.mp hfi
    have hc : c ∈ σ := hm.mem_iff.mp ((goodc_mem (P := P) (w := w) g c).2 ⟨es.toList[j], List.getElem_mem hj, pj⟩)
    refine wpAny_pure (wpAny_pure ?_)
    refine hQ s.heap _ (Heap.SameBut.refl a s.heap) ?_
    rw [show add1 σ c = σ from if_pos hc]
    exact ⟨o, es, ep, t, ho, hex, hd, g, hm, hb, hf, hr, hl⟩
  | none =>
    dsimp only
    have hnk : c ∉ σ := fun z => by
      obtain ⟨e, he, q⟩ := (goodc_mem (P := P) (w := w) g c).1 (hm.mem_iff.mpr z)
      have c := List.findIdx?_eq_none_iff.mp hfi e he
      rw [q] at c
      cases c
    have ea : add1 σ c = σ ++ [c] := if_neg hnk
    rw [ea] at hQ
    have hgw : ∀ (b : Bool) {s₁ : Shared} {Q' : Unit → Shared → Prop}, Q' () s₁ → wpAny (model P w) A (match b with | true => rule "set.scan.the-table-gave-way" | false => pure ()) Q' E s₁ :=
      fun b s₁ Q' q => by cases b <;> first | exact wpAny_pure q | exact wpAny_rule q
    have pm := layNew_perm t es ((strKind P w).hash (one c)) (.str (one c) tk)
    have hf1 := layNew_fits t es ((strKind P w).hash (one c)) (.str (one c) tk)
    have hr1 := layNew_ris t es ((strKind P w).hash (one c)) (.str (one c) tk) hr
    have hl1 := layNew_led t es ((strKind P w).hash (one c)) (.str (one c) tk)
    generalize layNew t es ((strKind P w).hash (one c)) (.str (one c) tk) = Z at pm hf1 hr1 hl1 ⊢
    obtain ⟨es1, t1, wasDummy, gave⟩ := Z
    dsimp only at pm hf1 hr1 hl1 ⊢
    rw [Array.toList_push] at pm
    have pc : es1.toList.Perm (((strKind P w).hash (one c), Value.str (one c) tk) :: es.toList) := pm.trans (List.perm_append_singleton _ _)
    have pk : (es1.toList.map kc).Perm (c :: es.toList.map kc) := pc.map kc
    have g1 : ∀ e ∈ es1.toList, GoodC w e := fun e he => by
      rcases List.mem_cons.mp (pc.mem_iff.mp he) with z | z
      · rw [z]; exact ⟨c, tk, rfl, rfl⟩
      · exact g e z
    have m1 : (es1.toList.map kc).Perm (σ ++ [c]) := (pk.trans (hm.cons c)).trans (List.perm_append_singleton _ _).symm
    have hsz : es1.size = σ.length + 1 := by
      have q := m1.length_eq
      rw [List.length_map, Array.length_toList, List.length_append, List.length_singleton] at q
      exact q
    have hb1 : es1.size < scanBound := by rw [hsz]; exact room
    have hled : w.params.followText "set-order" = true ∨ t1.led = true := hl.imp id fun z => by rw [hl1]; exact z
    have fin : ∀ h', Heap.SameBut a s.heap h' → SetC w h' a (σ ++ [c]) → Q true { s with heap := h' } := fun h' sb r => hQ h' true sb r
    refine wpAny_bind (hgw _ ?_)
    split
    · refine wpAny_bind ?_
      rw [hashByValue_scannable 8 hsc]
      refine wpAny_pure ?_
      refine setC_add_tail ?_ ho hex hd g1 m1 hb1 ?_ ?_ ?_ ?_
      · intro b s₁ Q' q; cases b <;> first | exact wpAny_pure q | exact wpAny_rule q
      · first | (split <;> first | exact hf1 | exact SetTable.fits_plain_off hf1) | exact hf1
      · first | (split <;> exact hr1) | exact hr1
      · first | (split <;> exact hled) | exact hled
      · intro h' sb r; dsimp only; exact wpAny_pure (fin h' sb r)
    · refine wpAny_bind (wpAny_pure ?_)
      simp only [↓reduceIte]
      refine setC_add_tail ?_ ho hex hd g1 m1 hb1 hf1 hr1 hled ?_
      · intro b s₁ Q' q; cases b <;> first | exact wpAny_pure q | exact wpAny_rule q
      · intro h' sb r; dsimp only; exact wpAny_pure (fin h' sb r)
end
section
variable {prog : Program} {w : World} {A : Around} {E : Value → Shared → Prop} {s : Shared}
theorem code_set_new_led (a : Value) {Q₁ : Value → Shared → Prop}
    (h : Q₁ (.ref s.heap.objs.size) { s with heap := s.heap.push { cls := .type "set", dict := none, data := .set #[] 0 (.fresh 0 0 (!w.params.followText "set-order")) } }) :
    codeAny (model prog w) A (.call (.builtin "set.__new__") ⟨[.type "set", a], []⟩) (wants Q₁ E) s := by
  refine codeAny_of_tree ?_
  show wpAny _ A.in1 (do checkBuiltinCall "set.__new__" ⟨[.type "set", a], []⟩; again (.builtin "set.__new__" ⟨[.type "set", a], []⟩)) _ _ s
  refine wpAny_bind (wpAny_of_eq (F.newCall_set_1 a) (wpAny_pure ⟨plainId_quiet F.plain_set_new _, codeAny_builtin F.entry_set_new ?_⟩))
  rw [Around.under_plainId F.plain_set_new _]
  unfold Builtin.«set.__new__» Builtin.Frozenset.newClass
  have hsub := sub_set_self
  obtain ⟨hp, g, d, tk, os⟩ := s
  dsimp only
  wp_walk
  refine wpAny_askSetting (wpAny_pure ?_)
  dsimp only
  simp only [newObj]
  refine wpAny_bind (wpAny_alloc (wpAny_pure ?_))
  exact wpAny_pure h
theorem setC_fresh {h : Heap} (w : World) : SetC w (h.push { cls := .type "set", dict := none, data := .set #[] 0 (.fresh 0 0 (!w.params.followText "set-order")) }) h.objs.size [] :=
  ⟨_, #[], 0, _, Heap.get?_push_size _ rfl, ⟨rfl, rfl, rfl⟩, rfl, (fun e he => by simp at he), (by simp), (by decide), (by rfl), List.Pairwise.nil, by
    show _ ∨ (!w.params.followText "set-order") = true
    cases w.params.followText "set-order"
    · exact .inr rfl
    · exact .inl rfl⟩
end
section
variable {prog : Program} {w : World} {A : Around} {R : Result → Shared → Prop}
/-- the signs of a text from place i on go into the set at S -/
theorem fill_loopC {I S : Addr} {x : Str} {T : Nat → Heap → Prop} (W : Walks prog w A.in1 I [I] [I] x.cps.size (SignAt x) T) (hSI : S ≠ I) (hb : x.cps.size + 1 < scanBound) :
    ∀ (m i : Nat) (s : Shared), x.cps.size - i = m → i ≤ x.cps.size → T i s.heap → SetC w s.heap S (once (x.cps.toList.take i)) →
      (∀ h' tk, (∀ b o, b ≠ S → b ≠ I → s.heap.get? b = some o → h'.get? b = some o) → SetC w h' S (once x.cps.toList) → R (.ok (.ret .none)) { s with heap := h', toks := tk }) →
      codeAny (model prog w) A (.builtin "set.update.loop" ⟨[.ref S, .ref I], []⟩) R s
  | 0, i, s, hm, hi, hT, hS, hR => by
    have e : i = x.cps.size := by omega
    subst e
    have el : x.cps.toList.take x.cps.size = x.cps.toList := List.take_of_length_le (by simp)
    rw [el] at hS
    refine codeAny_builtin F.entry_set_update_loop ?_
    rw [Around.under_plainId F.plain_set_update_loop _]
    show wpAny _ A.in1 (pyNext (.ref I) >>= _) _ _ s
    refine wpAny_bind (W.done s _ _ hT fun h' tk kp => ?_)
    show wpAny _ A.in1 (ret Value.none) _ _ _
    refine wpAny_pure (hR h' tk (fun b o _ n e => kp b o (fun q => n (List.mem_singleton.mp q)) e) ?_)
    obtain ⟨o, es, ep, t, ho, rest⟩ := hS
    exact ⟨o, es, ep, t, kp S _ (fun q => hSI (List.mem_singleton.mp q)) ho, rest⟩
  | m + 1, i, s, hm, hi, hT, hS, hR => by
    have hlt : i < x.cps.size := by omega
    refine codeAny_builtin F.entry_set_update_loop ?_
    rw [Around.under_plainId F.plain_set_update_loop _]
    show wpAny _ A.in1 (pyNext (.ref I) >>= _) _ _ s
    refine wpAny_bind (W.item i s _ _ hlt hT fun v h' tk hv hT' kp => ?_)
    obtain ⟨c, u, hc, rfl⟩ := hv
    have hS2 : SetC w h' S (once (x.cps.toList.take i)) := by
      obtain ⟨o, es, ep, t, ho, rest⟩ := hS
      exact ⟨o, es, ep, t, kp S _ (fun q => hSI (List.mem_singleton.mp q)) ho, rest⟩
    have hc' : x.cps.toList[i]? = some c := by simpa using hc
    have et : x.cps.toList.take (i + 1) = x.cps.toList.take i ++ [c] := by rw [List.take_add_one, hc']; rfl
    have hroom : (once (x.cps.toList.take i)).length + 1 < scanBound := by
      have q := (once_len (x.cps.toList.take i)).1
      rw [List.length_take] at q
      omega
    show wpAny _ A.in1 (holding [Value.str (one c) u] (setAdd S (.str (one c) u)) >>= _) _ _ _
    refine wpAny_bind (wpAny_holding ?_)
    unfold setAdd
    refine wpAny_holding (wpAny_bind ((strKind prog w).pyHash (k := one c) (key_one c u) ?_))
    refine setC_add_hashed (s := { s with heap := h', toks := tk + 1 }) hS2 hroom fun h2 b2 sb hS3 => ?_
    have hS4 : SetC w h2 S (once (x.cps.toList.take (i + 1))) := by
      rw [et, once_next]
      exact hS3
    refine wpAny_pure ⟨plainId_quiet F.plain_set_update_loop _, fill_loopC W hSI hb m (i + 1) _ (by omega) hlt (W.frame _ _ _ hT' fun b hbI o e => ?_) hS4 fun h3 tk3 kp3 hS5 => ?_⟩
    · rw [sb.2 b (fun q => hSI (by rw [← q]; exact List.mem_singleton.mp hbI))]
      exact e
    · refine hR h3 tk3 (fun b o n1 n2 e => kp3 b o n1 n2 ?_) hS5
      rw [sb.2 b n1]
      exact kp b o (fun q => n2 (List.mem_singleton.mp q)) e
end
section
variable {prog : Program} {w : World} {A : Around} {E : Value → Shared → Prop} {s : Shared}
theorem call_set_textC {x : Str} {t : Tok} {Q : Value → Shared → Prop} (hh : A.handled = none) (hb : x.cps.size + 1 < scanBound)
    (hQ : ∀ (h' : Heap) (tk : Nat), SetC w h' s.heap.objs.size (once x.cps.toList) → (∀ b o, s.heap.get? b = some o → h'.get? b = some o) → Q (.ref s.heap.objs.size) { s with heap := h', toks := tk }) :
    wpAny (model prog w) A (call (.type "set") [.str x t]) Q E s := by
  obtain ⟨c, tl, hmro⟩ := F.called_set.mro
  have hmade := F.called_set.made
  have hsub := F.called_set.sub
  refine wpAny_call (codeAny_of_tree ?_)
  show wpAny _ _ (callAny (.type "set") _) _ _ _
  refine wpAny_pure ⟨Code.quiet_builtin _ (by decide +kernel), codeAny_builtin F.entry_type_call ?_⟩
  rw [Around.under_plain (weight_type_call_type "set" [.str x t] []) rfl]
  have k1 := F.called_set.notType
  have k2 := F.called_set.canCreate
  have k3 := F.typeCall_set_1 (.str x t)
  repeat (any_goals (first | assumption | wp_step))
  refine codeAny_mono (code_set_new_led (.str x t) (E := E) (Q₁ := fun obj s₁ => obj = .ref s.heap.objs.size ∧ s₁ = { s with heap := s.heap.push { cls := .type "set", dict := none, data := .set #[] 0 (.fresh 0 0 (!w.params.followText "set-order")) } }) ⟨rfl, rfl⟩) fun r s₁ hr => ?_
  cases r with
  | error e => exact hr
  | ok fl =>
    cases fl with
    | ret obj =>
      obtain ⟨rfl, rfl⟩ := hr
      generalize hnew : ({ cls := .type "set", dict := none, data := .set #[] 0 (.fresh 0 0 (!w.params.followText "set-order")) } : Obj) = nu
      have hfree : nu.isFreed = false := by rw [← hnew]; rfl
      have hS : (s.heap.push nu).get? s.heap.objs.size = some nu := Heap.get?_push_size _ hfree
      have hT : Shared.TypeIs { s with heap := s.heap.push nu } (.ref s.heap.objs.size) "set" := ⟨_, hS, by rw [← hnew]⟩
      have k4 := F.called_set.init.lookup
      have k5 := F.called_set.init.bind (.ref s.heap.objs.size)
      repeat (any_goals (first | assumption | wp_step))
      refine codeAny_mono (codeAny_call_builtin (R := wants (fun r s₂ => r = .none ∧ ∃ h' tk, s₂ = { s with heap := h', toks := tk } ∧ SetC w h' s.heap.objs.size (once x.cps.toList) ∧
          (∀ b o, s.heap.get? b = some o → h'.get? b = some o)) E) F.called_set.init.plain F.entry_set_init (check_set_init_1 hT ?_)) fun r₂ s₂ hr₂ => ?_
      · have k6 := F2.sub_str_set
        have k7 := F2.sub_str_frozenset
        have k8 : (Value.type "str" == Value.type "dict") = false := by decide
        subst hnew
        unfold Builtin.«set.__init__» noKeywords Builtin.Frozenset.updateFrom
        generalize hIt : pyIter = It
        wp_walk
        subst hIt
        refine wpAny_pyIter_str fun o T W h0 => ?_
        refine wpAny_bind (wpAny_runValue ?_)
        have ne : s.heap.objs.size ≠ (s.heap.push { cls := .type "set", dict := none, data := .set #[] 0 (.fresh 0 0 (!w.params.followText "set-order")) }).objs.size := by
          rw [Heap.size_push]
          exact Nat.ne_of_lt (Nat.lt_succ_self _)
        refine fill_loopC (W _ (by simp [hh])) ne hb (x.cps.size - 0) 0 _ (by omega) (Nat.zero_le _) h0 ?hS0 ?hR
        case hS0 =>
          have g0 : ((s.heap.push { cls := .type "set", dict := none, data := .set #[] 0 (.fresh 0 0 (!w.params.followText "set-order")) }).push o).get? s.heap.objs.size = some { cls := .type "set", dict := none, data := .set #[] 0 (.fresh 0 0 (!w.params.followText "set-order")) } := Heap.get?_push_of_some _ hS
          exact (setC_fresh w).at fun o' e' => Heap.get?_push_of_some _ e'
        case hR =>
          intro h' tk' kp hS'
          show wpAny _ _ _ _ _ _
          refine wpAny_pure ?_
          show wpAny _ _ (ret Value.none) _ _ _
          refine wpAny_pure ⟨rfl, h', tk', rfl, hS', fun b o e => ?_⟩
          have lb := Heap.lt_size e
          refine kp b _ (Nat.ne_of_lt lb) ?_ (Heap.get?_push_of_some _ (Heap.get?_push_of_some _ e))
          rw [Heap.size_push]
          exact Nat.ne_of_lt (Nat.lt_succ_of_lt lb)
      · cases r₂ with
        | error e => exact hr₂
        | ok fl₂ =>
          cases fl₂ with
          | ret r =>
            obtain ⟨rfl, h', tk, rfl, hS', hk'⟩ := hr₂
            repeat (any_goals (first | assumption | wp_step))
            exact hQ _ _ hS' hk'
          | _ => exact hr₂.elim
    | _ => exact hr.elim
end
end St
end PySem
namespace Ms
open PySem PySem.Spec PyProof.Rows L2 LamX PySem.W PySem.St
theorem strs_by : ∀ (vs : List Value), (∀ v ∈ vs, ∃ c tk, v = Value.str (St.one c) tk) → ∃ cs : List Nat, StrsAre vs (cs.map St.one) ∧ vs.map (fun v => kc (0, v)) = cs
  | [], _ => ⟨[], .nil, rfl⟩
  | v :: r, h => by
    obtain ⟨c, tk, e⟩ := h v List.mem_cons_self
    obtain ⟨cs, h1, h2⟩ := strs_by r fun u hu => h u (List.mem_cons_of_mem _ hu)
    subst e
    exact ⟨c :: cs, .cons _ tk h1, by rw [List.map_cons, h2]; rfl⟩
theorem sorted_setC {P : Program} {w : World} {A : Around} {E : Value → Shared → Prop} {s : Shared} {a : Addr} {σ : List Nat} {Q : Value → Shared → Prop} (R : SetC w s.heap a σ) (hh : A.handled = none) (hL : σ.length ≤ sizeLine)
    (hQ : ∀ s' p (out : Array Value) (c : Nat) (ss : List Str), (∀ b o, s.heap.get? b = some o → s'.heap.get? b = some o) → s'.gens = s.gens → s'.os = s.os → s.heap.objs.size ≤ p →
      s'.heap.get? p = some (seqObj "list" out c) → StrsAre out.toList ss → ss.Perm (σ.map St.one) → sortedS ss = true → Q (.ref p) s') :
    wpAny (model P w) A (call (.builtin "sorted") [.ref a]) Q E s := by
  obtain ⟨o, es, ep, t, ho, hex, hd, g, hm, hb, hf, hr, hl⟩ := R
  refine Calls.call_function_entry kind_sorted plain_sorted entry_sorted (args_sorted1 _) ?_
  unfold Builtin.«sorted»
  refine wpAny_bind (m := checkCount "sorted" 1 1 _) (wpAny_pure ?_)
  refine wpAny_bind (collect_set (A := A.in1) hh ⟨o, ho, hex.1, hd⟩ hf hb hr hl fun s1 vs k1 hz g1 o1 pm => ?_)
  have hn : es.size = σ.length := by
    have q := hm.length_eq
    rw [List.length_map, Array.length_toList] at q
    exact q
  have hvl : vs.length = σ.length := by rw [pm.length_eq, List.length_map, Array.length_toList]; exact hn
  obtain ⟨cs, hI, ec⟩ := strs_by vs fun v hv => by
    obtain ⟨e, he, q⟩ := List.mem_map.mp (pm.mem_iff.mp hv)
    obtain ⟨k, tk, h1, _⟩ := g e he
    exact ⟨k, tk, by rw [← q]; exact h1⟩
  have pk : cs.Perm σ := by
    rw [← ec]
    have q := pm.map (fun v => kc (0, v))
    rw [List.map_map] at q
    exact q.trans hm
  have hl2 : vs.length ≤ sizeLine := by rw [hvl]; exact hL
  refine wpAny_bind (wpAny_newList ?_ hl2)
  have hoL : (s1.heap.push (seqObj "list" vs.toArray 0)).get? s1.heap.objs.size = some (seqObj "list" vs.toArray 0) := Heap.get?_push_size _ rfl
  refine wpAny_bind (wpAny_holding (wpAny_call_entry slot_list_sort ⟨_, hoL, rfl⟩ entry_list_sort (list_sort_treeKAny strKind_oneLt hoL hI.keysOf (fun v₁ v₂ rest e => keyKind_strs (by rw [← e]; exact hI)) hl2 fun st' h1 h2 => ⟨_, rfl, wpAny_pure ⟨_, rfl, ?_⟩⟩) (args_list_sort _)))
  obtain ⟨ss, a1, a2, a3⟩ := sorted_out_str hI h1 h2
  obtain ⟨e, he⟩ := sortedHeap_at (out := (arrOf st').map (·.2)) hoL
  refine hQ _ s1.heap.objs.size _ e ss (fun b u q => ?_) g1 o1 hz he a1 (a2.trans (pk.map St.one)) a3
  have hbk := k1 b u q
  have hlt := Heap.lt_size hbk
  show (sortedHeap _ _ _ _).get? b = some u
  rw [sortedHeap_old (Nat.ne_of_lt hlt) (by rw [Heap.size_push]; exact Nat.lt_succ_of_lt hlt)]
  exact Heap.get?_push_of_some _ hbk
/-- sorted(set(text)) -/
def tSst (ta : TE) : TE := fun σ H Q => ta σ H fun x H1 => ∃ z : Str, x = .str z ∧ z.length ≤ 4000 ∧ ∀ (ys : List Str) (p : Addr), ys.Perm ((St.once z.cps.toList).map St.one) → sortedS ys = true → H1 p = none → Q (.ref p) (upd H1 p (.lst (ys.map V.str)))
theorem pe_sst_set {X : Cx} {a : Expr} {ta : TE} {p p2 q pos : Pos} (hg : Gl X "sorted") (hm : X.mg "sorted" = none) (hg2 : Gl X "set") (hm2 : X.mg "set" = none) (hb : bootBuiltins "sorted" = some (.builtin "sorted")) (ha : PE X a ta) (hc : X.calm = true := by rfl)
    (na : starEach [a] X.env = (false, eval a X.env) :: starEach [] X.env := by rfl) : PE X (.Call (.Name "sorted" p) [.Call (.Name "set" p2) [a] [] q] [] pos) (tSst ta) := by
  refine ⟨fun pins s σ H Q I h => Call_ (ld_blt I hg hm hb ?_)⟩
  refine PyProof.Rows.callWith_builtin1 (PyProof.Rows.args_cons ?_ rfl) rfl rfl
  refine Call_ (ld_blt I hg2 hm2 boot_set ?_)
  refine PyProof.Rows.callWith_type1 (PyProof.Rows.args_cons (thn (ha.run pins s σ H _ I h) fun v s1 ⟨x, H1, I1, r1, q1⟩ => PyProof.Rows.args_nil ?_) na) na rfl
  obtain ⟨z, rfl, hz, q1⟩ := q1
  obtain ⟨t, rfl⟩ := r1
  have ez : z.cps.size = z.length := rfl
  have hol : (St.once z.cps.toList).length ≤ 4000 := by
    have q := (St.once_len z.cps.toList).1
    have e2 : z.cps.toList.length = z.length := by simp [Str.length]
    omega
  refine PySem.St.call_set_textC (I1.ok.hd hc) (by rw [ez]; unfold scanBound; omega) fun h' tk hS hk => PyProof.Rows.args_nil ?_
  have I2 : Inv X pins σ H1 { s1 with heap := h', toks := tk } := I1.kept hk
  generalize s1.heap.objs.size = S at hS ⊢
  have hS : SetC X.w ({ s1 with heap := h', toks := tk } : Shared).heap S (St.once z.cps.toList) := hS
  generalize ({ s1 with heap := h', toks := tk } : Shared) = s2 at I2 hS ⊢
  refine sorted_setC hS (I2.ok.hd hc) (Nat.le_trans hol (by rw [sizeLine_eq]; omega)) fun s' p out c ss k g o hp hgp a1 a2 a3 => ?_
  have hlen : (ss.map V.str).length ≤ sizeLine := by
    rw [List.length_map, a2.length_eq, List.length_map, sizeLine_eq]
    omega
  have hn : H1 p = none := I2.hok.fresh hp
  have J : Inv X pins σ (upd H1 p (.lst (ss.map V.str))) { s2 with heap := s'.heap, gens := s'.gens, drawn := s'.drawn, toks := s'.toks } :=
    I2.call (ch := []) (Un.laid k hp hn) (I2.hok.laid k hp ⟨hlen, out.toList, c, vals_of_strs a1, by simpa using hgp⟩) (by rw [g]; exact I2.bare) (fun _ z => nomatch z)
  have e : s' = { s2 with heap := s'.heap, gens := s'.gens, drawn := s'.drawn, toks := s'.toks } := by
    cases s'
    cases s2
    cases o
    rfl
  rw [e]
  exact ⟨.ref p, _, J, rfl, q1 ss p a2 a3 hn⟩
end Ms

set_option Elab.async false
set_option linter.all false
set_option maxRecDepth 100000
/-! sorted(set(a text)) -/
namespace Dl
open PySem PySem.Spec PyProof.Rows L2
def dSst (a : DTE) : DTE := fun E δ μ Q => a E δ μ fun x μ1 => x.toS fun l => l.length ≤ 4000 ∧ ∀ cs : List Nat, cs.Pairwise (· < ·) → (∀ c, c ∈ cs ↔ c ∈ l) → Q (.lst (cs.map fun c => D.str [c])) μ1
theorem dSst_p (a : DTE) : ∀ E δ μ Q, Dl.dSst a E δ μ Q = (a E δ μ fun x μ1 => x.toS fun l => l.length ≤ 4000 ∧ ∀ cs : List Nat, cs.Pairwise (· < ·) → (∀ c, c ∈ cs ↔ c ∈ l) → Q (.lst (cs.map fun c => D.str [c])) μ1) := fun _ _ _ _ => Eq.trans (Eq.symm (Eq.refl _)) (Eq.refl _)
theorem lt_le_nd : ∀ {l : List Nat}, l.Pairwise (· ≤ ·) → l.Nodup → l.Pairwise (· < ·)
  | [], _, _ => .nil
  | c :: r, h, d => by
    obtain ⟨h1, h2⟩ := List.pairwise_cons.mp h
    obtain ⟨d1, d2⟩ := List.nodup_cons.mp d
    exact .cons (fun a ha => Nat.lt_of_le_of_ne (h1 a ha) fun e => d1 (e ▸ ha)) (lt_le_nd h2 d2)
section
variable {X : Cx} {E : XK} {a : Expr} {ta : TE} {da : DTE} {p p2 q pos : Pos}
theorem de_sst (hg : Gl X "sorted") (hm : X.mg "sorted" = none) (hg2 : Gl X "set") (hm2 : X.mg "set" = none) (ha : DE X E a ta da) (hb : bootBuiltins "sorted" = some (.builtin "sorted") := by decide +kernel) (hc : X.calm = true := by rfl)
    (na : starEach [a] X.env = (false, eval a X.env) :: starEach [] X.env := by rfl) : DE X E (.Call (.Name "sorted" p) [.Call (.Name "set" p2) [a] [] q] [] pos) (Ms.tSst ta) (dSst da) :=
  ⟨Ms.pe_sst_set hg hm hg2 hm2 hb ha.pe hc na, ⟨fun {σ H δ μ Q Q' E'} hh x d q => ha.sn.go hh x d fun v y H1 μ1 t1 r1 d1 => by
    obtain ⟨l, rfl, hl, d2⟩ := toS_inv d1
    refine ⟨_, r1.str_inv, by rw [ofL_len]; exact hl, fun ys p hperm hs hp => ?_⟩
    have hcp : (ofL l).cps.toList = l := by simp [ofL]
    rw [hcp] at hperm
    obtain ⟨m, pm, rfl⟩ := perm_one (z := PySem.St.once l) hperm
    have nd : m.Nodup := pm.nodup_iff.mpr (PySem.St.once_nd l)
    exact q _ _ _ _ (t1.trans (.new t1.cells hp)) (rep_lst t1.cells hp (reps_signs m)) (d2 m (lt_le_nd (sorted_le hs) nd) fun c => (pm.mem_iff).trans (PySem.St.mem_once l c))⟩⟩
end
end Dl

set_option Elab.async false
set_option linter.all false
set_option maxRecDepth 100000
/-! calls with keywords alone, defs as values, sorted pairs of whole numbers, what is never reached -/
namespace Dl
open PySem PySem.Spec PyProof.Rows L2
/-! ### values put in an order -/
def pickL {α : Type} (is : List Nat) (l : List α) : List α := is.filterMap fun i => l[i]?
theorem pickL_nil {α : Type} (l : List α) : pickL [] l = [] := Eq.trans (Eq.symm (Eq.refl _)) (Eq.refl _)
theorem pickL_cons {α : Type} (i : Nat) (is : List Nat) (l : List α) : pickL (i :: is) l = match l[i]? with | some x => x :: pickL is l | none => pickL is l := by
  unfold pickL
  rw [List.filterMap_cons]
  cases l[i]? <;> rfl
theorem vals_pick {vs : List V} {us : List Value} (h : Vals vs us) : ∀ is : List Nat, Vals (pickL is vs) (pickL is us)
  | [] => .nil
  | i :: is => by
    rw [pickL_cons, pickL_cons]
    cases e : vs[i]? with
    | none =>
      have l1 := List.getElem?_eq_none_iff.mp e
      rw [List.getElem?_eq_none_iff.mpr (by rw [← h.length]; exact l1)]
      exact vals_pick h is
    | some x =>
      obtain ⟨u, e2, r⟩ := h.get e
      rw [e2]
      exact .cons r (vals_pick h is)
theorem reps_pick {K : PySem.W.Frag} {H : Hp} {μ : Mu} {vs : List V} {xs : List D} (h : Reps K H μ vs xs) : ∀ is : List Nat, Reps K H μ (pickL is vs) (pickL is xs)
  | [] => .nil
  | i :: is => by
    rw [pickL_cons, pickL_cons]
    cases e : xs[i]? with
    | none =>
      have l1 := List.getElem?_eq_none_iff.mp e
      rw [List.getElem?_eq_none_iff.mpr (by rw [h.length]; exact l1)]
      exact reps_pick h is
    | some x =>
      obtain ⟨u, e2, r⟩ := h.get e
      rw [e2]
      exact .cons r (reps_pick h is)
section
variable {K : PySem.W.Frag} {x qual : Str} {params : Arguments} {body : List Stmt} {scope : Scope} {dvs : List V} {f : Addr} {fd : FuncData} {ps : List Str}
/-- no defaults; keywords named ks behind n values -/
theorem kbN (F : FunD K x qual params body scope [] [] f fd) (n : Nat) (ks : List Str) (is : List Nat)
    (h : ∀ (kV doc pm : Value) (an : Option Addr) (cdv ct : Value) (us ws : List Value), us.length = n → ws.length = ks.length → bindArgs (PySem.W.fnOf x qual params body scope .none kV doc pm an cdv ct) ⟨us, ks.zip ws⟩ = pure (ps.zip (pickL is (us ++ ([] ++ ws))))) :
    ∃ its : List Value, KBn K fd ps n ks (fun us ws => pickL is (us ++ (its ++ ws))) (fun vs zs => pickL is (vs ++ ([] ++ zs))) := by
  obtain ⟨oc, od, dV, kV, doc, pm, an, cdv, ct, osl, rfl, lk, hcd, hD, hK⟩ := F.ex
  rcases hD with ⟨_, rfl⟩ | ⟨e, _⟩
  · exact ⟨[], ⟨fun s us ws X l1 l2 => .of_eq (h kV doc pm an cdv ct us ws l1 l2), fun r1 r2 => vals_pick (r1.append r2) is⟩⟩
  · exact absurd rfl e
theorem kbD (F : FunD K x qual params body scope dvs [] f fd) (n : Nat) (ks : List Str) (is : List Nat) (hd : dvs ≠ [])
    (h : ∀ (T : Addr) (kV doc pm : Value) (an : Option Addr) (cdv ct : Value) (us its ws : List Value), us.length = n → its.length = dvs.length → ws.length = ks.length →
      ∃ k, bindArgs (PySem.W.fnOf x qual params body scope (.ref T) kV doc pm an cdv ct) ⟨us, ks.zip ws⟩ = seqItems? (.ref T) >>= k ∧ k (some its.toArray) = pure (ps.zip (pickL is (us ++ (its ++ ws))))) :
    ∃ its : List Value, KBn K fd ps n ks (fun us ws => pickL is (us ++ (its ++ ws))) (fun vs zs => pickL is (vs ++ (dvs ++ zs))) :=
  F.kbindsD n ks (fun us its ws => pickL is (us ++ (its ++ ws))) hd (fun r1 r2 r3 => vals_pick (r1.append (r2.append r3)) is) h
end
section
variable {X : Cx} {E : XK} {CX : CXT} {k : Nat} {f C : Addr} {fd : FuncData} {ps ks : List Str} {sp : DSp} {is : List Nat} {its : List Value} {dvs : List V} {dds : List D} {x : Str} {p pos kpos : Pos} {nm : Option Str} {e : Expr} {kws : List Keyword} {te : TE} {de : DTE} {tk : TA} {dk : DTA} {K : PySem.W.Frag}
structure DKw (X : Cx) (E : XK) (kws : List Keyword) (t : TA) (d : DTA) : Prop where
  pe : PK X kws t
  sn : SA X.K E t d
theorem dkw_nil : DKw X E [] tNil dNil := ⟨pk_nil, ⟨fun {σ H δ μ Q Q' E'} hh x d q => q _ _ _ _ hh.refl .nil d⟩⟩
theorem dkw_cons (ha : DE X E e te de) (hr : DKw X E kws tk dk) : DKw X E (⟨nm, e, kpos⟩ :: kws) (tCons te tk) (dCons de dk) := ⟨pk_cons ha.pe hr.pe, sa_cons ha.sn hr.sn⟩
def tCallK0 (m : Nat) (sp : Sp) (gV : List V → List V) (E : XK) (tk : TA) : TE := fun σ H Q => tk σ H fun zs H1 => zs.length = m ∧ sp (gV zs) H1 Q E
theorem pe_callK0 {sp : Sp} {g : List Value → List Value → List Value} {gV : List V → List V → List V} (F : FnOk X.prog X.w X.K X.mg X.base CX k f fd ps sp) (hr : Room k X.A) (hg : Gl X x) (hm : X.mg x = some (.ref f)) (hk : PySem.W.keepIn X.K (.ref f) = true) (hb : KBn X.K fd ps 0 ks g gV) (hx : Passes CX X E) (hkw : PK X kws tk)
    (hall : (backToKw pos (keywordEach kws X.env)).all (·.1.isSome) = true := by rfl) (hks : (backToKw pos (keywordEach kws X.env)).filterMap (·.1) = ks := by rfl) (hdb : (x == ("__debug__" : Str)) = false := by decide)
    (hpl : ((backTo pos (starEach [] X.env)).any (·.1) || (backToKw pos (keywordEach kws X.env)).any (·.1.isNone)) = false := by rfl) :
    PE X (.Call (.Name x p) [] kws pos) (tCallK0 ks.length sp (gV []) E tk) := by
  refine ⟨fun pins s σ H Q I h => ?_⟩
  refine wpAny_Call_Name_kw (ld_glob I hg hm ?_ hdb)
  refine PySem.W.callWith_KW0 (h₀ := X.base) I.ok.mod.kin hk hall ?_ hpl
  refine thn (hkw.run pos pins s σ H _ I h) fun ws s2 ⟨zs, H2, I2, rz, l2, q2⟩ => ⟨I2.kIn, ?_⟩
  rw [hks]
  exact run_fnN (us := []) (vs := []) F hr hb hx I2 .nil rz rfl l2 q2
/-- f(k = v, ..) -/
def dCallK0 (m : Nat) (sp : DSp) (is : List Nat) (dds : List D) (dk : DTA) : DTE := fun E δ μ Q => dk E δ μ fun zs μ1 => zs.length = m ∧ sp (pickL is (dds ++ zs)) μ1 Q E
theorem dCallK0_p (m : Nat) (sp : DSp) (is : List Nat) (dds : List D) (dk : DTA) : ∀ E δ μ Q, Dl.dCallK0 m sp is dds dk E δ μ Q = (dk E δ μ fun zs μ1 => zs.length = m ∧ sp (pickL is (dds ++ zs)) μ1 Q E) := fun _ _ _ _ => Eq.trans (Eq.symm (Eq.refl _)) (Eq.refl _)
theorem de_callK0 (F : FnOk X.prog X.w X.K X.mg X.base CX k f fd ps (lift K sp)) (hr : Room k X.A) (hg : Gl X x) (hm : X.mg x = some (.ref f)) (hk : PySem.W.keepIn X.K (.ref f) = true) (hb : ∃ its : List Value, KBn X.K fd ps 0 ks (fun us ws => pickL is (us ++ (its ++ ws))) (fun vs zs => pickL is (vs ++ (dvs ++ zs)))) (hq : ∀ H μ, Reps K H μ dvs dds) (hx : Passes CX X E) (hkw : DKw X E kws tk dk)
    (hall : (backToKw pos (keywordEach kws X.env)).all (·.1.isSome) = true := by rfl) (hks : (backToKw pos (keywordEach kws X.env)).filterMap (·.1) = ks := by rfl) (hdb : (x == ("__debug__" : Str)) = false := by decide)
    (hpl : ((backTo pos (starEach [] X.env)).any (·.1) || (backToKw pos (keywordEach kws X.env)).any (·.1.isNone)) = false := by rfl) (hK : X.K = K := by rfl) :
    DE X E (.Call (.Name x p) [] kws pos) (tCallK0 ks.length (lift K sp) (fun zs => pickL is (dvs ++ zs)) E tk) (dCallK0 ks.length sp is dds dk) := by
  subst hK
  exact ⟨pe_callK0 F hr hg hm hk hb.choose_spec hx hkw.pe hall hks hdb hpl, ⟨fun {σ H δ μ Q Q' E'} hh x d q => hkw.sn.go hh x d fun vs xs H1 μ1 t1 r1 d1 => ⟨by rw [r1.length]; exact d1.1, _, _, _, _, reps_pick ((hq _ _).append r1) is, t1.cells, d1.2, q.go t1, x.go t1⟩⟩⟩
/-- C(k = v, ..) -/
def dMakeK0 (C : Addr) (m : Nat) (sp : DSp) (is : List Nat) (dds : List D) (dk : DTA) : DTE := fun E δ μ Q => dk E δ μ fun zs μ1 => zs.length = m ∧ ∀ p, μ1 p = none → sp (pickL is (.ref p :: (dds ++ zs))) (mup μ1 p (.ins C [] [])) (fun v μ2 => v = .non ∧ Q (.ref p) μ2) E
theorem dMakeK0_p (C : Addr) (m : Nat) (sp : DSp) (is : List Nat) (dds : List D) (dk : DTA) : ∀ E δ μ Q, Dl.dMakeK0 C m sp is dds dk E δ μ Q = (dk E δ μ fun zs μ1 => zs.length = m ∧ ∀ p, μ1 p = none → sp (pickL is (.ref p :: (dds ++ zs))) (mup μ1 p (.ins C [] [])) (fun v μ2 => v = .non ∧ Q (.ref p) μ2) E) := fun _ _ _ _ => Eq.trans (Eq.symm (Eq.refl _)) (Eq.refl _)
theorem de_makeK0 (M : Mk X.K C f) (F : FnOk X.prog X.w X.K X.mg X.base CX k f fd ps (lift K sp)) (hr : Room (k + 1) X.A) (hg : Gl X x) (hm : X.mg x = some (.ref C)) (hb : ∃ its : List Value, KBn X.K fd ps 1 ks (fun us ws => pickL is (us ++ (its ++ ws))) (fun vs zs => pickL is (vs ++ (dvs ++ zs)))) (hq : ∀ H μ, Reps K H μ dvs dds) (hx : Passes CX X E) (hkw : DKw X E kws tk dk)
    (hall : (backToKw pos (keywordEach kws X.env)).all (·.1.isSome) = true := by rfl) (hks : (backToKw pos (keywordEach kws X.env)).filterMap (·.1) = ks := by rfl) (hdb : (x == ("__debug__" : Str)) = false := by decide)
    (hpl : ((backTo pos (starEach [] X.env)).any (·.1) || (backToKw pos (keywordEach kws X.env)).any (·.1.isNone)) = false := by rfl) (hK : X.K = K := by rfl) :
    DE X E (.Call (.Name x p) [] kws pos) (tMakeK C 0 ks.length (lift K sp) (fun vs zs => pickL is (vs ++ (dvs ++ zs))) E tNil tk) (dMakeK0 C ks.length sp is dds dk) := by
  subst hK
  refine ⟨pe_makeK0 M F hr hg hm hb.choose_spec hx hkw.pe hall hks hdb hpl, ⟨fun {σ H δ μ Q Q' E'} hh x d q => ?_⟩⟩
  show tk σ H _
  refine hkw.sn.go hh x d fun vs xs H1 μ1 t1 r1 d1 => ⟨rfl, by rw [r1.length]; exact d1.1, fun p dx hp hdx hne => ?_⟩
  have t2 : Then X.K H1 μ1 (upd H1 dx (.own p)) μ1 := .new t1.cells hdx
  have hp2 : upd H1 dx (.own p) p = none := by rw [upd_ne (Ne.symm hne)]; exact hp
  have t3 : Then X.K (upd H1 dx (.own p)) μ1 (upd (upd H1 dx (.own p)) p (.ins C dx [])) (mup μ1 p (.ins C [] [])) := .cell t2.cells hp2 (con_ins upd_same rfl .nil)
  have t23 := t2.trans t3
  refine ⟨_, _, _, _, reps_pick (.cons (.ref p) ((hq _ _).append (r1.grow t23.g))) is, t3.cells, d1.2 p (mu_none t1.cells hp), fun v z H' μ' t4 r4 q4 => ?_, (x.go t1).go t23⟩
  obtain ⟨rfl, q5⟩ := q4
  exact ⟨r4.non_inv, q _ _ _ _ ((t1.trans t23).trans t4) (.ref p) q5⟩
/-- a def's name -/
theorem de_fnv (hg : Gl X x) (hm : X.mg x = some (.ref f)) (hd : (x == ("__debug__" : Str)) = false := by decide) : DE X E (.Name x pos) (tC (.ref f)) (dC (.ref f)) := ⟨pe_glob hg hm rfl hd, se_c fun _ _ => .ref f⟩
/-- what is never reached -/
def tNev : TE := fun _ _ _ => False
def dNev : DTE := fun _ _ _ _ => False
theorem dNev_p : ∀ E δ μ Q, Dl.dNev E δ μ Q = False := fun _ _ _ _ => Eq.trans (Eq.symm (Eq.refl _)) (Eq.refl _)
def tNevT : TT := fun _ _ _ => False
def dNevT : DTT := fun _ _ _ _ => False
theorem dNevT_p : ∀ E δ μ Q, Dl.dNevT E δ μ Q = False := fun _ _ _ _ => Eq.trans (Eq.symm (Eq.refl _)) (Eq.refl _)
theorem dt_nev : DT X E e tNevT dNevT := ⟨⟨fun _ _ _ _ _ _ h => h.elim⟩, ⟨fun {σ H δ μ Q Q' E'} hh x d q => d.elim⟩⟩
theorem de_nev : DE X E e tNev dNev := ⟨⟨fun _ _ _ _ _ _ h => h.elim⟩, ⟨fun {σ H δ μ Q Q' E'} hh x d q => d.elim⟩⟩
end
section
variable {X : Cx} {k i : Nat} {x : Str} {p pos : Pos} {e : Expr} {es : List Expr} {t : TA} {d : DTA}
/-- a def that a slot may hold, with its promise -/
structure HeldD (P : Program) (w : World) (K : PySem.W.Frag) (mg : Str → Option Value) (base : Heap) (k : Nat) (f : Addr) (sp : DSp) : Prop where
  ex : ∃ (fd : FuncData) (ps : List Str), FnOk P w K mg base L2.CX0 k f fd ps (lift K sp) ∧ PySem.W.keepIn K (.ref f) = true ∧ Binds K fd ps []
def tCallM (i : Nat) (K : PySem.W.Frag) (L : List (Addr × DSp)) (E : XK) (t : TA) : TE := fun σ H Q => ∃ f sp, (f, sp) ∈ L ∧ tCallL i f (lift K sp) [] E t σ H Q
def dCallM (i : Nat) (L : List (Addr × DSp)) (d : DTA) : DTE := fun E δ μ Q => ∃ f sp, (f, sp) ∈ L ∧ δ[i]? = some (some (.ref f)) ∧ d E δ μ fun ds μ1 => sp ds μ1 Q E
theorem dCallM_p (i : Nat) (L : List (Addr × DSp)) (d : DTA) : ∀ E δ μ Q, Dl.dCallM i L d E δ μ Q = (∃ f sp, (f, sp) ∈ L ∧ δ[i]? = some (some (.ref f)) ∧ d E δ μ fun ds μ1 => sp ds μ1 Q E) := fun _ _ _ _ => Eq.trans (Eq.symm (Eq.refl _)) (Eq.refl _)
theorem de_callM {K : PySem.W.Frag} {E : XK} {L : List (Addr × DSp)} (A : ∀ q ∈ L, HeldD X.prog X.w K X.mg X.base k q.1 q.2) (hr : Room k X.A) (hN : X.N[i]? = some x) (hv : Vis X.env.scope x) (hx : Passes L2.CX0 X E) (ha : DA X E (e :: es) t d)
    (hdb : (x == ("__debug__" : Str)) = false := by decide) (hcd : (x == ("__classdict__" : Str)) = false := by decide)
    (he : starEach (e :: es) X.env = (false, eval e X.env) :: starEach es X.env := by rfl) (hpl : (backTo pos (starEach es X.env)).any (·.1) = false := by rfl) (hK : X.K = K := by rfl) : DE X E (.Call (.Name x p) (e :: es) [] pos) (tCallM i K L E t) (dCallM i L d) := by
  subst hK
  refine ⟨⟨fun pins s σ H Q I h => ?_⟩, ⟨fun {σ H δ μ Q Q' E'} hh x d q => ?_⟩⟩
  · obtain ⟨f, sp, hm, h⟩ := h
    obtain ⟨fd, ps, F, hk, hb⟩ := (A _ hm).ex
    exact (pe_callL F hr hN hv hk hb .nil hx ha.pe hdb hcd he hpl).run pins s σ H Q I h
  · obtain ⟨f, sp, hm, e1, d⟩ := d
    obtain ⟨v, e2, r⟩ := hh.slots.2 i _ e1
    rw [r.ref_inv] at e2
    exact ⟨f, sp, hm, e2, ha.sn.go hh x d fun vs xs H1 μ1 t1 r1 d1 => ⟨_, _, _, _, by rw [List.append_nil]; exact r1, t1.cells, d1, q.go t1, x.go t1⟩⟩
end
/-! ### sorted pairs -/
def lexLe (p q : Int × Int) : Prop := p.1 < q.1 ∨ (p.1 = q.1 ∧ p.2 ≤ q.2)
def rSortedPX (K : PySem.W.Frag) : List V → Hp → VK → Prop := fun vs H Q => ∃ (a : Addr) (xs : List V) (ps : List (Int × Int)), vs = [V.ref a] ∧ SqL K H a xs ∧ xs.length = ps.length ∧
  (∀ (i : Nat) (x : V) (p : Int × Int), xs[i]? = some x → ps[i]? = some p → ∃ t, x = V.ref t ∧ SqT K H t [.int p.1, .int p.2]) ∧
  ∀ (k : V → Int × Int) ys p, xs.map k = ps → ys.Perm xs → (ys.map k).Pairwise lexLe → H p = none → Q (.ref p) (upd H p (.lst ys))
open Classical in
theorem cr_sortedPX {X : Cx} : CallR X (.builtin "sorted") (rSortedPX X.K) := by
  intro pins s σ H vs us Q I r h
  obtain ⟨a, xs, ps, rfl, hs, hlen, hx, q⟩ := h
  obtain ⟨its, rv, hl, hz⟩ := I.list hs
  obtain ⟨u, rfl, ru⟩ := vals1 r
  obtain rfl : u = Value.ref a := ru
  have hxx : ∀ x ∈ xs, ∃ p : Int × Int, ∃ t, x = V.ref t ∧ SqT X.K H t [.int p.1, .int p.2] := fun x m => by
    obtain ⟨i, hi⟩ := List.mem_iff_getElem?.mp m
    have hlt : i < ps.length := by rw [← hlen]; exact (List.getElem?_eq_some_iff.mp hi).1
    exact ⟨ps[i], hx i x _ hi (List.getElem?_eq_getElem hlt)⟩
  obtain ⟨e1, e2⟩ := refs_back rv fun x m => by
    obtain ⟨_, t, e, _⟩ := hxx x m
    exact ⟨t, e⟩
  let k : V → Int × Int := fun x => if h : ∃ p : Int × Int, ∃ t, x = V.ref t ∧ SqT X.K H t [.int p.1, .int p.2] then h.choose else (0, 0)
  have hk : ∀ x ∈ xs, ∃ t, x = V.ref t ∧ SqT X.K H t [.int (k x).1, .int (k x).2] := fun x m => by
    have h := hxx x m
    have : k x = h.choose := dif_pos h
    rw [this]
    exact h.choose_spec
  have hkp : xs.map k = ps := by
    apply List.ext_getElem?
    intro i
    rw [List.getElem?_map]
    cases hi : xs[i]? with
    | none =>
      have := List.getElem?_eq_none_iff.mp hi
      rw [Option.map_none, List.getElem?_eq_none_iff.mpr (by rw [← hlen]; exact this)]
    | some x =>
      have hlt : i < ps.length := by rw [← hlen]; exact (List.getElem?_eq_some_iff.mp hi).1
      obtain ⟨t, e, ht⟩ := hk x (List.mem_of_getElem? hi)
      obtain ⟨t', e', ht'⟩ := hx i x _ hi (List.getElem?_eq_getElem hlt)
      rw [e] at e'
      cases e'
      have q := I.tuple_inj ht ht'
      rw [List.getElem?_eq_getElem hlt, Option.map_some]
      have q1 : (V.int (k x).1) = .int ps[i].1 := (List.cons.inj q).1
      have q2 : (V.int (k x).2) = .int ps[i].2 := (List.cons.inj (List.cons.inj q).2).1
      injection q1 with q1
      injection q2 with q2
      exact congrArg some (Prod.ext q1 q2)
  generalize k = k at hk hkp
  refine SrtO.sorted_pairsO (k := fun u => k (backV u)) hl.isList (by rw [← rv.length]; exact hz) (fun v hv => ?_) fun h' d out h1 h2 kp hd hn => ?_
  · obtain ⟨t, rfl⟩ := e2 v hv
    have hm : V.ref t ∈ xs := by rw [e1]; exact List.mem_map.mpr ⟨_, hv, rfl⟩
    obtain ⟨t', e, ht⟩ := hk _ hm
    cases e
    obtain ⟨its2, r2, ⟨o, ho, hc, n, hd⟩, _⟩ := I.tuple ht
    obtain ⟨u1, u2, rfl, ri, rj⟩ := vals2 r2
    obtain ⟨t1, rfl⟩ := ri
    obtain ⟨t2, rfl⟩ := rj
    exact ⟨t, o, t1, t2, n, rfl, ho, hc, hd⟩
  · have h3 : ∀ u ∈ out, ∃ a, u = Value.ref a := fun u hu => e2 u (h2.perm.mem_iff.mp hu)
    obtain ⟨n, hn⟩ := hn
    have hb : SrtO.Stb (ltP k) (out.map backV) xs := by
      rw [e1]
      exact SrtO.Stb.map (ltP_swo k) backV h2
    have hs : SrtO.Srtd (ltP k) (out.map backV) := SrtO.srtd_map h1
    refine ⟨.ref d, upd H d (.lst (out.map backV)), I.laid (t' := s.toks) kp hd ⟨?_, out, n, vals_back h3, hn⟩, rfl, q k _ d hkp hb.perm ?_ (I.hok.fresh hd)⟩
    · rw [hb.len]
      exact hz
    · refine List.pairwise_map.mpr (List.Pairwise.imp (fun {x y} h => ?_) hs)
      have h4 : ¬ ((k y).1 < (k x).1 ∨ ((k y).1 = (k x).1 ∧ (k y).2 < (k x).2)) := SrtO.lexB_no.mp h
      show (k x).1 < (k y).1 ∨ ((k x).1 = (k y).1 ∧ (k x).2 ≤ (k y).2)
      omega
def prI (p : Int × Int) : D := .tup [.int p.1, .int p.2]
def gSortP : GC := fun ds μ Q => one ds fun x => ∃ ps : List (Int × Int), rd μ x = .lst (ps.map prI) ∧ ∀ qs : List (Int × Int), qs.Perm ps → qs.Pairwise lexLe → Q (.lst (qs.map prI)) μ
theorem gSortP_p : ∀ ds μ Q, Dl.gSortP ds μ Q = (one ds fun x => ∃ ps : List (Int × Int), rd μ x = .lst (ps.map prI) ∧ ∀ qs : List (Int × Int), qs.Perm ps → qs.Pairwise lexLe → Q (.lst (qs.map prI)) μ) := fun _ _ _ => Eq.trans (Eq.symm (Eq.refl _)) (Eq.refl _)
theorem c_sortP {X : Cx} {K : PySem.W.Frag} (hK : X.K = K) : DCl X (.builtin "sorted") (rSortedPX K) gSortP := by
  subst hK
  exact ⟨cr_sortedPX, fun {xs ds H μ Q Q'} c r d q => by
    obtain ⟨x, rfl, ps, e, d2⟩ := one_inv d
    obtain ⟨v, rfl, r0⟩ := r.inv1
    obtain ⟨a, vs, rfl, ha, ra, _⟩ := stands c r0 e
    have hat : ∀ (i : Nat) (x : V) (p : Int × Int), vs[i]? = some x → ps[i]? = some p → Rep X.K H μ x (prI p) := fun i x p h1 h2 => by
      obtain ⟨y, e1, r1⟩ := ra.getV h1
      rw [List.getElem?_map, h2] at e1
      cases e1
      exact r1
    refine ⟨a, vs, ps, rfl, SqL.of ha, by rw [ra.length, List.length_map], fun i x p h1 h2 => ?_, fun k ys p hk hp hs hn => ?_⟩
    · obtain ⟨t, us, rfl, ht, ru⟩ := (hat i x p h1 h2).tup_inv
      obtain ⟨v1, us, rfl, r1, ru⟩ := ru.cons_inv
      obtain ⟨v2, us, rfl, r2, ru⟩ := ru.cons_inv
      rw [r1.int_inv, r2.int_inv, ru.nil_inv] at ht
      exact ⟨t, rfl, ht⟩
    · have hr : ∀ y ∈ ys, Rep X.K H μ y (prI (k y)) := fun y hy => by
        obtain ⟨i, hi⟩ := List.mem_iff_getElem?.mp (hp.mem_iff.mp hy)
        exact hat i y (k y) hi (by rw [← hk, List.getElem?_map, hi]; rfl)
      have hrs : ∀ l : List V, (∀ y ∈ l, Rep X.K H μ y (prI (k y))) → Reps X.K H μ l ((l.map k).map prI) := by
        intro l
        induction l with
        | nil => exact fun _ => .nil
        | cons y l ih => exact fun h => .cons (h y List.mem_cons_self) (ih fun z hz => h z (List.mem_cons_of_mem _ hz))
      have q := q _ _ _ _ (.new c hn) (rep_lst c hn (hrs ys hr))
      exact q (d2 (ys.map k) (by rw [← hk]; exact hp.map k) hs)⟩
end Dl

set_option Elab.async false
set_option linter.all false
set_option maxRecDepth 100000
set_option maxHeartbeats 4000000
/-! Own words for heaps and numbers that all laws share. -/
namespace Ms
open PySem PySem.Spec PyProof.Rows L2
/-- all that was tracked is as it was, but at a -/
def But (a : Addr) (H H' : Hp) : Prop := ∀ b o, b ≠ a → H b = some o → H' b = some o
theorem But.refl (a : Addr) (H : Hp) : But a H H := fun _ _ _ h => h
theorem But.trans {a : Addr} {H H1 H2 : Hp} (x : But a H H1) (y : But a H1 H2) : But a H H2 := fun b o n h => y b o n (x b o n h)
theorem But.upd {a : Addr} {H : Hp} {o : HO} : But a H (upd H a o) := fun b u n h => by rw [upd_ne n]; exact h
theorem Same.but {a : Addr} {H H' : Hp} (x : Same H H') : But a H H' := fun b o _ h => x b o h
theorem same_upd {H : Hp} {p : Addr} {o : HO} (h : H p = none) : Same H (upd H p o) := fun b x e => by
  rw [upd_ne (ne_of_none e h)]
  exact e
theorem But.free {a p : Addr} {H H' : Hp} (x : But a H H') (n : p ≠ a) (h : H' p = none) : H p = none := by
  cases e : H p with
  | none => rfl
  | some o => rw [x p o n e] at h; cases h
/-- the draws' list at a -/
def Src (H : Hp) (a : Addr) : Prop := ∃ x c n : Int, H a = some (.lst [.int x, .int c, .int n])
theorem Src.same {H H' : Hp} {a : Addr} (h : Src H a) (s : Same H H') : Src H' a := let ⟨x, c, n, e⟩ := h; ⟨x, c, n, s _ _ e⟩
theorem Src.ne {H : Hp} {a p : Addr} (h : Src H a) (n : H p = none) : a ≠ p := let ⟨_, _, _, e⟩ := h; ne_of_none e n
theorem fm (a : Int) {b : Int} (h : 0 < b) : 0 ≤ a.fmod b ∧ a.fmod b < b := by
  rw [Int.fmod_eq_emod_of_nonneg a (by omega)]
  exact ⟨Int.emod_nonneg a (by omega), Int.emod_lt_of_pos a h⟩
theorem ne0 {b : Int} (h : 0 < b) : b ≠ 0 := by omega
theorem fd (a : Int) {b : Int} (h : 0 < b) : a.fdiv b = a / b := Int.fdiv_eq_ediv_of_nonneg a (by omega)
theorem bnd0 (a : Int) {b : Int} (h : 0 < b) (h2 : b < 2 ^ 64) : -(2 ^ 64) < a.fmod b ∧ a.fmod b < 2 ^ 64 := by
  have := fm a h
  omega
theorem bnd1 (a : Int) {b : Int} (h : 0 < b) (h2 : b < 2 ^ 63) : -(2 ^ 64) < a.fmod b + 1 ∧ a.fmod b + 1 < 2 ^ 64 := by
  have := fm a h
  omega
/-- the cells that a law goes over -/
theorem cells (ns : List Int) (k : Int) : ∃ cs : List Int, cutV (ns.map V.int ++ [.int 0]) none (some k) = cs.map V.int := by
  refine ⟨((ns ++ [0]).drop (HT.sIx (ns ++ [0]).length 0 none)).take (HT.sIx (ns ++ [0]).length (ns ++ [0]).length (some k) - HT.sIx (ns ++ [0]).length 0 none), ?_⟩
  have e : ns.map V.int ++ [.int 0] = (ns ++ [0]).map V.int := by rw [List.map_append]; rfl
  rw [e]
  unfold cutV
  rw [List.length_map, List.map_take, List.map_drop]
theorem cell_at {cs : List Int} {i : Nat} {v : V} (h : (cs.map V.int)[i]? = some v) : ∃ c, v = .int c := by
  rw [List.getElem?_map] at h
  cases e : cs[i]? with
  | none => rw [e] at h; cases h
  | some c => rw [e] at h; exact ⟨c, (Option.some.inj h).symm⟩
/-! texts as lists of signs -/
abbrev sg (x : Str) : List Nat := x.cps.toList
def ofL (l : List Nat) : Str := ⟨l.toArray⟩
theorem ofL_sg (x : Str) : ofL (sg x) = x := rfl
theorem sg_ofL (l : List Nat) : sg (ofL l) = l := rfl
theorem sg_len (x : Str) : x.length = (sg x).length := by simp [sg, Str.length]
theorem ext_sg {x y : Str} (h : sg x = sg y) : x = y := Str.ext' (Array.toList_inj.mp h)
theorem ofL_len (l : List Nat) : (ofL l).length = l.length := by rw [sg_len, sg_ofL]
theorem sg_app (x y : Str) : sg (x ++ y) = sg x ++ sg y := by
  show (x ++ y).cps.toList = _
  rw [Str.cps_append, Array.toList_append]
theorem cps_get (x : Str) (i : Nat) : x.cps[i]? = (sg x)[i]? := by simp [sg]
theorem size_sg (x : Str) : x.cps.size = (sg x).length := by simp [sg]
theorem join_one : ∀ l : List Nat, Str.join (ofL []) (l.map fun c => ofL [c]) = ofL l
  | [] => rfl
  | [_] => rfl
  | a :: b :: r => by
    have ih := join_one (b :: r)
    refine ext_sg ?_
    show sg (ofL [a] ++ ofL [] ++ Str.join (ofL []) (ofL [b] :: r.map fun c => ofL [c])) = _
    rw [sg_app, sg_app, show Str.join (ofL []) (ofL [b] :: r.map fun c => ofL [c]) = ofL (b :: r) from ih]
    rfl
theorem txt_join (l : List Nat) : Txt.join (ofL []) (l.map fun c => ofL [c]) = ofL l := (TL.join_eq _ _).trans (join_one l)
theorem sum_one : ∀ l : List Nat, ((l.map fun c => ofL [c]).map (·.length)).sum = l.length
  | [] => rfl
  | _ :: r => by
    rw [List.map_cons, List.map_cons, List.sum_cons, sum_one r, List.length_cons, ofL_len, List.length_singleton]
    omega
theorem cut_to (x : Str) (n : Nat) : cutS x none (some (n : Int)) = ofL ((sg x).take n) := by
  refine ext_sg ?_
  show ((x.cps.toList.drop (HT.sIx x.length 0 none)).take (HT.sIx x.length x.length (some (n : Int)) - HT.sIx x.length 0 none)) = (sg x).take n
  rw [HT.sIx_none, HT.sIx_nat, List.drop_zero, Nat.sub_zero, sg_len, ← List.take_eq_take_min]
theorem cut_from (x : Str) (n : Nat) : cutS x (some (n : Int)) none = ofL ((sg x).drop n) := by
  refine ext_sg ?_
  show ((x.cps.toList.drop (HT.sIx x.length 0 (some (n : Int)))).take (HT.sIx x.length x.length none - HT.sIx x.length 0 (some (n : Int)))) = (sg x).drop n
  rw [HT.sIx_none, HT.sIx_nat, sg_len]
  by_cases h : n ≤ (sg x).length
  · rw [Nat.min_eq_left h, ← List.length_drop, List.take_length]
  · have e : (sg x).length ≤ n := by omega
    rw [Nat.min_eq_right e, Nat.sub_self, List.take_zero, List.drop_eq_nil_of_le e]
end Ms

namespace Dl.M
open PySem PySem.Spec PyProof.Rows L2 Ms LamX

abbrev prg : Program := PySem.Challenge.pw_markseam_k14_marks_in_order
def topS (i : Nat) : Stmt := PySem.Challenge.pw_markseam_k14_marks_in_order.main.body.getD i (.Pass ⟨0, 0, 0, 0⟩)
abbrev s_is_whole : Stmt := topS 7
abbrev n_is_whole : List Str := ["thing"]
theorem sc_is_whole : FnScope n_is_whole ["thing"] (defScope s_is_whole) := ⟨rfl, rfl, rfl, by decide +kernel, rfl, by decide +kernel, by decide +kernel⟩
abbrev s_is_within : Stmt := topS 8
abbrev n_is_within : List Str := ["thing", "least", "most"]
theorem sc_is_within : FnScope n_is_within ["thing", "least", "most"] (defScope s_is_within) := ⟨rfl, rfl, rfl, by decide +kernel, rfl, by decide +kernel, by decide +kernel⟩
abbrev s_is_sign : Stmt := topS 12
abbrev n_is_sign : List Str := ["thing"]
theorem sc_is_sign : FnScope n_is_sign ["thing"] (defScope s_is_sign) := ⟨rfl, rfl, rfl, by decide +kernel, rfl, by decide +kernel, by decide +kernel⟩
abbrev s_is_text : Stmt := topS 13
abbrev n_is_text : List Str := ["thing"]
theorem sc_is_text : FnScope n_is_text ["thing"] (defScope s_is_text) := ⟨rfl, rfl, rfl, by decide +kernel, rfl, by decide +kernel, by decide +kernel⟩
abbrev s_are_signs : Stmt := topS 14
abbrev n_are_signs : List Str := ["thing", "least", "most"]
theorem sc_are_signs : FnScope n_are_signs ["thing", "least", "most"] (defScope s_are_signs) := ⟨rfl, rfl, rfl, by decide +kernel, rfl, by decide +kernel, by decide +kernel⟩
abbrev s_are_unlike_signs : Stmt := topS 15
abbrev n_are_unlike_signs : List Str := ["thing", "most"]
theorem sc_are_unlike_signs : FnScope n_are_unlike_signs ["thing", "most"] (defScope s_are_unlike_signs) := ⟨rfl, rfl, rfl, by decide +kernel, rfl, by decide +kernel, by decide +kernel⟩
abbrev s_want_letters : Stmt := topS 16
abbrev n_want_letters : List Str := ["letters"]
theorem sc_want_letters : FnScope n_want_letters ["letters"] (defScope s_want_letters) := ⟨rfl, rfl, rfl, by decide +kernel, rfl, by decide +kernel, by decide +kernel⟩
abbrev s_want_word : Stmt := topS 17
abbrev n_want_word : List Str := ["word", "letters", "allowed", "at", "sign"]
theorem sc_want_word : FnScope n_want_word ["word", "letters"] (defScope s_want_word) := ⟨rfl, rfl, rfl, by decide +kernel, rfl, by decide +kernel, by decide +kernel⟩
abbrev s_pairs_of : Stmt := topS 24
abbrev n_pairs_of : List Str := ["table", "what"]
theorem sc_pairs_of : FnScope n_pairs_of ["table", "what"] (defScope s_pairs_of) := ⟨rfl, rfl, rfl, by decide +kernel, rfl, by decide +kernel, by decide +kernel⟩
abbrev s_is_point : Stmt := topS 25
abbrev n_is_point : List Str := ["thing", "number"]
theorem sc_is_point : FnScope n_is_point ["thing"] (defScope s_is_point) := ⟨rfl, rfl, rfl, by decide +kernel, rfl, by decide +kernel, by decide +kernel⟩
abbrev s_is_hung_by : Stmt := topS 26
abbrev n_is_hung_by : List Str := ["sign", "ranks"]
theorem sc_is_hung_by : FnScope n_is_hung_by ["sign", "ranks"] (defScope s_is_hung_by) := ⟨rfl, rfl, rfl, by decide +kernel, rfl, by decide +kernel, by decide +kernel⟩
abbrev s_is_seat_key : Stmt := topS 27
abbrev n_is_seat_key : List Str := ["thing"]
theorem sc_is_seat_key : FnScope n_is_seat_key ["thing"] (defScope s_is_seat_key) := ⟨rfl, rfl, rfl, by decide +kernel, rfl, by decide +kernel, by decide +kernel⟩
abbrev s_kept_ranks : Stmt := topS 28
abbrev n_kept_ranks : List Str := ["ranks", "pairs", "sign", "rank"]
theorem sc_kept_ranks : FnScope n_kept_ranks ["ranks"] (defScope s_kept_ranks) := ⟨rfl, rfl, rfl, by decide +kernel, rfl, by decide +kernel, by decide +kernel⟩
abbrev s_kept_wide : Stmt := topS 29
abbrev n_kept_wide : List Str := ["wide", "ranks", "pairs", "sign", "many"]
theorem sc_kept_wide : FnScope n_kept_wide ["wide", "ranks"] (defScope s_kept_wide) := ⟨rfl, rfl, rfl, by decide +kernel, rfl, by decide +kernel, by decide +kernel⟩
abbrev s_kept_feet : Stmt := topS 30
abbrev n_kept_feet : List Str := ["feet", "ranks", "pairs", "sign", "foot"]
theorem sc_kept_feet : FnScope n_kept_feet ["feet", "ranks"] (defScope s_kept_feet) := ⟨rfl, rfl, rfl, by decide +kernel, rfl, by decide +kernel, by decide +kernel⟩
abbrev s_kept_seats : Stmt := topS 31
abbrev n_kept_seats : List Str := ["seats", "pairs", "key", "seat"]
theorem sc_kept_seats : FnScope n_kept_seats ["seats"] (defScope s_kept_seats) := ⟨rfl, rfl, rfl, by decide +kernel, rfl, by decide +kernel, by decide +kernel⟩
abbrev s_clusters : Stmt := topS 33
abbrev n_clusters : List Str := ["case", "word", "begins", "ends", "at", "sign"]
theorem sc_clusters : FnScope n_clusters ["case", "word"] (defScope s_clusters) := ⟨rfl, rfl, rfl, by decide +kernel, rfl, by decide +kernel, by decide +kernel⟩
abbrev s_ordered_height : Stmt := topS 35
abbrev n_ordered_height : List Str := ["case", "sign", "rank"]
theorem sc_ordered_height : FnScope n_ordered_height ["case", "sign"] (defScope s_ordered_height) := ⟨rfl, rfl, rfl, by decide +kernel, rfl, by decide +kernel, by decide +kernel⟩
abbrev s_places_by : Stmt := topS 36
abbrev n_places_by : List Str := ["case", "word", "height", "places", "begin", "end", "pairs", "at", "pair"]
theorem sc_places_by : FnScope n_places_by ["case", "word", "height"] (defScope s_places_by) := ⟨rfl, rfl, rfl, by decide +kernel, rfl, by decide +kernel, by decide +kernel⟩
abbrev s_text_at : Stmt := topS 37
abbrev n_text_at : List Str := ["word", "places", "at"]
theorem sc_text_at : FnScope n_text_at ["word", "places"] (defScope s_text_at) := ⟨rfl, rfl, rfl, by decide +kernel, rfl, by decide +kernel, by decide +kernel⟩
abbrev s_ordered : Stmt := topS 38
abbrev n_ordered : List Str := ["case", "word", "places"]
theorem sc_ordered : FnScope n_ordered ["case", "word"] (defScope s_ordered) := ⟨rfl, rfl, rfl, by decide +kernel, rfl, by decide +kernel, by decide +kernel⟩
abbrev s_y_mixed : Stmt := topS 40
abbrev n_y_mixed : List Str := ["_law_cell", "_law_k", "_law_number"]
theorem sc_y_mixed : FnScope n_y_mixed ["_law_cell", "_law_k"] (defScope s_y_mixed) := ⟨rfl, rfl, rfl, by decide +kernel, rfl, by decide +kernel, by decide +kernel⟩
abbrev s_y_well : Stmt := topS 41
abbrev n_y_well : List Str := ["_law_cell"]
theorem sc_y_well : FnScope n_y_well ["_law_cell"] (defScope s_y_well) := ⟨rfl, rfl, rfl, by decide +kernel, rfl, by decide +kernel, by decide +kernel⟩
abbrev s_y_draw : Stmt := topS 42
abbrev n_y_draw : List Str := ["_law_well_here", "_law_many", "_law_found"]
theorem sc_y_draw : FnScope n_y_draw ["_law_well_here", "_law_many"] (defScope s_y_draw) := ⟨rfl, rfl, rfl, by decide +kernel, rfl, by decide +kernel, by decide +kernel⟩
abbrev s_y_unlike : Stmt := topS 43
abbrev n_y_unlike : List Str := ["_law_well_here", "_law_many", "_law_rest", "_law_found", "_law_k", "_law_at"]
theorem sc_y_unlike : FnScope n_y_unlike ["_law_well_here", "_law_many"] (defScope s_y_unlike) := ⟨rfl, rfl, rfl, by decide +kernel, rfl, by decide +kernel, by decide +kernel⟩
abbrev s_y_ranks : Stmt := topS 44
abbrev n_y_ranks : List Str := ["_law_well_here", "_law_signs", "_law_found", "_law_sign"]
theorem sc_y_ranks : FnScope n_y_ranks ["_law_well_here", "_law_signs"] (defScope s_y_ranks) := ⟨rfl, rfl, rfl, by decide +kernel, rfl, by decide +kernel, by decide +kernel⟩
abbrev s_y_word : Stmt := topS 45
abbrev n_y_word : List Str := ["_law_well_here", "_law_signs", "_law_most", "_law_k"]
theorem sc_y_word : FnScope n_y_word ["_law_well_here", "_law_signs", "_law_most"] (defScope s_y_word) := ⟨rfl, rfl, rfl, by decide +kernel, rfl, by decide +kernel, by decide +kernel⟩
abbrev s_y_clusters : Stmt := topS 46
abbrev n_y_clusters : List Str := ["_law_marks", "_law_typed", "_law_found", "_law_at", "_law_sign"]
theorem sc_y_clusters : FnScope n_y_clusters ["_law_marks", "_law_typed"] (defScope s_y_clusters) := ⟨rfl, rfl, rfl, by decide +kernel, rfl, by decide +kernel, by decide +kernel⟩
abbrev s_y_shown_places : Stmt := topS 47
abbrev n_y_shown_places : List Str := ["_law_marks", "_law_typed", "_law_found", "_law_begin", "_law_end", "_law_rank", "_law_at"]
theorem sc_y_shown_places : FnScope n_y_shown_places ["_law_marks", "_law_typed"] (defScope s_y_shown_places) := ⟨rfl, rfl, rfl, by decide +kernel, rfl, by decide +kernel, by decide +kernel⟩
abbrev s_y_whole : Stmt := topS 48
abbrev n_y_whole : List Str := ["_law_found"]
theorem sc_y_whole : FnScope n_y_whole ["_law_found"] (defScope s_y_whole) := ⟨rfl, rfl, rfl, by decide +kernel, rfl, by decide +kernel, by decide +kernel⟩
abbrev s_y_long : Stmt := topS 49
abbrev n_y_long : List Str := ["_law_well_here", "_law_signs", "_law_turn", "_law_k"]
theorem sc_y_long : FnScope n_y_long ["_law_well_here", "_law_signs"] (defScope s_y_long) := ⟨rfl, rfl, rfl, by decide +kernel, rfl, by decide +kernel, by decide +kernel⟩
abbrev s_y_right : Stmt := topS 50
abbrev n_y_right : List Str := ["_law_found", "_law_typed", "_law_due", "_law_at"]
theorem sc_y_right : FnScope n_y_right ["_law_found", "_law_typed", "_law_due"] (defScope s_y_right) := ⟨rfl, rfl, rfl, by decide +kernel, rfl, by decide +kernel, by decide +kernel⟩
abbrev s_Case_init : Stmt := inClass (topS 32) 0
abbrev n_Case_init : List Str := ["self", "ranks", "wide", "feet", "seats"]
theorem sc_Case_init : FnScope n_Case_init ["self", "ranks", "wide", "feet", "seats"] (defScope s_Case_init) := ⟨rfl, rfl, rfl, by decide +kernel, rfl, by decide +kernel, by decide +kernel⟩
abbrev s_Case_rank_of : Stmt := inClass (topS 32) 1
abbrev n_Case_rank_of : List Str := ["self", "sign"]
theorem sc_Case_rank_of : FnScope n_Case_rank_of ["self", "sign"] (defScope s_Case_rank_of) := ⟨rfl, rfl, rfl, by decide +kernel, rfl, by decide +kernel, by decide +kernel⟩
abbrev s_Case_is_base : Stmt := inClass (topS 32) 2
abbrev n_Case_is_base : List Str := ["self", "sign"]
theorem sc_Case_is_base : FnScope n_Case_is_base ["self", "sign"] (defScope s_Case_is_base) := ⟨rfl, rfl, rfl, by decide +kernel, rfl, by decide +kernel, by decide +kernel⟩
abbrev s_Case_len : Stmt := inClass (topS 32) 7
abbrev n_Case_len : List Str := ["self"]
theorem sc_Case_len : FnScope n_Case_len ["self"] (defScope s_Case_len) := ⟨rfl, rfl, rfl, by decide +kernel, rfl, by decide +kernel, by decide +kernel⟩
abbrev s_Case_eq : Stmt := inClass (topS 32) 8
abbrev n_Case_eq : List Str := ["self", "other"]
theorem sc_Case_eq : FnScope n_Case_eq ["self", "other"] (defScope s_Case_eq) := ⟨rfl, rfl, rfl, by decide +kernel, rfl, by decide +kernel, by decide +kernel⟩
abbrev s_Case_str : Stmt := inClass (topS 32) 9
abbrev n_Case_str : List Str := ["self", "sign"]
theorem sc_Case_str : FnScope n_Case_str ["self"] (defScope s_Case_str) := ⟨rfl, rfl, rfl, by decide +kernel, rfl, by decide +kernel, by decide +kernel⟩
abbrev s_y_law : Stmt := topS 51
abbrev n_y_law : List Str := ["_law_script", "_law_number", "_law_cell", "_law_well_here", "_law_signs", "_law_marks", "_law_one", "_law_words", "_law_typed", "_law_due", "_law_found", "_law_k"]
theorem sc_y_law : FnScope n_y_law ["_law_script"] (defScope s_y_law) := ⟨rfl, rfl, rfl, by decide +kernel, rfl, by decide +kernel, by decide +kernel⟩
structure Env (K : PySem.W.Frag) (mg : Str → Option Value) (base : Heap) : Type where
  f_is_whole : Addr
  d_is_whole : FuncData
  c_is_whole : Addr
  F_is_whole : FunC K "is_whole" "is_whole" s_is_whole [] f_is_whole d_is_whole c_is_whole
  g_is_whole : mg "is_whole" = some (.ref f_is_whole)
  b_is_whole : Binds K d_is_whole ["thing"] []
  f_is_within : Addr
  d_is_within : FuncData
  c_is_within : Addr
  F_is_within : FunC K "is_within" "is_within" s_is_within [] f_is_within d_is_within c_is_within
  g_is_within : mg "is_within" = some (.ref f_is_within)
  b_is_within : Binds K d_is_within ["thing", "least", "most"] []
  f_is_sign : Addr
  d_is_sign : FuncData
  c_is_sign : Addr
  F_is_sign : FunC K "is_sign" "is_sign" s_is_sign [] f_is_sign d_is_sign c_is_sign
  g_is_sign : mg "is_sign" = some (.ref f_is_sign)
  b_is_sign : Binds K d_is_sign ["thing"] []
  f_is_text : Addr
  d_is_text : FuncData
  c_is_text : Addr
  F_is_text : FunC K "is_text" "is_text" s_is_text [] f_is_text d_is_text c_is_text
  g_is_text : mg "is_text" = some (.ref f_is_text)
  b_is_text : Binds K d_is_text ["thing"] []
  f_are_signs : Addr
  d_are_signs : FuncData
  c_are_signs : Addr
  F_are_signs : FunC K "are_signs" "are_signs" s_are_signs [] f_are_signs d_are_signs c_are_signs
  g_are_signs : mg "are_signs" = some (.ref f_are_signs)
  b_are_signs : Binds K d_are_signs ["thing", "least", "most"] []
  f_are_unlike_signs : Addr
  d_are_unlike_signs : FuncData
  c_are_unlike_signs : Addr
  F_are_unlike_signs : FunC K "are_unlike_signs" "are_unlike_signs" s_are_unlike_signs [] f_are_unlike_signs d_are_unlike_signs c_are_unlike_signs
  g_are_unlike_signs : mg "are_unlike_signs" = some (.ref f_are_unlike_signs)
  b_are_unlike_signs : Binds K d_are_unlike_signs ["thing", "most"] []
  f_want_letters : Addr
  d_want_letters : FuncData
  c_want_letters : Addr
  F_want_letters : FunC K "want_letters" "want_letters" s_want_letters [] f_want_letters d_want_letters c_want_letters
  g_want_letters : mg "want_letters" = some (.ref f_want_letters)
  b_want_letters : Binds K d_want_letters ["letters"] []
  f_want_word : Addr
  d_want_word : FuncData
  c_want_word : Addr
  F_want_word : FunC K "want_word" "want_word" s_want_word [.non] f_want_word d_want_word c_want_word
  g_want_word : mg "want_word" = some (.ref f_want_word)
  b1_want_word : ∃ ds, Vals ([.non] : List V) ds ∧ Binds K d_want_word ["word", "letters"] ds
  b2_want_word : ∃ ds, Vals ([] : List V) ds ∧ Binds K d_want_word ["word", "letters"] ds
  f_pairs_of : Addr
  d_pairs_of : FuncData
  c_pairs_of : Addr
  F_pairs_of : FunC K "pairs_of" "pairs_of" s_pairs_of [] f_pairs_of d_pairs_of c_pairs_of
  g_pairs_of : mg "pairs_of" = some (.ref f_pairs_of)
  b_pairs_of : Binds K d_pairs_of ["table", "what"] []
  f_is_point : Addr
  d_is_point : FuncData
  c_is_point : Addr
  F_is_point : FunC K "is_point" "is_point" s_is_point [] f_is_point d_is_point c_is_point
  g_is_point : mg "is_point" = some (.ref f_is_point)
  b_is_point : Binds K d_is_point ["thing"] []
  f_is_hung_by : Addr
  d_is_hung_by : FuncData
  c_is_hung_by : Addr
  F_is_hung_by : FunC K "is_hung_by" "is_hung_by" s_is_hung_by [] f_is_hung_by d_is_hung_by c_is_hung_by
  g_is_hung_by : mg "is_hung_by" = some (.ref f_is_hung_by)
  b_is_hung_by : Binds K d_is_hung_by ["sign", "ranks"] []
  f_is_seat_key : Addr
  d_is_seat_key : FuncData
  c_is_seat_key : Addr
  F_is_seat_key : FunC K "is_seat_key" "is_seat_key" s_is_seat_key [] f_is_seat_key d_is_seat_key c_is_seat_key
  g_is_seat_key : mg "is_seat_key" = some (.ref f_is_seat_key)
  b_is_seat_key : Binds K d_is_seat_key ["thing"] []
  f_kept_ranks : Addr
  d_kept_ranks : FuncData
  c_kept_ranks : Addr
  F_kept_ranks : FunC K "kept_ranks" "kept_ranks" s_kept_ranks [] f_kept_ranks d_kept_ranks c_kept_ranks
  g_kept_ranks : mg "kept_ranks" = some (.ref f_kept_ranks)
  b_kept_ranks : Binds K d_kept_ranks ["ranks"] []
  f_kept_wide : Addr
  d_kept_wide : FuncData
  c_kept_wide : Addr
  F_kept_wide : FunC K "kept_wide" "kept_wide" s_kept_wide [] f_kept_wide d_kept_wide c_kept_wide
  g_kept_wide : mg "kept_wide" = some (.ref f_kept_wide)
  b_kept_wide : Binds K d_kept_wide ["wide", "ranks"] []
  f_kept_feet : Addr
  d_kept_feet : FuncData
  c_kept_feet : Addr
  F_kept_feet : FunC K "kept_feet" "kept_feet" s_kept_feet [] f_kept_feet d_kept_feet c_kept_feet
  g_kept_feet : mg "kept_feet" = some (.ref f_kept_feet)
  b_kept_feet : Binds K d_kept_feet ["feet", "ranks"] []
  f_kept_seats : Addr
  d_kept_seats : FuncData
  c_kept_seats : Addr
  F_kept_seats : FunC K "kept_seats" "kept_seats" s_kept_seats [] f_kept_seats d_kept_seats c_kept_seats
  g_kept_seats : mg "kept_seats" = some (.ref f_kept_seats)
  b_kept_seats : Binds K d_kept_seats ["seats"] []
  f_clusters : Addr
  d_clusters : FuncData
  c_clusters : Addr
  F_clusters : FunC K "clusters" "clusters" s_clusters [] f_clusters d_clusters c_clusters
  g_clusters : mg "clusters" = some (.ref f_clusters)
  b_clusters : Binds K d_clusters ["case", "word"] []
  f_ordered_height : Addr
  d_ordered_height : FuncData
  c_ordered_height : Addr
  F_ordered_height : FunC K "ordered_height" "ordered_height" s_ordered_height [] f_ordered_height d_ordered_height c_ordered_height
  g_ordered_height : mg "ordered_height" = some (.ref f_ordered_height)
  b_ordered_height : Binds K d_ordered_height ["case", "sign"] []
  f_places_by : Addr
  d_places_by : FuncData
  c_places_by : Addr
  F_places_by : FunC K "places_by" "places_by" s_places_by [] f_places_by d_places_by c_places_by
  g_places_by : mg "places_by" = some (.ref f_places_by)
  b_places_by : Binds K d_places_by ["case", "word", "height"] []
  f_text_at : Addr
  d_text_at : FuncData
  c_text_at : Addr
  F_text_at : FunC K "text_at" "text_at" s_text_at [] f_text_at d_text_at c_text_at
  g_text_at : mg "text_at" = some (.ref f_text_at)
  b_text_at : Binds K d_text_at ["word", "places"] []
  f_ordered : Addr
  d_ordered : FuncData
  c_ordered : Addr
  F_ordered : FunC K "ordered" "ordered" s_ordered [] f_ordered d_ordered c_ordered
  g_ordered : mg "ordered" = some (.ref f_ordered)
  b_ordered : Binds K d_ordered ["case", "word"] []
  kw_ordered_0_word_case : ∃ its : List Value, KBn K d_ordered ["case", "word"] 0 ["word", "case"] (fun us ws => pickL [1, 0] (us ++ (its ++ ws))) (fun vs zs => pickL [1, 0] (vs ++ ([] ++ zs)))
  f_y_mixed : Addr
  d_y_mixed : FuncData
  c_y_mixed : Addr
  F_y_mixed : FunC K "_law_mixed" "_law_mixed" s_y_mixed [] f_y_mixed d_y_mixed c_y_mixed
  g_y_mixed : mg "_law_mixed" = some (.ref f_y_mixed)
  b_y_mixed : Binds K d_y_mixed ["_law_cell", "_law_k"] []
  f_y_well : Addr
  d_y_well : FuncData
  c_y_well : Addr
  F_y_well : FunC K "_law_well" "_law_well" s_y_well [] f_y_well d_y_well c_y_well
  g_y_well : mg "_law_well" = some (.ref f_y_well)
  b_y_well : Binds K d_y_well ["_law_cell"] []
  f_y_draw : Addr
  d_y_draw : FuncData
  c_y_draw : Addr
  F_y_draw : FunC K "_law_draw" "_law_draw" s_y_draw [] f_y_draw d_y_draw c_y_draw
  g_y_draw : mg "_law_draw" = some (.ref f_y_draw)
  b_y_draw : Binds K d_y_draw ["_law_well_here", "_law_many"] []
  f_y_unlike : Addr
  d_y_unlike : FuncData
  c_y_unlike : Addr
  F_y_unlike : FunC K "_law_unlike" "_law_unlike" s_y_unlike [] f_y_unlike d_y_unlike c_y_unlike
  g_y_unlike : mg "_law_unlike" = some (.ref f_y_unlike)
  b_y_unlike : Binds K d_y_unlike ["_law_well_here", "_law_many"] []
  f_y_ranks : Addr
  d_y_ranks : FuncData
  c_y_ranks : Addr
  F_y_ranks : FunC K "_law_ranks" "_law_ranks" s_y_ranks [] f_y_ranks d_y_ranks c_y_ranks
  g_y_ranks : mg "_law_ranks" = some (.ref f_y_ranks)
  b_y_ranks : Binds K d_y_ranks ["_law_well_here", "_law_signs"] []
  f_y_word : Addr
  d_y_word : FuncData
  c_y_word : Addr
  F_y_word : FunC K "_law_word" "_law_word" s_y_word [] f_y_word d_y_word c_y_word
  g_y_word : mg "_law_word" = some (.ref f_y_word)
  b_y_word : Binds K d_y_word ["_law_well_here", "_law_signs", "_law_most"] []
  f_y_clusters : Addr
  d_y_clusters : FuncData
  c_y_clusters : Addr
  F_y_clusters : FunC K "_law_clusters" "_law_clusters" s_y_clusters [] f_y_clusters d_y_clusters c_y_clusters
  g_y_clusters : mg "_law_clusters" = some (.ref f_y_clusters)
  b_y_clusters : Binds K d_y_clusters ["_law_marks", "_law_typed"] []
  f_y_shown_places : Addr
  d_y_shown_places : FuncData
  c_y_shown_places : Addr
  F_y_shown_places : FunC K "_law_shown_places" "_law_shown_places" s_y_shown_places [] f_y_shown_places d_y_shown_places c_y_shown_places
  g_y_shown_places : mg "_law_shown_places" = some (.ref f_y_shown_places)
  b_y_shown_places : Binds K d_y_shown_places ["_law_marks", "_law_typed"] []
  f_y_whole : Addr
  d_y_whole : FuncData
  c_y_whole : Addr
  F_y_whole : FunC K "_law_whole" "_law_whole" s_y_whole [] f_y_whole d_y_whole c_y_whole
  g_y_whole : mg "_law_whole" = some (.ref f_y_whole)
  b_y_whole : Binds K d_y_whole ["_law_found"] []
  f_y_long : Addr
  d_y_long : FuncData
  c_y_long : Addr
  F_y_long : FunC K "_law_long" "_law_long" s_y_long [] f_y_long d_y_long c_y_long
  g_y_long : mg "_law_long" = some (.ref f_y_long)
  b_y_long : Binds K d_y_long ["_law_well_here", "_law_signs"] []
  f_y_right : Addr
  d_y_right : FuncData
  c_y_right : Addr
  F_y_right : FunC K "_law_right" "_law_right" s_y_right [] f_y_right d_y_right c_y_right
  g_y_right : mg "_law_right" = some (.ref f_y_right)
  b_y_right : Binds K d_y_right ["_law_found", "_law_typed", "_law_due"] []
  f_Case_init : Addr
  d_Case_init : FuncData
  c_Case_init : Addr
  F_Case_init : FunC K "__init__" "Case.__init__" s_Case_init [.non, .non, .non, .non] f_Case_init d_Case_init c_Case_init
  b1_Case_init : ∃ ds, Vals ([.non, .non, .non, .non] : List V) ds ∧ Binds K d_Case_init ["self", "ranks", "wide", "feet", "seats"] ds
  b2_Case_init : ∃ ds, Vals ([.non, .non, .non] : List V) ds ∧ Binds K d_Case_init ["self", "ranks", "wide", "feet", "seats"] ds
  b3_Case_init : ∃ ds, Vals ([.non, .non] : List V) ds ∧ Binds K d_Case_init ["self", "ranks", "wide", "feet", "seats"] ds
  b4_Case_init : ∃ ds, Vals ([.non] : List V) ds ∧ Binds K d_Case_init ["self", "ranks", "wide", "feet", "seats"] ds
  b5_Case_init : ∃ ds, Vals ([] : List V) ds ∧ Binds K d_Case_init ["self", "ranks", "wide", "feet", "seats"] ds
  kw_Case_init_1_ranks : ∃ its : List Value, KBn K d_Case_init ["self", "ranks", "wide", "feet", "seats"] 1 ["ranks"] (fun us ws => pickL [0, 5, 2, 3, 4] (us ++ (its ++ ws))) (fun vs zs => pickL [0, 5, 2, 3, 4] (vs ++ ([.non, .non, .non, .non] ++ zs)))
  f_Case_rank_of : Addr
  d_Case_rank_of : FuncData
  c_Case_rank_of : Addr
  F_Case_rank_of : FunC K "rank_of" "Case.rank_of" s_Case_rank_of [] f_Case_rank_of d_Case_rank_of c_Case_rank_of
  b_Case_rank_of : Binds K d_Case_rank_of ["self", "sign"] []
  f_Case_is_base : Addr
  d_Case_is_base : FuncData
  c_Case_is_base : Addr
  F_Case_is_base : FunC K "is_base" "Case.is_base" s_Case_is_base [] f_Case_is_base d_Case_is_base c_Case_is_base
  b_Case_is_base : Binds K d_Case_is_base ["self", "sign"] []
  f_Case_len : Addr
  d_Case_len : FuncData
  c_Case_len : Addr
  F_Case_len : FunC K "__len__" "Case.__len__" s_Case_len [] f_Case_len d_Case_len c_Case_len
  b_Case_len : Binds K d_Case_len ["self"] []
  f_Case_eq : Addr
  d_Case_eq : FuncData
  c_Case_eq : Addr
  F_Case_eq : FunC K "__eq__" "Case.__eq__" s_Case_eq [] f_Case_eq d_Case_eq c_Case_eq
  b_Case_eq : Binds K d_Case_eq ["self", "other"] []
  f_Case_str : Addr
  d_Case_str : FuncData
  c_Case_str : Addr
  F_Case_str : FunC K "__str__" "Case.__str__" s_Case_str [] f_Case_str d_Case_str c_Case_str
  b_Case_str : Binds K d_Case_str ["self"] []
  f_y_law : Addr
  d_y_law : FuncData
  c_y_law : Addr
  F_y_law : FunC K "law" "law" s_y_law [] f_y_law d_y_law c_y_law
  g_y_law : mg "law" = some (.ref f_y_law)
  b_y_law : Binds K d_y_law ["_law_script"] []
  t_SIGNS : Tok
  v_SIGNS : mg "SIGNS" = some (.str "ABCDEFGHIJKLMNOPQRSTUVWXYZabcdefghijklmnopqrstuvwxyz" t_SIGNS)
  t_MOST_LETTERS : Tok
  v_MOST_LETTERS : mg "MOST_LETTERS" = some (.int 16 t_MOST_LETTERS)
  t_HIGHEST_RANK : Tok
  v_HIGHEST_RANK : mg "HIGHEST_RANK" = some (.int 9 t_HIGHEST_RANK)
  t_WIDEST : Tok
  v_WIDEST : mg "WIDEST" = some (.int 1000 t_WIDEST)
  t_USUAL_WIDTH : Tok
  v_USUAL_WIDTH : mg "USUAL_WIDTH" = some (.int 500 t_USUAL_WIDTH)
  t_FARTHEST : Tok
  v_FARTHEST : mg "FARTHEST" = some (.int 1000 t_FARTHEST)
  C_Case : Addr
  g_Case : mg "Case" = some (.ref C_Case)
  cl_Case : Cls K C_Case
  na_Case_ranks : NoAttr K C_Case "_ranks"
  na_Case_wide : NoAttr K C_Case "_wide"
  na_Case_feet : NoAttr K C_Case "_feet"
  na_Case_seats : NoAttr K C_Case "_seats"
  M_Case : Mk K C_Case f_Case_init
  m_Case_rank_of : Meth K C_Case "rank_of" f_Case_rank_of
  m_Case_is_base : Meth K C_Case "is_base" f_Case_is_base
  m_Case_len : Meth K C_Case "__len__" f_Case_len
  m_Case_eq : Meth K C_Case "__eq__" f_Case_eq
  m_Case_str : Meth K C_Case "__str__" f_Case_str
  oc_Case : OwnC K C_Case
  C_NoWord : Addr
  I_NoWord : Addr
  X_NoWord : PySem.Sx.Txt prg K mg "NoWord" "at" C_NoWord I_NoWord
  C_NoRule : Addr
  I_NoRule : Addr
  X_NoRule : PySem.Sx.Txt prg K mg "NoRule" "what" C_NoRule I_NoRule
  C_NoCase : Addr
  I_NoCase : Addr
  X_NoCase : PySem.Sx.Txt prg K mg "NoCase" "what" C_NoCase I_NoCase
  C_SeamError : Addr
  v_SeamError : mg "SeamError" = some (.ref C_SeamError)
  m_NoWord_SeamError : PySem.W.exmOne K (.ref C_NoWord) (.ref C_SeamError) = some true
  m_NoWord_NoRule : PySem.W.exmOne K (.ref C_NoWord) (.ref C_NoRule) = some false
  m_NoWord_NoCase : PySem.W.exmOne K (.ref C_NoWord) (.ref C_NoCase) = some false
  m_NoRule_SeamError : PySem.W.exmOne K (.ref C_NoRule) (.ref C_SeamError) = some true
  m_NoRule_NoWord : PySem.W.exmOne K (.ref C_NoRule) (.ref C_NoWord) = some false
  m_NoRule_NoCase : PySem.W.exmOne K (.ref C_NoRule) (.ref C_NoCase) = some false
  m_NoCase_SeamError : PySem.W.exmOne K (.ref C_NoCase) (.ref C_SeamError) = some true
  m_NoCase_NoWord : PySem.W.exmOne K (.ref C_NoCase) (.ref C_NoWord) = some false
  m_NoCase_NoRule : PySem.W.exmOne K (.ref C_NoCase) (.ref C_NoRule) = some false
  z_ValueError : mg "ValueError" = none
  z_all : mg "all" = none
  z_bool : mg "bool" = none
  z_dict : mg "dict" = none
  z_enumerate : mg "enumerate" = none
  z_int : mg "int" = none
  z_isinstance : mg "isinstance" = none
  z_len : mg "len" = none
  z_list : mg "list" = none
  z_range : mg "range" = none
  z_set : mg "set" = none
  z_sorted : mg "sorted" = none
  z_str : mg "str" = none
  z_tuple : mg "tuple" = none
  z_zip : mg "zip" = none
variable {w : World} {K : PySem.W.Frag} {mg : Str → Option Value} {base : Heap}
abbrev P : Program := prg
abbrev Env.TL (T : Env K mg base) : List (Addr × Str) := []

local macro_rules | `(tactic| walk_at "d") => `(tactic| simp only [startD, List.map_cons, List.map_nil, List.cons_append, List.nil_append, List.length_cons, List.length_nil, Nat.sub_self, Nat.zero_add, Nat.reduceAdd, Nat.reduceSub, List.replicate_zero, List.replicate_succ, List.append_nil, List.getElem?_cons_zero, List.getElem?_cons_succ, List.getElem?_nil, List.set_cons_zero, List.set_cons_succ, List.set_nil,
  dVar, dC, dOp, dB, dChain, gI, gI0, gS, gIn, gEq, gIsN, gBB, gCat, gRep, dAnd, dOr, dNot, dAndV, dOrV, dNotV, dIfE, dTru, dNil, dCons, dTup, dLst, dLstC, dFz, gIxL, gIxT, gIxS, dNoPart, dPart, dSlice, gSlL, gSlLC, gSlS, dRevL,
  dCB, gLenS, gLenL, gAll, gAny, gMax2, gMin2, gInt1, gAbs, gList, gListC, gSortT, gSum, gIsi, dLenSet, dM0, dM1, gStarts, gEnds, gAscii, gAlpha, gJoin, dIndex, dBM, dBM0, gAppend, gExtend, gClear, gPop,
  dFld, sNew, sOld, sNext_mk, sSeq_mk, sBreak_mk, sCont_mk, sDrop_mk, sRet_mk, sRetN_mk, sIf, sNever, sFz, Dl.gName, Dl.gNil, Dl.gCons, Dl.gTup, sAsg_mk, gSet, gSub', sPar, sAug, sAugD, iL, iT, iS, iR1, iR2, iEn, iEs, iZp, iZs, sFor, dYes, lcStep, dLc, dLcC, wipeD,
  dCall, dMeth, dMake, sRaise, gEqD, gScr, gCatC, gRepC, gIsiO, gEqO, gJoin, dNeg, gMulS, gInL, dRevS, dFmt, gEqR, gStrO, dJs,
  mup_same, mup_mup, atI_zero, atI_one, atI_two, Option.getD_some, Option.getD_none, if_true, if_false, Bool.false_eq_true, cond_true, cond_false, ite_true, ite_false, Bool.not_true, Bool.not_false, true_and, and_true, decide_true, decide_false, reduceCtorEq, Option.some.injEq, List.append_assoc, exists_const,
  rd_non', tyN_non, isN_non, isS_non, keeps_non, rd_bl', tyN_bl, isN_bl, isS_bl, keeps_bl, rd_int', tyN_int, isN_int, isS_int, keeps_int, rd_str', tyN_str, isN_str, isS_str, keeps_str, rd_ty', tyN_ty, isN_ty, isS_ty, keeps_ty, tyN_ref, isN_ref, isS_ref, rd_lst', tyN_lst, isN_lst, isS_lst, keeps_lst, rd_tup', tyN_tup, isN_tup, isS_tup, keeps_tup, rd_ins', tyN_ins, isN_ins, isS_ins, keeps_ins, rd_dK', tyN_dK, isN_dK, isS_dK, keeps_dK, rd_dT', tyN_dT, isN_dT, isS_dT, keeps_dT, rd_src', tyN_src, isN_src, isS_src, keeps_src, rd_scr', tyN_scr, isN_scr, isS_scr, keeps_scr, keeps_ref, yes_any, rd_ref_mup, toI_int, toB_bl, toS_str, toR_ref, toL_lst, toT_tup, toO_ins, one_one, two_two, insOf_ins, fld_ins, optK_some, eqF_non_non, eqF_non_int, eqF_non_bl, eqF_non_str, eqF_int_non, eqF_int_int, eqF_int_str, eqF_bl_non, eqF_bl_bl, eqF_bl_str, eqF_str_non, eqF_str_int, eqF_str_bl, eqF_str_str, tru_non, tru_bl, tru_int, tru_str, tru_lst, tru_tup, flatD_non, flatD_bl, flatD_int, flatD_str, flatD_lst, flatD_tup, kit_NoneType_str, kit_NoneType_int, kit_NoneType_list, kit_NoneType_tuple, kit_NoneType_dict, kit_NoneType_bool, kit_bool_str, kit_bool_int, kit_bool_list, kit_bool_tuple, kit_bool_dict, kit_bool_bool, kit_int_str, kit_int_int, kit_int_list, kit_int_tuple, kit_int_dict, kit_int_bool, kit_str_str, kit_str_int, kit_str_list, kit_str_tuple, kit_str_dict, kit_str_bool, kit_list_str, kit_list_int, kit_list_list, kit_list_tuple, kit_list_dict, kit_list_bool, kit_tuple_str, kit_tuple_int, kit_tuple_list, kit_tuple_tuple, kit_tuple_dict, kit_tuple_bool, kit_dict_str, kit_dict_int, kit_dict_list, kit_dict_tuple, kit_dict_dict, kit_dict_bool, cel_mup, isC_mup, dFz_mup])
local macro_rules | `(tactic| walk_at "t") => `(tactic| (rw [sSeq_mk, sAsg_mk, dVar]; simp only [List.getElem?_cons_zero, List.getElem?_cons_succ]; refine ⟨rfl, ?_⟩; (repeat rw [Dl.gCons, Dl.gName]); simp only [List.set_cons_succ, List.set_cons_zero]; refine ⟨rfl, ?_⟩; rw [sSeq_mk]))
local macro_rules | `(tactic| walk_at "s") => `(tactic| simp only [startD, List.map_cons, List.map_nil, List.cons_append, List.nil_append, List.length_cons, List.length_nil, Nat.reduceAdd, Nat.reduceSub, List.replicate_succ, List.replicate_zero, List.append_nil])
local macro_rules | `(tactic| walk_at "c") => `(tactic| simp only [dCall, dCons, dNil, dVar, dC, List.getElem?_cons_zero, List.getElem?_cons_succ, List.cons_append, List.nil_append, List.append_nil])
local macro_rules | `(tactic| walk_at "n") => `(tactic| (simp only [Dl.gName, List.set_cons_succ, List.set_cons_zero]; rw [sSeq_mk]))
local macro_rules | `(tactic| walk_at "e") => `(tactic| simp only [dAnd, dOr, dB, dTru, dOp, dNot, gEq, gEqD, gI0, gI, gIn, dCB, gLenS, gLenL, gInt1, gMulS, gIxL, gIxS, gCat, gS, dSlice, gSlL, gSlS, dNoPart, dPart, dLst, dTup, dCall, dCons, dNil, dVar, dC, one_one, rd_lst', toL_lst, toI_int, toS_str, toB_bl, List.getElem?_cons_zero, List.getElem?_cons_succ, List.length_map, List.cons_append, List.nil_append, List.append_nil, eqF_int_int, eqF_str_str, cond_true, cond_false, sRet_mk, sNext_mk, List.length_cons, List.length_nil, Nat.zero_add, Nat.reduceAdd, Bool.false_eq_true, if_false, if_true])
local macro_rules | `(tactic| walk_at "t2") => `(tactic| (rw [sAsg_mk, dVar]; simp only [List.getElem?_cons_zero, List.getElem?_cons_succ]; refine ⟨rfl, ?_⟩; (repeat rw [Dl.gCons, Dl.gName]); simp only [List.set_cons_succ, List.set_cons_zero]; refine ⟨rfl, ?_⟩; rw [sSeq_mk]))
local macro_rules | `(tactic| walk_at "f") => `(tactic| simp only [dAnd, dOr, dB, dTru, dOp, dNot, gEq, gEqD, gI0, gI, gIn, dCB, gLenS, gLenL, gInt1, gMulS, gIxL, gIxS, gCat, gS, dSlice, gSlL, gSlS, dNoPart, dPart, dLst, dTup, dCall, dCons, dNil, dVar, dC, one_one, two_two, rd_lst', toL_lst, toI_int, toS_str, toB_bl, List.getElem?_cons_zero, List.getElem?_cons_succ, List.length_map, List.cons_append, List.nil_append, List.append_nil, eqF_int_int, eqF_str_str, cond_true, cond_false, sRet_mk, sNext_mk, List.length_cons, List.length_nil, Nat.zero_add, Nat.reduceAdd, Bool.false_eq_true, if_false, if_true, dMake, dFz, dFz_mup, dMeth, gStrO, gEqO, gEqR, gListC, dLc, iL, dRevS, keeps_lst, wipeD, atI_zero, atI_one, atI_two, dBM0, gClear, true_and, and_true])
local macro_rules | `(tactic| walk_at "w") => `(tactic| try walk_at "x")
local macro_rules | `(tactic| walk_at "x") => `(tactic| simp only [↓dVar_zero, ↓dVar_succ, ↓gName_zero, ↓gName_succ, ↓gEq_str, ↓gEq_int, ↓gLenL_lst, ↓wipe_nil, ↓Dl.gTup, ↓gCons_cons, ↓gNil_nil, ↓one_one, ↓two_two, ↓toI_int, ↓toB_bl, ↓toS_str, ↓toR_ref, ↓toL_lst, ↓toT_tup, ↓toO_ins, ↓fld_ins, ↓optK_some, ↓cond_true_p, ↓cond_false_p, ↓cel_mup, ↓rd_lst', ↓rd_str', ↓rd_int', ↓rd_bl', ↓rd_non', ↓rd_tup', ↓rd_ins', ↓atI_zero, ↓atI_one, ↓atI_two, ↓List.cons_append, ↓List.nil_append, ↓rd_ref_mup, ↓isO_ins, ↓isO_non, ↓isO_str, ↓isO_int, ↓isO_bl, ↓dC_p, ↓dOp_p, ↓dB_p, ↓dChain_p, ↓gI_p, ↓gI0_p, ↓gS_p, ↓gIn_p, ↓gIsN_p, ↓gBB_p, ↓gCat_p, ↓gRep_p, ↓dAnd_p, ↓dOr_p, ↓dNot_p, ↓dAndV_p, ↓dOrV_p, ↓dNotV_p, ↓dIfE_p, ↓dTru_p, ↓dNil_p, ↓dCons_p, ↓dTup_p, ↓dLst_p, ↓dLstC_p, ↓dFz_p, ↓gIxT_p, ↓gIxS_p, ↓dNoPart_p, ↓dPart_p, ↓dSlice_p, ↓gSlL_p, ↓gSlLC_p, ↓gSlS_p, ↓dRevL_p, ↓dCB_p, ↓gLenS_p, ↓gAll_p, ↓gAny_p, ↓gMax2_p, ↓gMin2_p, ↓gInt1_p, ↓gAbs_p, ↓gList_p, ↓gListC_p, ↓gSortT_p, ↓gSum_p, ↓gIsi_p, ↓dLenSet_p, ↓dM0_p, ↓dM1_p, ↓gStarts_p, ↓gEnds_p, ↓gAscii_p, ↓gAlpha_p, ↓gJoin, ↓dIndex_p, ↓dBM_p, ↓dBM0_p, ↓gAppend_p, ↓gExtend_p, ↓gClear_p, ↓gPop_p, ↓dFld_p, ↓sNew, ↓sOld, ↓sNext_mk, ↓sSeq_mk, ↓sBreak_mk, ↓sCont_mk, ↓sDrop_mk, ↓sRet_mk, ↓sRetN_mk, ↓sIf_p, ↓sNever_p, ↓sFz_p, ↓sAsg_mk, ↓gSet, ↓gSub'_p, ↓sPar_p, ↓sAug_p, ↓sAugD_p, ↓iL_p, ↓iT_p, ↓iS_p, ↓iR1_p, ↓iR2_p, ↓iEn_p, ↓iEs_p, ↓iZp_p, ↓iZs_p, ↓sFor_p, ↓dYes_p, ↓lcStep, ↓dLc_p, ↓dLcC_p, ↓dCall_p, ↓dMeth_p, ↓dMake_p, ↓sRaise_p, ↓gEqD_p, ↓gScr_p, ↓gCatC_p, ↓gRepC_p, ↓dNeg_p, ↓gMulS_p, ↓gInL, ↓dRevS_p, ↓gEqR_p, ↓gStrO_p, ↓dJs, ↓gIsiO_p, ↓gEqO_p, ↓gIxL_p, startD, List.map_cons, List.map_nil, List.length_cons, List.length_nil, Nat.sub_self, Nat.zero_add, Nat.reduceAdd, Nat.reduceSub, List.replicate_zero, List.replicate_succ, List.append_nil, List.getElem?_cons_zero, List.getElem?_cons_succ, List.getElem?_nil, List.set_cons_zero, List.set_cons_succ, List.set_nil, wipeD, dFmt, mup_same, mup_mup, Option.getD_some, Option.getD_none, if_true, if_false, Bool.false_eq_true, ite_true, ite_false, Bool.not_true, Bool.not_false, true_and, and_true, decide_true, decide_false, reduceCtorEq, Option.some.injEq, List.append_assoc, exists_const, tyN_non, isN_non, isS_non, keeps_non, tyN_bl, isN_bl, isS_bl, keeps_bl, tyN_int, isN_int, isS_int, keeps_int, tyN_str, isN_str, isS_str, keeps_str, rd_ty', tyN_ty, isN_ty, isS_ty, keeps_ty, tyN_ref, isS_ref, tyN_lst, isN_lst, isS_lst, keeps_lst, tyN_tup, isN_tup, isS_tup, keeps_tup, tyN_ins, isN_ins, isS_ins, keeps_ins, rd_dK', tyN_dK, isN_dK, isS_dK, keeps_dK, rd_dT', tyN_dT, isN_dT, isS_dT, keeps_dT, rd_src', tyN_src, isN_src, isS_src, keeps_src, rd_scr', tyN_scr, isN_scr, isS_scr, keeps_scr, keeps_ref, yes_any, insOf_ins, eqF_non_non, eqF_non_int, eqF_non_bl, eqF_non_str, eqF_int_non, eqF_int_int, eqF_int_str, eqF_bl_non, eqF_bl_bl, eqF_bl_str, eqF_str_non, eqF_str_int, eqF_str_bl, eqF_str_str, tru_non, tru_bl, tru_int, tru_str, tru_lst, tru_tup, flatD_non, flatD_bl, flatD_int, flatD_str, flatD_lst, flatD_tup, kit_NoneType_str, kit_NoneType_int, kit_NoneType_list, kit_NoneType_tuple, kit_NoneType_dict, kit_NoneType_bool, kit_bool_str, kit_bool_int, kit_bool_list, kit_bool_tuple, kit_bool_dict, kit_bool_bool, kit_int_str, kit_int_int, kit_int_list, kit_int_tuple, kit_int_dict, kit_int_bool, kit_str_str, kit_str_int, kit_str_list, kit_str_tuple, kit_str_dict, kit_str_bool, kit_list_str, kit_list_int, kit_list_list, kit_list_tuple, kit_list_dict, kit_list_bool, kit_tuple_str, kit_tuple_int, kit_tuple_list, kit_tuple_tuple, kit_tuple_dict, kit_tuple_bool, kit_dict_str, kit_dict_int, kit_dict_list, kit_dict_tuple, kit_dict_dict, kit_dict_bool, isC_mup, dFz_mup, ↓gEq_p, ↓sTry_p, ↓offD_some, ↓offD_none, ↓setD_some, ↓setD_none, ↓dExc_p, ↓dAsk_cons, ↓gLenO_p, ↓gMaxDf_p, ↓dTruGet_p, ↓dSortSc_p, ↓gSortI_p, ↓dLRg_p, ↓isO_lst, ↓isO_tup, ↓okO_ins, ↓okO_non, ↓okO_bl, ↓okO_int, ↓okO_str, ↓okO_lst, ↓okO_tup, ↓gEqL_p, ↓gNeL_p, ↓gEqX_p, ↓dDict0_p, ↓sDPutD_p, ↓dDc_p, ↓dDcC_p, ↓dcStep, ↓dLi_p, ↓gLenD_p, ↓dDGet1_p, ↓dDGet2_p, ↓dDGet_p, ↓gInD_p, ↓dkK_str, ↓dkK_int, ↓isDk_dk, ↓rd_dk', ↓asDk_dk, ↓tyN_dkD, ↓isN_dkD, ↓isS_dkD, ↓keyD_s, ↓keyD_i, ↓dLz_p, ↓sAugF_p, ↓dSw3_p, ↓dTupOf_p, ↓sDelL_p, ↓dLc2_p, ↓dSst_p, ↓dCallK0_p, ↓dMakeK0_p, ↓dNev_p, ↓dNevT_p, ↓dCallM_p, ↓gSortP_p, ↓pickL_nil, ↓pickL_cons, atD_look, List.isEmpty_cons, List.isEmpty_nil])
local macro_rules | `(tactic| walk_at "o") => `(tactic| first | omega | rfl | assumption | decide | (simp only [List.length_append, List.length_cons, List.length_nil, List.length_map, List.length_take, List.length_drop, List.length_replicate, List.length_reverse, List.length_flatten, List.length_zipIdx, List.length_range]; omega))
local macro_rules | `(tactic| walk_at "S") => `(tactic| repeat (refine And.intro (by walk_at "o") ?_))
local macro_rules | `(tactic| walk_at "a") => `(tactic| first | refine ⟨_, rfl, ?_⟩ | refine ⟨_, _, rfl, ?_⟩ | refine ⟨_, _, _, rfl, ?_⟩ | refine ⟨_, _, _, _, rfl, ?_⟩ | refine ⟨_, _, _, _, _, rfl, ?_⟩ | refine ⟨_, _, _, _, _, _, rfl, ?_⟩ | refine ⟨_, _, _, _, _, _, _, rfl, ?_⟩ | refine ⟨_, _, _, _, _, _, _, _, rfl, ?_⟩ | refine ⟨_, _, _, _, _, _, _, _, _, rfl, ?_⟩ | refine ⟨_, _, _, _, _, _, _, _, _, _, rfl, ?_⟩)
local macro_rules | `(tactic| walk_at "G") => `(tactic| repeat (first | walk_at "x" | walk_at "S1" | walk_at "a"))
local macro_rules | `(tactic| walk_at "S1") => `(tactic| refine And.intro (by walk_at "o") ?_)

/-! the draws, over the heap -/
def spMixedH : Sp := fun vs H Q _ => ∃ c k : Int, vs = [.int c, .int k] ∧ ∀ r : Int, 0 ≤ r → r < 2147483646 → Q (.int r) H
theorem okh_mixed (T : Env K mg base) : FnOk P w K mg base L2.CX0 1 T.f_y_mixed T.d_y_mixed ["_law_cell", "_law_k"] spMixedH := by
  refine T.F_y_mixed.ok sc_y_mixed (fun vs H Q E h => ?_) (fun A outer s H vs Q E hr h => ?_)
  · obtain ⟨c, k, rfl, _⟩ := h
    rfl
  · obtain ⟨c, k, rfl, q⟩ := h
    have nd := sc_y_mixed.nd
    refine ⟨_, pss_cons (ps_set (i := 2) nd rfl (.inl rfl) (pe_op op_modN (pe_op op_mul (pe_op op_add (pe_op op_modN (pv 0) pe_int) pe_int) (pe_op op_add (pe_op op_mul (pv 1) pe_int) pe_int)) pe_int))
      (pss_cons (ps_set (i := 2) nd rfl (.inl rfl) (pe_op op_modN (pe_op op_mul (pe_op op_add (pv 2) (pe_op op_mul (pe_op op_modN (pe_op op_fdivW (pv 0) pe_int) pe_int) (pe_op op_add (pv 1) pe_int))) pe_int) pe_int))
      (pss_cons (ps_set (i := 2) nd rfl (.inl rfl) (pe_op op_modN (pe_op op_mul (pv 2) (pe_op op_add (pe_op op_add (pe_op op_fdivN (pv 2) pe_int) pe_int) (pv 1))) pe_int))
      (pss_one (ps_ret (pe_op op_modN (pe_op op_mul (pv 2) (pe_op op_add (pe_op op_fdivN (pv 2) pe_int) pe_int)) pe_int))))), ?_⟩
    refine ⟨_, rfl, _, _, rfl, rfl, (by show (_ : Int) ≠ 0; decide), _, _, rfl, rfl, _, rfl, _, _, rfl, rfl, .inr ⟨by decide, by decide⟩, _, _, rfl, rfl, _, _, rfl, rfl, .inl ?b1, _, _, rfl, rfl, (by show (_ : Int) ≠ 0; decide), ?_⟩
    case b1 =>
      have := fm c (b := 2147483629) (by decide)
      omega
    refine ⟨_, rfl, _, rfl, _, _, rfl, rfl, ⟨by decide, by decide⟩, _, _, rfl, rfl, (by show (_ : Int) ≠ 0; decide), _, rfl, _, _, rfl, rfl, _, _, rfl, rfl, .inl ?b2, _, _, rfl, rfl, _, _, rfl, rfl, .inr ⟨by decide, by decide⟩, _, _, rfl, rfl, (by show (_ : Int) ≠ 0; decide), ?_⟩
    case b2 =>
      refine bnd0 _ ?_ ?_ <;> decide
    refine ⟨_, rfl, _, rfl, _, _, rfl, rfl, ⟨by decide, by decide⟩, _, _, rfl, rfl, _, rfl, _, _, rfl, rfl, _, _, rfl, rfl, .inl ?b3, _, _, rfl, rfl, (by show (_ : Int) ≠ 0; decide), ?_⟩
    case b3 =>
      refine bnd0 _ ?_ ?_ <;> decide
    refine ⟨_, rfl, _, rfl, _, _, rfl, rfl, ⟨by decide, by decide⟩, _, _, rfl, rfl, _, _, rfl, rfl, .inl ?b4, _, _, rfl, rfl, (by show (_ : Int) ≠ 0; decide), ?_⟩
    case b4 =>
      refine bnd0 _ ?_ ?_ <;> decide
    refine q _ (fm _ (by decide)).1 (Int.lt_of_lt_of_le (fm _ (by decide)).2 (by decide))
def spDrawH : Sp := fun vs H Q _ => ∃ (a : Addr) (m : Int), vs = [.ref a, .int m] ∧ Src H a ∧ 0 < m ∧ m < 1073741824 ∧ ∀ (r : Int) H', 0 ≤ r → r < m → Src H' a → But a H H' → Q (.int r) H'
theorem okh_draw (T : Env K mg base) : FnOk P w K mg base L2.CX0 2 T.f_y_draw T.d_y_draw ["_law_well_here", "_law_many"] spDrawH := by
  refine T.F_y_draw.ok sc_y_draw (fun vs H Q E h => ?_) (fun A outer s H vs Q E hr h => ?_)
  · obtain ⟨a, m, rfl, _⟩ := h
    rfl
  · obtain ⟨a, m, rfl, ⟨x, c, n, ha⟩, m0, m1, q⟩ := h
    have nd := sc_y_draw.nd
    have mz : m ≠ 0 := by omega
    refine ⟨_, pss_cons (ps_if (pt_cmpR op_gt (pe_ix ix_list (pv 0) pe_int (fun _ _ => rfl)) pe_int (nomark _))
        (pss_cons (ps_set (i := 2) nd rfl (.inl rfl) (pe_op op_modN (pe_ix ix_list (pv 0) pe_int (fun _ _ => rfl)) (pv 1)))
          (pss_cons (ps_asg (pe_op op_fdivN (pe_ix ix_list (pv 0) pe_int (fun _ _ => rfl)) (pv 1)) (pg_sub (pv 0) pe_int set_list)) (pss_one (ps_ret (pv 2))))) pss_nil)
      (pss_cons (ps_asg (pe_op op_add (pe_ix ix_list (pv 0) pe_int (fun _ _ => rfl)) pe_int) (pg_sub (pv 0) pe_int set_list))
      (pss_one (ps_ret (pe_op op_modN (pe_call (okh_mixed T) hr (by rfl) T.g_y_mixed T.F_y_mixed.kp T.b_y_mixed .nil pass0 (pa_cons (pe_ix ix_list (pv 0) pe_int (fun _ _ => rfl)) (pa_cons (pe_ix ix_list (pv 0) pe_int (fun _ _ => rfl)) pa_nil))) (pv 1))))), ?_⟩
    refine ⟨_, rfl, a, _, _, _, rfl, rfl, SqL.of ha, atI_nat (j := 0) rfl, _, _, rfl, rfl, _, rfl, ite2 (fun _ => ?_) (fun _ => ?_)⟩
    · refine ⟨_, rfl, a, _, _, _, rfl, rfl, SqL.of ha, atI_nat (j := 0) rfl, _, rfl, _, _, rfl, rfl, mz, ?_⟩
      refine ⟨_, rfl, a, _, _, _, rfl, rfl, SqL.of ha, atI_nat (j := 0) rfl, _, rfl, _, _, rfl, rfl, ⟨mz, by omega⟩, _, rfl, a, _, _, 0, rfl, rfl, ha, rfl, ?_⟩
      refine ⟨_, rfl, ?_⟩
      exact q _ _ (fm _ m0).1 (fm _ m0).2 ⟨_, _, _, upd_same⟩ But.upd
    · refine ⟨_, rfl, a, _, _, _, rfl, rfl, SqL.of ha, atI_nat (j := 2) rfl, _, _, rfl, rfl, _, rfl, a, _, _, 2, rfl, rfl, ha, rfl, ?_⟩
      refine ⟨_, rfl, a, _, _, _, rfl, rfl, SqL.of upd_same, atI_nat (j := 1) rfl, _, rfl, a, _, _, _, rfl, rfl, SqL.of upd_same, atI_nat (j := 2) rfl, ?_⟩
      refine ⟨_, _, rfl, fun r _ _ => ⟨_, rfl, _, _, rfl, rfl, mz, ?_⟩⟩
      exact q _ _ (fm _ m0).1 (fm _ m0).2 ⟨_, _, _, upd_same⟩ But.upd

/-! the draws, by data -/
theorem src_con {H : Hp} {μ : Mu} {a : Addr} (c : Cells K H μ) (m : μ a = some .src) : Ms.Src H a := by
  have q := (c a _ m).1
  cases q with | src x y z h => exact ⟨x, y, z, h⟩
theorem src_then {H H' : Hp} {μ : Mu} {a : Addr} (c : Cells K H μ) (m : μ a = some .src) (s : Ms.Src H' a) (b : Ms.But a H H') : Then K H μ H' μ := by
  have g : Grow H μ H' μ := ⟨fun x o h n e => ⟨b x o (fun z => by rw [z, m] at e; cases e) h, e⟩⟩
  refine ⟨g, fun x d e => ?_⟩
  by_cases h : x = a
  · subst h
    rw [m] at e
    cases e
    obtain ⟨x', y', z', q⟩ := s
    exact ⟨.src x' y' z' q, fun o' u z => by rw [q] at z; cases z⟩
  · exact ⟨(c x d e).1.stay g fun o q => b x o h q, (c x d e).2.keep (c x d e).1 fun o q => b x o h q⟩
def spWell0 : DSp := fun ds μ Q _ => ∃ c : Int, ds = [.int c] ∧ ∀ p x y z, μ p = none → Q (.ref p) (mup μ p (.lst [.int x, .int y, .int z]))
theorem src_by {K : PySem.W.Frag} {H H' : Hp} {μ : Mu} {p : Addr} {x y z : Int} (hp : μ p = none) (t : Then K H μ H' (mup μ p (.lst [.int x, .int y, .int z]))) : Then K H μ H' (mup μ p .src) := by
  obtain ⟨g, c⟩ := t
  have nn : ∀ {a : Addr}, mup μ p (.lst [.int x, .int y, .int z]) a = none → mup μ p .src a = none := fun {a} h => by
    have ne : a ≠ p := fun w => by rw [w, mup_same] at h; cases h
    rw [mup_ne ne] at h ⊢
    exact h
  refine ⟨⟨fun a o h n m => ⟨(g.keep a o h n m).1, nn (g.keep a o h n m).2⟩⟩, fun a d e => ?_⟩
  have g' : Grow H' (mup μ p (.lst [.int x, .int y, .int z])) H' (mup μ p .src) := ⟨fun a o h _ m => ⟨h, nn m⟩⟩
  by_cases ha : a = p
  · subst ha
    rw [mup_same] at e
    cases e
    obtain ⟨c1, c2⟩ := c a _ mup_same
    refine ⟨?_, c2⟩
    cases c1 with
    | lst h r =>
      obtain ⟨v, vs, rfl, r1, r⟩ := r.cons_inv
      obtain ⟨v2, vs, rfl, r2, r⟩ := r.cons_inv
      obtain ⟨v3, vs, rfl, r3, r⟩ := r.cons_inv
      rw [r.nil_inv, r1.int_inv, r2.int_inv, r3.int_inv] at h
      exact .src x y z h
  · rw [mup_ne ha] at e
    obtain ⟨c1, c2⟩ := c a d (by rw [mup_ne ha]; exact e)
    exact ⟨c1.stay g' fun _ h => h, c2⟩
theorem okw_y_well (T : Env K mg base) : FnOk P w K mg base L2.CX0 3 T.f_y_well T.d_y_well ["_law_cell"] (lift K spWell0) := by
  refine fn_n T.F_y_well sc_y_well (fun ds μ Q E h => ?_) (fun A outer s H E hr => ⟨_, _, (dss_one (ds_ret (de_lstC (da_cons (de_op o_mul (de_var (pv 0)) (de_callTy c_int1 (by rfl) T.z_int (by rfl) (da_cons (de_cmp o_ge (de_var (pv 0)) (de_op o_pow de_int de_int) (nomark _)) da_nil))) (da_cons (de_var (pv 0)) (da_cons de_int da_nil)))))), ?_⟩)
  · obtain ⟨c, rfl, _⟩ := h
    rfl
  · rintro ds μ Q E ⟨c, rfl, q⟩
    walk_at "w"
    refine ⟨⟨by decide, by decide, by decide⟩, .inr (by split <;> decide), by decide, fun p hp => q p _ _ _ hp⟩
def spSource : DSp := fun ds μ Q _ => ∃ c : Int, ds = [.int c] ∧ ∀ p, μ p = none → Q (.ref p) (mup μ p .src)
theorem ok_y_well (T : Env K mg base) : FnOk P w K mg base L2.CX0 3 T.f_y_well T.d_y_well ["_law_cell"] (lift K spSource) :=
  (okw_y_well T).imp fun vs H Q E h => by
    obtain ⟨ds, μ, Q', E', r, c, ⟨i, rfl, q⟩, qr, er⟩ := h
    refine ⟨_, μ, fun d μ' => ∃ p x y z, d = .ref p ∧ μ p = none ∧ μ' = mup μ p (.lst [.int x, .int y, .int z]), E', r, c, ⟨i, rfl, fun p x y z hp => ⟨p, x, y, z, rfl, hp, rfl⟩⟩, ?_, er⟩
    rintro v d H' μ' t r ⟨p, x, y, z, rfl, hp, rfl⟩
    exact qr _ _ _ _ (src_by hp t) (by rw [r.ref_inv]; exact .ref p) (q p hp)
def spDraw : DSp := fun ds μ Q _ => ∃ (a : Addr) (m : Int), ds = [.ref a, .int m] ∧ μ a = some .src ∧ 0 < m ∧ m < 1073741824 ∧ ∀ r : Int, 0 ≤ r → r < m → Q (.int r) μ
theorem ok_y_draw (T : Env K mg base) : FnOk P w K mg base L2.CX0 2 T.f_y_draw T.d_y_draw ["_law_well_here", "_law_many"] (lift K spDraw) :=
  (okh_draw T).imp fun vs H Q E h => by
    obtain ⟨ds, μ, Q', E', r, c, ⟨a, m, rfl, hm, h0, h1, q⟩, qr, _⟩ := h
    obtain ⟨v, w, rfl, r0, r1⟩ := r.inv2
    exact ⟨a, m, by rw [r0.ref_inv, r1.int_inv], src_con c hm, h0, h1, fun r H' l0 l1 s b => qr _ _ _ _ (src_then c hm s b) (.int r) (q r l0 l1)⟩

/-! signs, by data -/
abbrev SG : List Nat := "ABCDEFGHIJKLMNOPQRSTUVWXYZabcdefghijklmnopqrstuvwxyz".toList.map Char.toNat
theorem alpha_sg : ∀ c : Nat, c < 128 → (Unicode.isAlpha c = true ↔ c ∈ SG) := by
  have h : ∀ c ∈ List.range 128, (Unicode.isAlpha c = decide (c ∈ SG)) := by decide +kernel
  intro c hc
  rw [h c (List.mem_range.mpr hc), decide_eq_true_iff]
theorem ascii_iff (z : List Nat) : Txt.isascii (ofL z) = true ↔ ∀ c ∈ z, c < 128 := by
  show z.toArray.all (fun c => decide (c < 128)) = true ↔ _
  rw [List.all_toArray, List.all_eq_true]
  exact ⟨fun h c hc => of_decide_eq_true (h c hc), fun h c hc => decide_eq_true (h c hc)⟩
theorem isalpha_iff (z : List Nat) : Txt.isalpha (ofL z) = true ↔ z ≠ [] ∧ ∀ c ∈ z, Unicode.isAlpha c = true := by
  show (decide ((ofL z).length > 0) && z.toArray.all Unicode.isAlpha) = true ↔ _
  rw [List.all_toArray, Bool.and_eq_true, List.all_eq_true, decide_eq_true_iff, ofL_len]
  refine ⟨fun ⟨a, b⟩ => ⟨fun e => by rw [e] at a; exact absurd a (by decide), b⟩, fun ⟨a, b⟩ => ⟨List.length_pos_iff.mpr a, b⟩⟩
theorem sg_small : ∀ c ∈ SG, c < 128 := by decide +kernel
theorem sgs_iff {z : List Nat} (h : z ≠ []) : (Txt.isascii (ofL z) = true ∧ Txt.isalpha (ofL z) = true) ↔ ∀ c ∈ z, c ∈ SG := by
  rw [ascii_iff, isalpha_iff]
  refine ⟨fun ⟨a, _, b⟩ c hc => (alpha_sg c (a c hc)).mp (b c hc), fun g => ⟨fun c hc => sg_small c (g c hc), h, fun c hc => (alpha_sg c (sg_small c (g c hc))).mpr (g c hc)⟩⟩
def allSG (l : List Nat) : Bool := l.all (fun c => decide (c ∈ SG))
theorem allSG_iff {l : List Nat} : allSG l = true ↔ ∀ c ∈ l, c ∈ SG := by
  unfold allSG
  rw [List.all_eq_true]
  exact ⟨fun h c hc => of_decide_eq_true (h c hc), fun h c hc => decide_eq_true (h c hc)⟩
/-- a thing that is asked for its kind: a text, or something else that has one -/
def Kd (μ : Mu) (d : D) : Prop := (∃ l, d = .str l ∧ l.length ≤ 4000) ∨ ∃ t, tyN (rd μ d) = some t ∧ kitB t "str" = some false ∧ isS d = false
theorem Kd.str {μ : Mu} {l : List Nat} (h : l.length ≤ 4000) : Kd μ (.str l) := .inl ⟨l, rfl, h⟩
def isTx : D → Bool
  | .str l => allSG l
  | _ => false
def spIsText : DSp := fun ds μ Q _ => ∃ d, ds = [d] ∧ Kd μ d ∧ Q (.bl (isTx d)) μ
theorem ok_is_text (T : Env K mg base) : FnOk P w K mg base L2.CX0 1 T.f_is_text T.d_is_text ["thing"] (lift K spIsText) := by
  refine fn_n T.F_is_text sc_is_text (fun ds μ Q E h => ?_) (fun A outer s H E hr => ⟨_, _, (dss_one (ds_ret (de_and (de_callB c_isi (by rfl) T.z_isinstance boot_isinstance (da_cons (de_var (pv 0)) (da_cons (de_c (pe_bltn (v := .ty "str") (by rfl) T.z_str PyProof.Rows.boot_str rfl) (fun _ _ => .ty _)) da_nil))) (de_one (de_or (de_cmp o_eq (de_var (pv 0)) (de_str [] (by rfl)) (nomark _)) (de_one (de_and (de_m0 PySem.F.slot_str_isascii PySem.F.type_str_isascii m_ascii (de_var (pv 0))) (de_one (de_m0 PySem.F.slot_str_isalpha PySem.F.type_str_isalpha m_alpha (de_var (pv 0))))))))))), ?_⟩)
  · obtain ⟨d, rfl, _⟩ := h
    rfl
  · rintro ds μ Q E ⟨d, rfl, ht, q⟩
    rcases ht with ⟨l, rfl, hl⟩ | ⟨t, h1, h2, h3⟩
    · walk_at "d"
      by_cases hl : l = []
      · subst hl
        exact q
      · rw [decide_eq_false hl, cond_false]
        have sg := sgs_iff hl
        cases ha : Txt.isascii (ofL l) with
        | false =>
          rw [cond_false]
          have : allSG l = false := by
            rw [← Bool.not_eq_true, allSG_iff]
            exact fun g => by rw [(sg.mpr g).1] at ha; cases ha
          unfold isTx at q
          simp only [this] at q
          exact q
        | true =>
          rw [cond_true]
          have : Txt.isalpha (ofL l) = allSG l := by
            rw [Bool.eq_iff_iff, allSG_iff, ← sg, ha]
            simp
          rw [this]
          exact q
    · walk_at "d"
      rw [h1]
      simp only [h2, cond_false]
      cases d <;> simp [isS] at h3 <;> exact q
def isAre (lo hi : Int) : D → Bool
  | .str l => allSG l && (decide (lo ≤ l.length) && decide ((l.length : Int) ≤ hi))
  | _ => false
theorem isAre_str {lo hi : Int} {l : List Nat} : isAre lo hi (.str l) = (allSG l && (decide (lo ≤ l.length) && decide ((l.length : Int) ≤ hi))) := rfl
def spAre : DSp := fun ds μ Q _ => ∃ d lo hi, ds = [d, .int lo, .int hi] ∧ Kd μ d ∧ Q (.bl (isAre lo hi d)) μ
theorem ok_are_signs (T : Env K mg base) : FnOk P w K mg base L2.CX0 2 T.f_are_signs T.d_are_signs ["thing", "least", "most"] (lift K spAre) := by
  refine fn_n T.F_are_signs sc_are_signs (fun ds μ Q E h => ?_) (fun A outer s H E hr => ⟨_, _, (dss_one (ds_ret (de_and (de_call (ok_is_text T) (hr.mono (by decide)) (by rfl) T.g_is_text T.F_is_text.kp T.b_is_text .nil (fun _ _ => .nil) passN (da_cons (de_var (pv 0)) da_nil)) (de_one (de_chain o_le o_le (de_var (pv 1)) (de_callB c_lenS (by rfl) T.z_len PySem.boot_len (da_cons (de_var (pv 0)) da_nil)) (de_var (pv 2))))))), ?_⟩)
  · obtain ⟨d, lo, hi, rfl, _⟩ := h
    rfl
  · rintro ds μ Q E ⟨d, lo, hi, rfl, ht, q⟩
    walk_at "d"
    refine ⟨d, rfl, ht, ?_⟩
    rcases ht with ⟨l, rfl, hl⟩ | ⟨t, h1, h2, h3⟩
    · walk_at "d"
      show bif allSG l then _ else _
      rw [isAre_str] at q
      cases ha : allSG l with
      | false => rw [ha] at q; exact q
      | true =>
        rw [ha] at q
        refine ⟨by omega, ?_⟩
        cases hb : decide (lo ≤ (l.length : Int)) <;> rw [hb] at q <;> exact q
    · cases d <;> simp [isS] at h3 <;> exact q
def isPlN (hi : Int) : D → Bool
  | .str l => isAre 1 hi (.str l) && decide l.Nodup
  | _ => false
theorem isPlN_str {hi : Int} {l : List Nat} : isPlN hi (.str l) = (isAre 1 hi (.str l) && decide l.Nodup) := rfl
def spUnlike : DSp := fun ds μ Q _ => ∃ d hi, ds = [d, .int hi] ∧ Kd μ d ∧ Q (.bl (isPlN hi d)) μ
theorem ok_are_unlike_signs (T : Env K mg base) : FnOk P w K mg base L2.CX0 3 T.f_are_unlike_signs T.d_are_unlike_signs ["thing", "most"] (lift K spUnlike) := by
  refine fn_n T.F_are_unlike_signs sc_are_unlike_signs (fun ds μ Q E h => ?_) (fun A outer s H E hr => ⟨_, _, (dss_one (ds_ret (de_and (de_call (ok_are_signs T) (hr.mono (by decide)) (by rfl) T.g_are_signs T.F_are_signs.kp T.b_are_signs .nil (fun _ _ => .nil) passN (da_cons (de_var (pv 0)) (da_cons de_int (da_cons (de_var (pv 1)) da_nil)))) (de_one (de_cmp o_eq (de_lenSet (by rfl) T.z_len (by rfl) T.z_set (de_var (pv 0))) (de_callB c_lenS (by rfl) T.z_len PySem.boot_len (da_cons (de_var (pv 0)) da_nil)) (nomark _)))))), ?_⟩)
  · obtain ⟨d, hi, rfl, _⟩ := h
    rfl
  · rintro ds μ Q E ⟨d, hi, rfl, ht, q⟩
    walk_at "d"
    refine ⟨d, 1, hi, rfl, ht, ?_⟩
    rcases ht with ⟨l, rfl, hl⟩ | ⟨t, h1, h2, h3⟩
    · walk_at "d"
      rw [isPlN_str] at q
      cases ha : isAre 1 hi (.str l) with
      | false => rw [ha] at q; exact q
      | true =>
        rw [ha] at q
        refine ⟨hl, fun m _ hm => ⟨by omega, ?_⟩⟩
        have e : decide ((m : Int) = (l.length : Int)) = decide l.Nodup := by
          rw [decide_eq_decide, ← hm]
          omega
        rw [e]
        exact q
    · cases d <;> simp [isS] at h3 <;> exact q

/-! words and letters wanted -/
abbrev isLt (d : D) : Bool := isPlN 16 d
def spWantL (X : Addr) : DSp := fun ds μ Q E => ∃ d, ds = [d] ∧ Kd μ d ∧ (if isLt d then Q .non μ else E X "what" (.str [108, 101, 116, 116, 101, 114, 115]) μ)
theorem ok_want_letters (T : Env K mg base) : FnOk P w K mg base (L2.CX P w) 6 T.f_want_letters T.d_want_letters ["letters"] (lift K (spWantL T.C_NoRule)) := by
  refine fn_x T.F_want_letters sc_want_letters (fun ds μ Q E h => ?len) (fun A outer s H E hr => ?_)
  case len =>
    first
    | (obtain ⟨rfl, _⟩ := h; rfl)
    | (obtain ⟨_, rfl, _⟩ := h; rfl)
    | (obtain ⟨_, _, rfl, _⟩ := h; rfl)
    | (obtain ⟨_, _, _, rfl, _⟩ := h; rfl)
    | (obtain ⟨_, _, _, _, rfl, _⟩ := h; rfl)
    | (obtain ⟨_, _, _, _, _, rfl, _⟩ := h; rfl)
    | (obtain ⟨_, _, _, _, _, _, rfl, _⟩ := h; rfl)
    | (obtain ⟨_, _, _, _, _, _, _, rfl, _⟩ := h; rfl)
    | (obtain ⟨_, _, _, _, _, _, _, _, rfl, _⟩ := h; rfl)
    | (obtain ⟨_, _, _, _, _, _, _, _, _, rfl, _⟩ := h; rfl)
    | (obtain ⟨_, _, _, _, _, _, _, _, _, _, rfl, _⟩ := h; rfl)
    | (obtain ⟨_, _, _, _, _, _, _, _, _, _, _, rfl, _⟩ := h; rfl)
    | (obtain ⟨_, _, _, _, _, _, _, _, _, _, _, _, rfl, _⟩ := h; rfl)
    | (obtain ⟨_, _, _, _, _, _, _, _, _, _, _, _, _, rfl, _⟩ := h; rfl)
    | (match ds, h with | [_], _ => rfl)
  have nd := sc_want_letters.nd
  refine ⟨_, _, (dss_one (ds_if (dt_not (dt_val (de_call (ok_are_unlike_signs T) (hr.mono (by decide)) (by rfl) T.g_are_unlike_signs T.F_are_unlike_signs.kp T.b_are_unlike_signs .nil (fun _ _ => .nil) passN (da_cons (de_var (pv 0)) (da_cons (de_c (pe_glob (v := .int 16) rfl T.v_MOST_LETTERS ⟨_, rfl⟩) (fun _ _ => .int _)) da_nil)))))
        (dss_one (ds_raise rfl T.X_NoRule hr (takes_of rfl rfl rfl rfl) (da_cons (de_str [108, 101, 116, 116, 101, 114, 115] (by rfl)) da_nil)))
        dss_nil)), ?_⟩
  rintro ds μ Q E ⟨d, rfl, kd, q⟩
  walk_at "w"
  refine ⟨d, 16, rfl, kd, ?_⟩
  walk_at "w"
  cases h : isPlN 16 d <;> simp only [isLt, h] at q <;> exact q
/-- the first place that is wrong -/
def badAt (S l : List Nat) : Option Nat := l.findIdx? fun c => !decide (c ∈ S)
def GoodL (L : List Nat) : Prop := isLt (.str L) = true
/-- a text by these letters, a text with a wrong sign, or no text -/
def WordIs (μ : Mu) (S : List Nat) (d : D) (o : Option Int) : Prop :=
  (∃ l, d = .str l ∧ l.length ≤ 1000000 ∧ o = (badAt S l).map fun i => (i : Int)) ∨ (∃ t, tyN (rd μ d) = some t ∧ kitB t "str" = some false ∧ isS d = false ∧ o = some (-1))
def spWantW (X XL : Addr) : DSp := fun ds μ Q E => ∃ d e S o, ds = [d, e] ∧ ((e = .non ∧ S = SG) ∨ (e = .str S ∧ GoodL S ∧ S.length ≤ 4000)) ∧ WordIs μ S d o ∧ (match o with | none => Q .non μ | some i => E X "at" (.int i) μ)
theorem badAt_none {S l : List Nat} : badAt S l = none ↔ ∀ c ∈ l, c ∈ S := by
  unfold badAt
  rw [List.findIdx?_eq_none_iff]
  exact ⟨fun h c hc => by have := h c hc; simpa using this, fun h c hc => by simpa using h c hc⟩
theorem badAt_first {S l : List Nat} {i : Nat} {c : Nat} (h : l[i]? = some c) (no : ∀ j x, j < i → l[j]? = some x → x ∈ S) (hc : c ∉ S) : badAt S l = some i := by
  unfold badAt
  rw [List.findIdx?_eq_some_iff_getElem]
  obtain ⟨hi, e⟩ := List.getElem?_eq_some_iff.mp h
  refine ⟨hi, by simpa [e] using hc, fun j hj => ?_⟩
  have := no j l[j] hj (List.getElem?_eq_getElem (by omega))
  simpa using this
theorem ok_want_word (T : Env K mg base) : FnOk P w K mg base (L2.CX P w) 9 T.f_want_word T.d_want_word ["word", "letters"] (lift K (spWantW T.C_NoWord T.C_NoRule)) := by
  refine fn_x T.F_want_word sc_want_word (fun ds μ Q E h => ?len) (fun A outer s H E hr => ?_)
  case len =>
    first
    | (obtain ⟨rfl, _⟩ := h; rfl)
    | (obtain ⟨_, rfl, _⟩ := h; rfl)
    | (obtain ⟨_, _, rfl, _⟩ := h; rfl)
    | (obtain ⟨_, _, _, rfl, _⟩ := h; rfl)
    | (obtain ⟨_, _, _, _, rfl, _⟩ := h; rfl)
    | (obtain ⟨_, _, _, _, _, rfl, _⟩ := h; rfl)
    | (obtain ⟨_, _, _, _, _, _, rfl, _⟩ := h; rfl)
    | (obtain ⟨_, _, _, _, _, _, _, rfl, _⟩ := h; rfl)
    | (obtain ⟨_, _, _, _, _, _, _, _, rfl, _⟩ := h; rfl)
    | (obtain ⟨_, _, _, _, _, _, _, _, _, rfl, _⟩ := h; rfl)
    | (obtain ⟨_, _, _, _, _, _, _, _, _, _, rfl, _⟩ := h; rfl)
    | (obtain ⟨_, _, _, _, _, _, _, _, _, _, _, rfl, _⟩ := h; rfl)
    | (obtain ⟨_, _, _, _, _, _, _, _, _, _, _, _, rfl, _⟩ := h; rfl)
    | (obtain ⟨_, _, _, _, _, _, _, _, _, _, _, _, _, rfl, _⟩ := h; rfl)
    | (match ds, h with | [_, _], _ => rfl)
  have nd := sc_want_word.nd
  refine ⟨_, _, (dss_cons (ds_set (n := 2) nd rfl (by first | exact .inl rfl | exact .inr rfl) (de_c (pe_glob (v := .str "ABCDEFGHIJKLMNOPQRSTUVWXYZabcdefghijklmnopqrstuvwxyz") rfl T.v_SIGNS ⟨_, rfl⟩) (fun _ _ => rep_str SG (by rfl)))) <|
      dss_cons (ds_if (dt_cmp o_notN (de_var (pv 1)) de_non (nomark _))
        (dss_cons (ds_expr (de_call (ok_want_letters T) (hr.mono (by decide)) (by rfl) T.g_want_letters T.F_want_letters.kp T.b_want_letters .nil (fun _ _ => .nil) (passes_call (takes_of rfl rfl rfl rfl) (fun _ _ _ _ h => h)) (da_cons (de_var (pv 1)) da_nil))) <|
        (dss_one (ds_set (n := 2) nd rfl (by first | exact .inl rfl | exact .inr rfl) (de_var (pv 1)))))
        dss_nil) <|
      dss_cons (ds_if (dt_not (dt_val (de_callB c_isi (by rfl) T.z_isinstance boot_isinstance (da_cons (de_var (pv 0)) (da_cons (de_c (pe_bltn (v := .ty "str") (by rfl) T.z_str PyProof.Rows.boot_str rfl) (fun _ _ => .ty _)) da_nil)))))
        (dss_one (ds_raise rfl T.X_NoWord hr (takes_of rfl rfl rfl rfl) (da_cons (de_neg de_int) da_nil)))
        dss_nil) <|
      (dss_one (ds_for PySem.PassesOwn.leaving rfl (di_es (by rfl) T.z_enumerate (da_cons (de_var (pv 0)) da_nil)) (dg_tup (n := 2) (K := K) rfl rfl (dgs_cons (dg_name (n := 3) nd rfl (by first | exact .inl rfl | exact .inr rfl)) (dgs_cons (dg_name (n := 4) nd rfl (by first | exact .inl rfl | exact .inr rfl)) dgs_nil)) (by rfl) (by rfl))
        (dss_one (ds_if (dt_cmp o_ninS (de_var (pv 4)) (de_var (pv 2)) (by rfl))
          (dss_one (ds_raise rfl T.X_NoWord hr (takes_of rfl rfl rfl rfl) (da_cons (de_var (pv 3)) da_nil)))
          dss_nil))))), ?_⟩
  rintro ds μ Q E ⟨d, e, S, o, rfl, he, wd, q⟩
  walk_at "w"
  rcases he with ⟨rfl, hS⟩ | ⟨rfl, gS, lS⟩
  case' inl =>
    walk_at "w"
    rw [← hS]
  case' inr =>
    walk_at "w"
    refine ⟨_, rfl, .str lS, ?_⟩
    rw [show isLt (.str S) = true from gS, if_pos rfl]
    walk_at "w"
  all_goals
    rcases wd with ⟨l, rfl, hl, rfl⟩ | ⟨t, h1, h2, h3, rfl⟩
    · walk_at "w"
      refine forL_en l (fun c => .str [c]) (fun i δ μ' => μ' = μ ∧ ∃ a b e2, δ = [some (.str l), some e2, some (.str S), a, b] ∧ ∀ j x, j < i → l[j]? = some x → x ∈ S) ⟨rfl, _, _, _, rfl, fun j x h => absurd h (Nat.not_lt_zero _)⟩ (fun _ _ _ _ => trivial) ?_ ?_
      · rintro i c δ μ' k hc ⟨rfl, a, b, e2, rfl, no⟩ next
        walk_at "w"
        cases hm : decide (c ∈ S) with
        | true =>
          refine next _ _ ⟨rfl, _, _, _, rfl, fun j x hj hx => ?_⟩
          rcases Nat.lt_or_ge j i with h | h
          · exact no j x h hx
          · have : j = i := by omega
            subst this
            rw [hc] at hx
            cases hx
            exact of_decide_eq_true hm
        | false =>
          rw [badAt_first hc no (of_decide_eq_false hm)] at q
          exact q
      · rintro δ μ' ⟨rfl, a, b, e2, rfl, no⟩
        walk_at "w"
        rw [badAt_none.mpr fun c hc => by obtain ⟨j, hj⟩ := List.mem_iff_getElem?.mp hc; exact no j c (List.getElem?_eq_some_iff.mp hj).1 hj] at q
        exact q
    · rw [h1]
      walk_at "w"
      rw [h2]
      walk_at "w"
      exact q
/-! shapers -/

/-! numbers wanted -/
def isW (d : D) : Bool := match d with | .int _ => true | _ => false
def spWhole : DSp := fun ds μ Q _ => ∃ d, ds = [d] ∧ (match d with | .int _ | .bl _ | .non | .str _ => True | _ => False) ∧ Q (.bl (isW d)) μ
theorem ok_is_whole (T : Env K mg base) : FnOk P w K mg base L2.CX0 3 T.f_is_whole T.d_is_whole ["thing"] (lift K spWhole) := by
  refine fn_n T.F_is_whole sc_is_whole (fun ds μ Q E h => ?len) (fun A outer s H E hr => ?_)
  case len =>
    first
    | (obtain ⟨rfl, _⟩ := h; rfl)
    | (obtain ⟨_, rfl, _⟩ := h; rfl)
    | (obtain ⟨_, _, rfl, _⟩ := h; rfl)
    | (obtain ⟨_, _, _, rfl, _⟩ := h; rfl)
    | (obtain ⟨_, _, _, _, rfl, _⟩ := h; rfl)
    | (obtain ⟨_, _, _, _, _, rfl, _⟩ := h; rfl)
    | (obtain ⟨_, _, _, _, _, _, rfl, _⟩ := h; rfl)
    | (obtain ⟨_, _, _, _, _, _, _, rfl, _⟩ := h; rfl)
    | (obtain ⟨_, _, _, _, _, _, _, _, rfl, _⟩ := h; rfl)
    | (obtain ⟨_, _, _, _, _, _, _, _, _, rfl, _⟩ := h; rfl)
    | (obtain ⟨_, _, _, _, _, _, _, _, _, _, rfl, _⟩ := h; rfl)
    | (obtain ⟨_, _, _, _, _, _, _, _, _, _, _, rfl, _⟩ := h; rfl)
    | (obtain ⟨_, _, _, _, _, _, _, _, _, _, _, _, rfl, _⟩ := h; rfl)
    | (obtain ⟨_, _, _, _, _, _, _, _, _, _, _, _, _, rfl, _⟩ := h; rfl)
    | (match ds, h with | [_], _ => rfl)
  have nd := sc_is_whole.nd
  refine ⟨_, _, (dss_one (ds_ret (de_and (de_callB c_isi (by rfl) T.z_isinstance boot_isinstance (da_cons (de_var (pv 0)) (da_cons (de_c (pe_bltn (v := .ty "int") (by rfl) T.z_int (by rfl) rfl) (fun _ _ => .ty _)) da_nil))) (de_one (de_not (de_callB c_isi (by rfl) T.z_isinstance boot_isinstance (da_cons (de_var (pv 0)) (da_cons (de_c (pe_bltn (v := .ty "bool") (by rfl) T.z_bool (by rfl) rfl) (fun _ _ => .ty _)) da_nil)))))))), ?_⟩
  rintro ds μ Q E ⟨d, rfl, k, q⟩
  cases d with
  | int i => walk_at "w"; exact q
  | bl b => walk_at "w"; exact q
  | non => walk_at "w"; exact q
  | str l => walk_at "w"; exact q
  | _ => exact k.elim
def isWi (d : D) (lo hi : Int) : Bool := match d with | .int i => decide (lo ≤ i) && decide (i ≤ hi) | _ => false
def spWithin : DSp := fun ds μ Q _ => ∃ d lo hi, ds = [d, .int lo, .int hi] ∧ (match d with | .int _ | .bl _ | .non | .str _ => True | _ => False) ∧ Q (.bl (isWi d lo hi)) μ
theorem ok_is_within (T : Env K mg base) : FnOk P w K mg base L2.CX0 6 T.f_is_within T.d_is_within ["thing", "least", "most"] (lift K spWithin) := by
  refine fn_n T.F_is_within sc_is_within (fun ds μ Q E h => ?len) (fun A outer s H E hr => ?_)
  case len =>
    first
    | (obtain ⟨rfl, _⟩ := h; rfl)
    | (obtain ⟨_, rfl, _⟩ := h; rfl)
    | (obtain ⟨_, _, rfl, _⟩ := h; rfl)
    | (obtain ⟨_, _, _, rfl, _⟩ := h; rfl)
    | (obtain ⟨_, _, _, _, rfl, _⟩ := h; rfl)
    | (obtain ⟨_, _, _, _, _, rfl, _⟩ := h; rfl)
    | (obtain ⟨_, _, _, _, _, _, rfl, _⟩ := h; rfl)
    | (obtain ⟨_, _, _, _, _, _, _, rfl, _⟩ := h; rfl)
    | (obtain ⟨_, _, _, _, _, _, _, _, rfl, _⟩ := h; rfl)
    | (obtain ⟨_, _, _, _, _, _, _, _, _, rfl, _⟩ := h; rfl)
    | (obtain ⟨_, _, _, _, _, _, _, _, _, _, rfl, _⟩ := h; rfl)
    | (obtain ⟨_, _, _, _, _, _, _, _, _, _, _, rfl, _⟩ := h; rfl)
    | (obtain ⟨_, _, _, _, _, _, _, _, _, _, _, _, rfl, _⟩ := h; rfl)
    | (obtain ⟨_, _, _, _, _, _, _, _, _, _, _, _, _, rfl, _⟩ := h; rfl)
    | (match ds, h with | [_, _, _], _ => rfl)
  have nd := sc_is_within.nd
  refine ⟨_, _, (dss_one (ds_ret (de_and (de_call (ok_is_whole T) (hr.mono (by decide)) (by rfl) T.g_is_whole T.F_is_whole.kp T.b_is_whole .nil (fun _ _ => .nil) passN (da_cons (de_var (pv 0)) da_nil)) (de_one (de_chain o_le o_le (de_var (pv 1)) (de_var (pv 0)) (de_var (pv 2))))))), ?_⟩
  rintro ds μ Q E ⟨d, lo, hi, rfl, k, q⟩
  walk_at "w"
  refine ⟨d, rfl, k, ?_⟩
  walk_at "w"
  cases d with
  | int i =>
    have q : Q (.bl (decide (lo ≤ i) && decide (i ≤ hi))) μ := q
    rw [show isW (.int i) = true from rfl]
    walk_at "w"
    cases h : decide (lo ≤ i) with
    | true => rw [h, Bool.true_and] at q; exact q
    | false => rw [h, Bool.false_and] at q; exact q
  | bl b => exact q
  | non => exact q
  | str l => exact q
  | _ => exact k.elim

theorem sg_nodup : SG.Nodup := by decide +kernel

/-! drawn rules -/
theorem src_off {μ μ' : Mu} {s L : Addr} (hs : μ s = some .src) (hL : μ L = none) (o : Off L μ μ') : μ' s = some .src := by
  rw [o s (fun z => by rw [z, hL] at hs; cases hs)]; exact hs
theorem src_mup {μ : Mu} {s L : Addr} {d : D} (hs : μ s = some .src) (hL : μ L = none) : mup μ L d s = some .src := by
  rw [mup_ne (fun z => by rw [z, hL] at hs; cases hs)]; exact hs
def spUnl : DSp := fun ds μ Q _ => ∃ s n, ds = [.ref s, .int n] ∧ μ s = some .src ∧ 0 ≤ n ∧ n ≤ 52 ∧ ∀ w : List Nat, w.length = n.toNat → w.Nodup → (∀ c ∈ w, c ∈ SG) → Q (.str w) μ
theorem ok_y_unlike (T : Env K mg base) : FnOk P w K mg base L2.CX0 5 T.f_y_unlike T.d_y_unlike ["_law_well_here", "_law_many"] (lift K spUnl) := by
  refine fn_n T.F_y_unlike sc_y_unlike (fun ds μ Q E h => ?len) (fun A outer s H E hr => ?_)
  case len =>
    first
    | (obtain ⟨rfl, _⟩ := h; rfl)
    | (obtain ⟨_, rfl, _⟩ := h; rfl)
    | (obtain ⟨_, _, rfl, _⟩ := h; rfl)
    | (obtain ⟨_, _, _, rfl, _⟩ := h; rfl)
    | (obtain ⟨_, _, _, _, rfl, _⟩ := h; rfl)
    | (obtain ⟨_, _, _, _, _, rfl, _⟩ := h; rfl)
    | (obtain ⟨_, _, _, _, _, _, rfl, _⟩ := h; rfl)
    | (obtain ⟨_, _, _, _, _, _, _, rfl, _⟩ := h; rfl)
    | (obtain ⟨_, _, _, _, _, _, _, _, rfl, _⟩ := h; rfl)
    | (obtain ⟨_, _, _, _, _, _, _, _, _, rfl, _⟩ := h; rfl)
    | (obtain ⟨_, _, _, _, _, _, _, _, _, _, rfl, _⟩ := h; rfl)
    | (obtain ⟨_, _, _, _, _, _, _, _, _, _, _, rfl, _⟩ := h; rfl)
    | (obtain ⟨_, _, _, _, _, _, _, _, _, _, _, _, rfl, _⟩ := h; rfl)
    | (obtain ⟨_, _, _, _, _, _, _, _, _, _, _, _, _, rfl, _⟩ := h; rfl)
    | (match ds, h with | [_, _], _ => rfl)
  have nd := sc_y_unlike.nd
  refine ⟨_, _, (dss_cons (ds_set (n := 2) nd rfl (by first | exact .inl rfl | exact .inr rfl) (de_str [65, 66, 67, 68, 69, 70, 71, 72, 73, 74, 75, 76, 77, 78, 79, 80, 81, 82, 83, 84, 85, 86, 87, 88, 89, 90, 97, 98, 99, 100, 101, 102, 103, 104, 105, 106, 107, 108, 109, 110, 111, 112, 113, 114, 115, 116, 117, 118, 119, 120, 121, 122] (by rfl))) <|
      dss_cons (ds_set (n := 3) nd rfl (by first | exact .inl rfl | exact .inr rfl) (de_str [] (by rfl))) <|
      dss_cons (ds_for PassesOwn.never rfl (di_range1 rfl T.z_range (da_cons (de_var (pv 1)) da_nil)) (dg_name (n := 4) nd rfl (by first | exact .inl rfl | exact .inr rfl))
        (dss_cons (ds_set (n := 5) nd rfl (by first | exact .inl rfl | exact .inr rfl) (de_call (ok_y_draw T) (hr.mono (by decide)) (by rfl) T.g_y_draw T.F_y_draw.kp T.b_y_draw .nil (fun _ _ => .nil) passN (da_cons (de_var (pv 0)) (da_cons (de_callB c_lenS (by rfl) T.z_len PySem.boot_len (da_cons (de_var (pv 2)) da_nil)) da_nil)))) <|
        dss_cons (ds_set (n := 3) nd rfl (by first | exact .inl rfl | exact .inr rfl) (de_op o_addS (de_var (pv 3)) (de_ix x_str (de_var (pv 2)) (de_var (pv 5)) (fun _ _ => rfl)))) <|
        (dss_one (ds_set (n := 2) nd rfl (by first | exact .inl rfl | exact .inr rfl) (de_op o_addS (de_slice l_str (de_var (pv 2)) do_none (do_some (de_var (pv 5)))) (de_slice l_str (de_var (pv 2)) (do_some (de_op o_add (de_var (pv 5)) de_int)) do_none)))))) <|
      (dss_one (ds_ret (de_var (pv 3))))), ?_⟩
  rintro ds μ Q E ⟨s, n, rfl, hs, n0, n1, q⟩
  walk_at "w"
  refine ⟨by omega, by omega, ?_⟩
  refine forL_rng n.toNat (fun i δ μ' => μ' = μ ∧ ∃ rest found a4 a5, δ = [some (.ref s), some (.int n), some (.str rest), some (.str found), a4, a5] ∧ found.length = i ∧ rest.length = 52 - i ∧ (found ++ rest).Perm SG) ⟨rfl, _, _, _, _, rfl, rfl, rfl, .refl _⟩ (fun _ _ _ _ => trivial) ?_ ?_
  · rintro i δ μ' k hi ⟨rfl, rest, found, a4, a5, rfl, h1, h2, h3⟩ next
    walk_at "w"
    refine ⟨by omega, s, _, rfl, hs, by omega, by omega, fun at_ a0 a1 => ?_⟩
    obtain ⟨j, rfl⟩ : ∃ j : Nat, at_ = j := ⟨at_.toNat, by omega⟩
    have hj : j < rest.length := by omega
    walk_at "w"
    rw [atI_nat (List.getElem?_eq_getElem hj), cutL_to, show (j : Int) + 1 = ((j + 1 : Nat) : Int) from rfl, cutL_from]
    refine ⟨by omega, ?_⟩
    walk_at "w"
    refine ⟨by omega, by omega, by omega, ?_, ?_⟩
    · rw [List.length_take, List.length_drop]; omega
    refine next _ _ ⟨rfl, _, _, _, _, rfl, ?_, ?_, ?_⟩
    · rw [List.length_append, h1]; rfl
    · rw [List.length_append, List.length_take, List.length_drop]; omega
    · refine List.Perm.trans ?_ h3
      rw [List.append_assoc]
      refine List.Perm.append_left found ?_
      have e : rest = rest.take j ++ (rest[j] :: rest.drop (j + 1)) := by rw [List.getElem_cons_drop, List.take_append_drop]
      conv => rhs; rw [e]
      show (rest[j] :: (rest.take j ++ rest.drop (j + 1))).Perm _
      exact List.perm_middle.symm
  · rintro δ μ' ⟨rfl, rest, found, a4, a5, rfl, h1, h2, h3⟩
    walk_at "w"
    exact q _ h1 (List.nodup_append.mp (h3.nodup_iff.mpr sg_nodup)).1 fun c hc => h3.subset (List.mem_append_left _ hc)
theorem int_of {P : Int → Prop} {n : Int} (h0 : 0 ≤ n) (h : ∀ k : Nat, n = k → P k) : P n := by
  obtain ⟨k, rfl⟩ := Int.eq_ofNat_of_zero_le h0
  exact h k rfl
theorem asS_ones (l : List Nat) : asS (l.map fun c => D.str [c]) = some (l.map fun c => [c]) := asS_of _ l

/-! a case: ranks of signs -/
def rkL (rk : List (Nat × Nat)) : AL := rk.map fun p => (.inr (ofL [p.1]), .int (p.2 : Nat))
def rkD (rk : List (Nat × Nat)) : D := dkD (rkL rk)
def rkOf (rk : List (Nat × Nat)) (c : Nat) : Option Nat := (rk.find? fun p => p.1 == c).map (·.2)
theorem ofL1_inj {c d : Nat} (h : (Sum.inr (ofL [c]) : Key) = .inr (ofL [d])) : c = d := by
  injection h with h
  have e := congrArg (fun y : Str => y.cps.toList) h
  exact (List.cons.inj e).1
theorem look_rk (rk : List (Nat × Nat)) (c : Nat) : lookA (rkL rk) (.inr (ofL [c])) = (rkOf rk c).map fun r => .int (r : Nat) := by
  induction rk with
  | nil => rfl
  | cons p rk ih =>
    show (if (Sum.inr (ofL [p.1]) : Key) = .inr (ofL [c]) then _ else lookA (rkL rk) (.inr (ofL [c]))) = _
    unfold rkOf
    by_cases h : p.1 = c
    · rw [if_pos (by rw [h]), List.find?_cons_of_pos (by simpa using h)]
      rfl
    · rw [if_neg fun z => h (ofL1_inj z), List.find?_cons_of_neg (by simpa using h), ih]
      rfl
structure GoodK (rk : List (Nat × Nat)) : Prop where
  nd : (rk.map (·.1)).Nodup
  sg : ∀ p ∈ rk, p.1 ∈ SG
  r9 : ∀ p ∈ rk, p.2 ≤ 9
  few : rk.length ≤ 52
theorem goodK0 : GoodK [] := ⟨List.nodup_nil, (fun _ h => nomatch h), (fun _ h => nomatch h), Nat.zero_le _⟩
theorem GoodK.of {rk : List (Nat × Nat)} (g : GoodK rk) {c r : Nat} (h : rkOf rk c = some r) : r ≤ 9 := by
  unfold rkOf at h
  cases e : rk.find? fun p => p.1 == c with
  | none => rw [e] at h; cases h
  | some p =>
    rw [e] at h
    cases h
    exact g.r9 p (List.mem_of_find?_eq_some e)
theorem puts_nd : ∀ (ps : List (Nat × Nat)), (ps.map (·.1)).Nodup → putsA (rkL ps) = rkL ps := by
  have gen : ∀ (ps : List (Nat × Nat)) (a : List (Nat × Nat)), ((a ++ ps).map (·.1)).Nodup → (rkL ps).foldl (fun a p => putA a p.1 p.2) (rkL a) = rkL (a ++ ps) := by
    intro ps
    induction ps with
    | nil => intro a _; rw [List.append_nil]; rfl
    | cons p ps ih =>
      intro a nd
      have hn : lookA (rkL a) (.inr (ofL [p.1])) = none := by
        rw [look_rk]
        cases e : rkOf a p.1 with
        | none => rfl
        | some r =>
          unfold rkOf at e
          cases e2 : a.find? fun q => q.1 == p.1 with
          | none => rw [e2] at e; cases e
          | some q =>
            have h1 := List.mem_of_find?_eq_some e2
            have h2 : q.1 = p.1 := by
              have h3 := List.find?_some e2
              simpa using h3
            rw [List.map_append, List.map_cons] at nd
            exact absurd h2 ((List.nodup_append.mp nd).2.2 q.1 (List.mem_map.mpr ⟨q, h1, rfl⟩) p.1 List.mem_cons_self)
      show (rkL ps).foldl (fun a p => putA a p.1 p.2) (putA (rkL a) (.inr (ofL [p.1])) (.int (p.2 : Nat))) = _
      rw [putA_new hn, show rkL a ++ [(.inr (ofL [p.1]), .int (p.2 : Nat))] = rkL (a ++ [p]) by unfold rkL; rw [List.map_append]; rfl, ih (a ++ [p]) (by rw [List.append_assoc]; exact nd), List.append_assoc]
      rfl
  exact fun ps nd => gen ps [] nd
def spPairs : DSp := fun ds μ Q _ => ∃ d w, ds = [d, .str w] ∧ ((d = .non ∧ Q (.lst []) μ) ∨ ∃ l : AL, d = dkD l ∧ Q (.lst (l.map itD)) μ)
theorem ok_pairs_of (T : Env K mg base) : FnOk P w K mg base (L2.CX P w) 3 T.f_pairs_of T.d_pairs_of ["table", "what"] (lift K spPairs) := by
  refine fn_x T.F_pairs_of sc_pairs_of (fun ds μ Q E h => ?len) (fun A outer s H E hr => ?_)
  case len =>
    first
    | (obtain ⟨rfl, _⟩ := h; rfl)
    | (obtain ⟨_, rfl, _⟩ := h; rfl)
    | (obtain ⟨_, _, rfl, _⟩ := h; rfl)
    | (obtain ⟨_, _, _, rfl, _⟩ := h; rfl)
    | (obtain ⟨_, _, _, _, rfl, _⟩ := h; rfl)
    | (obtain ⟨_, _, _, _, _, rfl, _⟩ := h; rfl)
    | (obtain ⟨_, _, _, _, _, _, rfl, _⟩ := h; rfl)
    | (obtain ⟨_, _, _, _, _, _, _, rfl, _⟩ := h; rfl)
    | (obtain ⟨_, _, _, _, _, _, _, _, rfl, _⟩ := h; rfl)
    | (obtain ⟨_, _, _, _, _, _, _, _, _, rfl, _⟩ := h; rfl)
    | (obtain ⟨_, _, _, _, _, _, _, _, _, _, rfl, _⟩ := h; rfl)
    | (obtain ⟨_, _, _, _, _, _, _, _, _, _, _, rfl, _⟩ := h; rfl)
    | (obtain ⟨_, _, _, _, _, _, _, _, _, _, _, _, rfl, _⟩ := h; rfl)
    | (obtain ⟨_, _, _, _, _, _, _, _, _, _, _, _, _, rfl, _⟩ := h; rfl)
    | (match ds, h with | [_, _], _ => rfl)
  have nd := sc_pairs_of.nd
  refine ⟨_, _, (dss_cons (ds_if (dt_cmp o_isN (de_var (pv 0)) de_non (nomark _))
        (dss_one (ds_ret (de_lst da_nil)))
        dss_nil) <|
      dss_cons (ds_if (dt_not (dt_val (de_callB c_isi (by rfl) T.z_isinstance boot_isinstance (da_cons (de_var (pv 0)) (da_cons (de_c (pe_bltn (v := .ty "dict") (by rfl) T.z_dict (by rfl) rfl) (fun _ _ => .ty _)) da_nil)))))
        (dss_one (ds_raise rfl T.X_NoCase hr (takes_of rfl rfl rfl rfl) (da_cons (de_var (pv 1)) da_nil)))
        dss_nil) <|
      (dss_one (ds_ret (de_li rfl (de_var (pv 0)) (by rfl) T.z_list)))), ?_⟩
  rintro ds μ Q E ⟨d, w, rfl, ⟨rfl, q⟩ | ⟨l, rfl, q⟩⟩
  · walk_at "w"
    exact ⟨by decide, q⟩
  · walk_at "w"
    exact q
def spIsSign : DSp := fun ds μ Q _ => ∃ c, ds = [.str [c]] ∧ Q (.bl (decide (c ∈ SG))) μ
theorem ok_is_sign (T : Env K mg base) : FnOk P w K mg base L2.CX0 3 T.f_is_sign T.d_is_sign ["thing"] (lift K spIsSign) := by
  refine fn_n T.F_is_sign sc_is_sign (fun ds μ Q E h => ?len) (fun A outer s H E hr => ?_)
  case len =>
    first
    | (obtain ⟨rfl, _⟩ := h; rfl)
    | (obtain ⟨_, rfl, _⟩ := h; rfl)
    | (obtain ⟨_, _, rfl, _⟩ := h; rfl)
    | (obtain ⟨_, _, _, rfl, _⟩ := h; rfl)
    | (obtain ⟨_, _, _, _, rfl, _⟩ := h; rfl)
    | (obtain ⟨_, _, _, _, _, rfl, _⟩ := h; rfl)
    | (obtain ⟨_, _, _, _, _, _, rfl, _⟩ := h; rfl)
    | (obtain ⟨_, _, _, _, _, _, _, rfl, _⟩ := h; rfl)
    | (obtain ⟨_, _, _, _, _, _, _, _, rfl, _⟩ := h; rfl)
    | (obtain ⟨_, _, _, _, _, _, _, _, _, rfl, _⟩ := h; rfl)
    | (obtain ⟨_, _, _, _, _, _, _, _, _, _, rfl, _⟩ := h; rfl)
    | (obtain ⟨_, _, _, _, _, _, _, _, _, _, _, rfl, _⟩ := h; rfl)
    | (obtain ⟨_, _, _, _, _, _, _, _, _, _, _, _, rfl, _⟩ := h; rfl)
    | (obtain ⟨_, _, _, _, _, _, _, _, _, _, _, _, _, rfl, _⟩ := h; rfl)
    | (match ds, h with | [_], _ => rfl)
  have nd := sc_is_sign.nd
  refine ⟨_, _, (dss_one (ds_ret (de_and (de_callB c_isi (by rfl) T.z_isinstance boot_isinstance (da_cons (de_var (pv 0)) (da_cons (de_c (pe_bltn (v := .ty "str") (by rfl) T.z_str PyProof.Rows.boot_str rfl) (fun _ _ => .ty _)) da_nil))) (de_and (de_cmp o_eq (de_callB c_lenS (by rfl) T.z_len PySem.boot_len (da_cons (de_var (pv 0)) da_nil)) de_int (nomark _)) (de_one (de_cmp o_inS (de_var (pv 0)) (de_c (pe_glob (v := .str "ABCDEFGHIJKLMNOPQRSTUVWXYZabcdefghijklmnopqrstuvwxyz") rfl T.v_SIGNS ⟨_, rfl⟩) (fun _ _ => rep_str SG (by rfl))) (by rfl))))))), ?_⟩
  rintro ds μ Q E ⟨c, rfl, q⟩
  walk_at "w"
  exact ⟨by decide, q⟩
theorem items_rk (rk : List (Nat × Nat)) : (rkL rk).map itD = rk.map fun p => .tup [.str [p.1], .int (p.2 : Nat)] := by
  unfold rkL
  rw [List.map_map]
  rfl
def spKeptK : DSp := fun ds μ Q _ => ∃ d rk, ds = [d] ∧ ((d = .non ∧ rk = []) ∨ d = rkD rk) ∧ GoodK rk ∧ Q (rkD rk) μ
theorem ok_kept_ranks (T : Env K mg base) : FnOk P w K mg base (L2.CX P w) 9 T.f_kept_ranks T.d_kept_ranks ["ranks"] (lift K spKeptK) := by
  refine fn_x T.F_kept_ranks sc_kept_ranks (fun ds μ Q E h => ?len) (fun A outer s H E hr => ?_)
  case len =>
    first
    | (obtain ⟨rfl, _⟩ := h; rfl)
    | (obtain ⟨_, rfl, _⟩ := h; rfl)
    | (obtain ⟨_, _, rfl, _⟩ := h; rfl)
    | (obtain ⟨_, _, _, rfl, _⟩ := h; rfl)
    | (obtain ⟨_, _, _, _, rfl, _⟩ := h; rfl)
    | (obtain ⟨_, _, _, _, _, rfl, _⟩ := h; rfl)
    | (obtain ⟨_, _, _, _, _, _, rfl, _⟩ := h; rfl)
    | (obtain ⟨_, _, _, _, _, _, _, rfl, _⟩ := h; rfl)
    | (obtain ⟨_, _, _, _, _, _, _, _, rfl, _⟩ := h; rfl)
    | (obtain ⟨_, _, _, _, _, _, _, _, _, rfl, _⟩ := h; rfl)
    | (obtain ⟨_, _, _, _, _, _, _, _, _, _, rfl, _⟩ := h; rfl)
    | (obtain ⟨_, _, _, _, _, _, _, _, _, _, _, rfl, _⟩ := h; rfl)
    | (obtain ⟨_, _, _, _, _, _, _, _, _, _, _, _, rfl, _⟩ := h; rfl)
    | (obtain ⟨_, _, _, _, _, _, _, _, _, _, _, _, _, rfl, _⟩ := h; rfl)
    | (match ds, h with | [_], _ => rfl)
  have nd := sc_kept_ranks.nd
  refine ⟨_, _, (dss_cons (ds_set (n := 1) nd rfl (by first | exact .inl rfl | exact .inr rfl) (de_call (ok_pairs_of T) (hr.mono (by decide)) (by rfl) T.g_pairs_of T.F_pairs_of.kp T.b_pairs_of .nil (fun _ _ => .nil) (passes_call (takes_of rfl rfl rfl rfl) (fun _ _ _ _ h => h)) (da_cons (de_var (pv 0)) (da_cons (de_str [114, 97, 110, 107, 115] (by rfl)) da_nil)))) <|
      dss_cons (ds_for PySem.PassesOwn.leaving rfl (di_list (de_var (pv 1))) (dg_tup (n := 2) (K := K) rfl rfl (dgs_cons (dg_name (n := 2) nd rfl (by first | exact .inl rfl | exact .inr rfl)) (dgs_cons (dg_name (n := 3) nd rfl (by first | exact .inl rfl | exact .inr rfl)) dgs_nil)) (by rfl) (by rfl))
        (dss_one (ds_if (dw_dt (dw_or (dt_not (dt_val (de_call (ok_is_sign T) (hr.mono (by decide)) (by rfl) T.g_is_sign T.F_is_sign.kp T.b_is_sign .nil (fun _ _ => .nil) passN (da_cons (de_var (pv 2)) da_nil)))) (dw_or1 (dt_not (dt_val (de_call (ok_is_within T) (hr.mono (by decide)) (by rfl) T.g_is_within T.F_is_within.kp T.b_is_within .nil (fun _ _ => .nil) passN (da_cons (de_var (pv 3)) (da_cons de_int (da_cons (de_c (pe_glob (v := .int 9) rfl T.v_HIGHEST_RANK ⟨_, rfl⟩) (fun _ _ => .int _)) da_nil)))))))))
          (dss_one (ds_raise rfl T.X_NoCase hr (takes_of rfl rfl rfl rfl) (da_cons (de_str [114, 97, 110, 107, 115] (by rfl)) da_nil)))
          dss_nil))) <|
      (dss_one (ds_ret (de_dc (own := [("sign", 2), ("rank", 3)]) (by rfl) nd (di_list (de_var (pv 1))) (blkOk_by (own := [("sign", 2), ("rank", 3)]) (N := n_kept_ranks) (sc := defScope s_kept_ranks) (by decide +kernel)) (fun _ _ _ _ _ => by exact (dgw_tup (n := 2) (K := K) rfl rfl (dgsw_cons (dgw_name (n := 2) nd rfl (.inl rfl) (by decide)) (dgsw_cons (dgw_name (n := 3) nd rfl (.inl rfl) (by decide)) dgsw_nil)) (by rfl) (by rfl))) (fun _ _ _ _ _ => by exact dts_nil) (fun _ _ _ _ _ => by exact (de_var (pv 2))) (fun _ _ _ _ _ => by exact (de_var (pv 3))))))), ?_⟩
  rintro ds μ Q E ⟨d, rk, rfl, h, g, q⟩
  have go : Q (rkD rk) μ → ∀ (F : Sl), True := fun _ _ => trivial
  have few := g.few
  have pr : ∀ (Q2 : DK) (E2 : DX), Q2 (.lst (rk.map fun p => .tup [.str [p.1], .int (p.2 : Nat)])) μ → spPairs [d, .str [114, 97, 110, 107, 115]] μ Q2 E2 := fun Q2 E2 h2 => by
    rcases h with ⟨rfl, rfl⟩ | rfl
    · exact ⟨_, _, rfl, .inl ⟨rfl, h2⟩⟩
    · exact ⟨_, _, rfl, .inr ⟨rkL rk, rfl, by rw [items_rk]; exact h2⟩⟩
  have hd : d = .non ∨ d = rkD rk := h.elim (fun h => .inl h.1) .inr
  rcases hd with rfl | rfl
  all_goals
    walk_at "w"
    refine pr _ _ ?_
    walk_at "w"
    refine forL_of rk (fun p => D.tup [.str [p.1], .int (p.2 : Nat)]) (fun i δ μ' => μ' = μ ∧ ∃ d0 a2 a3, δ = [some d0, some (.lst (rk.map fun p => .tup [.str [p.1], .int (p.2 : Nat)])), a2, a3]) ⟨rfl, _, _, _, rfl⟩ (fun _ _ _ _ => trivial) ?_ ?_
    · rintro i x δ μ' k hx ⟨rfl, d0, a2, a3, rfl⟩ next
      have hm := List.mem_of_getElem? hx
      walk_at "w"
      refine ⟨_, rfl, ?_⟩
      rw [decide_eq_true (g.sg x hm)]
      walk_at "w"
      refine ⟨_, _, _, rfl, trivial, ?_⟩
      have h9 := g.r9 x hm
      rw [show isWi (.int (x.2 : Nat)) 0 9 = true from by show (decide ((0 : Int) ≤ (x.2 : Nat)) && decide (((x.2 : Nat) : Int) ≤ 9)) = true; rw [decide_eq_true (by omega), decide_eq_true (by omega)]; rfl]
      walk_at "w"
      exact next _ _ ⟨rfl, _, _, _, rfl⟩
    · rintro δ μ' ⟨rfl, d0, a2, a3, rfl⟩
      walk_at "w"
      intro L hL
      refine dcL_of rk (fun p => D.tup [.str [p.1], .int (p.2 : Nat)]) (fun p => some (.inr (ofL [p.1]), .int (p.2 : Nat))) (by omega) yes_off (fun i p μ' c hp of hc => ?_) ?_
      · walk_at "w"
        exact ⟨_, rfl, hc⟩
      · rw [era_mup hL]
        have e1 : rk.filterMap (fun p => some ((.inr (ofL [p.1]) : Key), D.int (p.2 : Nat))) = rkL rk := by
          rw [List.filterMap_eq_map']
          rfl
        rw [e1, puts_nd rk g.nd]
        exact q
def spKeptW : DSp := fun ds μ Q _ => ∃ r, ds = [.non, r] ∧ Q (rkD []) μ
theorem pairs0 {μ : Mu} {w : List Nat} {Q : DK} {E : DX} (q : Q (.lst []) μ) : spPairs [.non, .str w] μ Q E := ⟨_, _, rfl, .inl ⟨rfl, q⟩⟩
theorem ok_kept_wide (T : Env K mg base) : FnOk P w K mg base (L2.CX P w) 9 T.f_kept_wide T.d_kept_wide ["wide", "ranks"] (lift K spKeptW) := by
  refine fn_x T.F_kept_wide sc_kept_wide (fun ds μ Q E h => ?len) (fun A outer s H E hr => ?_)
  case len =>
    first
    | (obtain ⟨rfl, _⟩ := h; rfl)
    | (obtain ⟨_, rfl, _⟩ := h; rfl)
    | (obtain ⟨_, _, rfl, _⟩ := h; rfl)
    | (obtain ⟨_, _, _, rfl, _⟩ := h; rfl)
    | (obtain ⟨_, _, _, _, rfl, _⟩ := h; rfl)
    | (obtain ⟨_, _, _, _, _, rfl, _⟩ := h; rfl)
    | (obtain ⟨_, _, _, _, _, _, rfl, _⟩ := h; rfl)
    | (obtain ⟨_, _, _, _, _, _, _, rfl, _⟩ := h; rfl)
    | (obtain ⟨_, _, _, _, _, _, _, _, rfl, _⟩ := h; rfl)
    | (obtain ⟨_, _, _, _, _, _, _, _, _, rfl, _⟩ := h; rfl)
    | (obtain ⟨_, _, _, _, _, _, _, _, _, _, rfl, _⟩ := h; rfl)
    | (obtain ⟨_, _, _, _, _, _, _, _, _, _, _, rfl, _⟩ := h; rfl)
    | (obtain ⟨_, _, _, _, _, _, _, _, _, _, _, _, rfl, _⟩ := h; rfl)
    | (obtain ⟨_, _, _, _, _, _, _, _, _, _, _, _, _, rfl, _⟩ := h; rfl)
    | (match ds, h with | [_, _], _ => rfl)
  have nd := sc_kept_wide.nd
  refine ⟨_, _, (dss_cons (ds_set (n := 2) nd rfl (by first | exact .inl rfl | exact .inr rfl) (de_call (ok_pairs_of T) (hr.mono (by decide)) (by rfl) T.g_pairs_of T.F_pairs_of.kp T.b_pairs_of .nil (fun _ _ => .nil) (passes_call (takes_of rfl rfl rfl rfl) (fun _ _ _ _ h => h)) (da_cons (de_var (pv 0)) (da_cons (de_str [119, 105, 100, 101] (by rfl)) da_nil)))) <|
      dss_cons (ds_for PySem.PassesOwn.leaving rfl (di_list (de_var (pv 2))) (dg_tup (n := 2) (K := K) rfl rfl (dgs_cons (dg_name (n := 3) nd rfl (by first | exact .inl rfl | exact .inr rfl)) (dgs_cons (dg_name (n := 4) nd rfl (by first | exact .inl rfl | exact .inr rfl)) dgs_nil)) (by rfl) (by rfl))
        (dss_one (ds_if dt_nev
          (dss_one (ds_raise rfl T.X_NoCase hr (takes_of rfl rfl rfl rfl) (da_cons (de_str [119, 105, 100, 101] (by rfl)) da_nil)))
          dss_nil))) <|
      (dss_one (ds_ret (de_dc (own := [("sign", 3), ("many", 4)]) (by rfl) nd (di_list (de_var (pv 2))) (blkOk_by (own := [("sign", 3), ("many", 4)]) (N := n_kept_wide) (sc := defScope s_kept_wide) (by decide +kernel)) (fun _ _ _ _ _ => by exact (dgw_tup (n := 2) (K := K) rfl rfl (dgsw_cons (dgw_name (n := 3) nd rfl (.inl rfl) (by decide)) (dgsw_cons (dgw_name (n := 4) nd rfl (.inl rfl) (by decide)) dgsw_nil)) (by rfl) (by rfl))) (fun _ _ _ _ _ => by exact (dts_one dt_nev)) (fun _ _ _ _ _ => by exact (de_var (pv 3))) (fun _ _ _ _ _ => by exact (de_var (pv 4))))))), ?_⟩
  rintro ds μ Q E ⟨r, rfl, q⟩
  walk_at "w"
  refine pairs0 ?_
  walk_at "w"
  refine forL_of ([] : List Nat) (fun _ => D.non) (fun i δ μ' => μ' = μ ∧ δ = [some D.non, some r, some (.lst []), none, none]) ⟨rfl, rfl⟩ (fun _ _ _ _ => trivial) (fun i x δ μ' k hx => by simp at hx) ?_
  rintro δ μ' ⟨rfl, rfl⟩
  walk_at "w"
  intro L hL
  refine dcL_of ([] : List Nat) (fun _ => D.non) (fun _ => none) (by decide) yes_off (fun i p μ' c hp of hc => by simp at hp) ?_
  rw [era_mup hL]
  exact q
theorem ok_kept_feet (T : Env K mg base) : FnOk P w K mg base (L2.CX P w) 6 T.f_kept_feet T.d_kept_feet ["feet", "ranks"] (lift K spKeptW) := by
  refine fn_x T.F_kept_feet sc_kept_feet (fun ds μ Q E h => ?len) (fun A outer s H E hr => ?_)
  case len =>
    first
    | (obtain ⟨rfl, _⟩ := h; rfl)
    | (obtain ⟨_, rfl, _⟩ := h; rfl)
    | (obtain ⟨_, _, rfl, _⟩ := h; rfl)
    | (obtain ⟨_, _, _, rfl, _⟩ := h; rfl)
    | (obtain ⟨_, _, _, _, rfl, _⟩ := h; rfl)
    | (obtain ⟨_, _, _, _, _, rfl, _⟩ := h; rfl)
    | (obtain ⟨_, _, _, _, _, _, rfl, _⟩ := h; rfl)
    | (obtain ⟨_, _, _, _, _, _, _, rfl, _⟩ := h; rfl)
    | (obtain ⟨_, _, _, _, _, _, _, _, rfl, _⟩ := h; rfl)
    | (obtain ⟨_, _, _, _, _, _, _, _, _, rfl, _⟩ := h; rfl)
    | (obtain ⟨_, _, _, _, _, _, _, _, _, _, rfl, _⟩ := h; rfl)
    | (obtain ⟨_, _, _, _, _, _, _, _, _, _, _, rfl, _⟩ := h; rfl)
    | (obtain ⟨_, _, _, _, _, _, _, _, _, _, _, _, rfl, _⟩ := h; rfl)
    | (obtain ⟨_, _, _, _, _, _, _, _, _, _, _, _, _, rfl, _⟩ := h; rfl)
    | (match ds, h with | [_, _], _ => rfl)
  have nd := sc_kept_feet.nd
  refine ⟨_, _, (dss_cons (ds_set (n := 2) nd rfl (by first | exact .inl rfl | exact .inr rfl) (de_call (ok_pairs_of T) (hr.mono (by decide)) (by rfl) T.g_pairs_of T.F_pairs_of.kp T.b_pairs_of .nil (fun _ _ => .nil) (passes_call (takes_of rfl rfl rfl rfl) (fun _ _ _ _ h => h)) (da_cons (de_var (pv 0)) (da_cons (de_str [102, 101, 101, 116] (by rfl)) da_nil)))) <|
      dss_cons (ds_for PySem.PassesOwn.leaving rfl (di_list (de_var (pv 2))) (dg_tup (n := 2) (K := K) rfl rfl (dgs_cons (dg_name (n := 3) nd rfl (by first | exact .inl rfl | exact .inr rfl)) (dgs_cons (dg_name (n := 4) nd rfl (by first | exact .inl rfl | exact .inr rfl)) dgs_nil)) (by rfl) (by rfl))
        (dss_one (ds_if dt_nev
          (dss_one (ds_raise rfl T.X_NoCase hr (takes_of rfl rfl rfl rfl) (da_cons (de_str [102, 101, 101, 116] (by rfl)) da_nil)))
          dss_nil))) <|
      (dss_one (ds_ret (de_dc (own := [("sign", 3), ("foot", 4)]) (by rfl) nd (di_list (de_var (pv 2))) (blkOk_by (own := [("sign", 3), ("foot", 4)]) (N := n_kept_feet) (sc := defScope s_kept_feet) (by decide +kernel)) (fun _ _ _ _ _ => by exact (dgw_tup (n := 2) (K := K) rfl rfl (dgsw_cons (dgw_name (n := 3) nd rfl (.inl rfl) (by decide)) (dgsw_cons (dgw_name (n := 4) nd rfl (.inl rfl) (by decide)) dgsw_nil)) (by rfl) (by rfl))) (fun _ _ _ _ _ => by exact (dts_one dt_nev)) (fun _ _ _ _ _ => by exact (de_var (pv 3))) (fun _ _ _ _ _ => by exact (de_var (pv 4))))))), ?_⟩
  rintro ds μ Q E ⟨r, rfl, q⟩
  walk_at "w"
  refine pairs0 ?_
  walk_at "w"
  refine forL_of ([] : List Nat) (fun _ => D.non) (fun i δ μ' => μ' = μ ∧ δ = [some D.non, some r, some (.lst []), none, none]) ⟨rfl, rfl⟩ (fun _ _ _ _ => trivial) (fun i x δ μ' k hx => by simp at hx) ?_
  rintro δ μ' ⟨rfl, rfl⟩
  walk_at "w"
  intro L hL
  refine dcL_of ([] : List Nat) (fun _ => D.non) (fun _ => none) (by decide) yes_off (fun i p μ' c hp of hc => by simp at hp) ?_
  rw [era_mup hL]
  exact q
def spKeptS : DSp := fun ds μ Q _ => ds = [.non] ∧ Q (rkD []) μ
theorem ok_kept_seats (T : Env K mg base) : FnOk P w K mg base (L2.CX P w) 6 T.f_kept_seats T.d_kept_seats ["seats"] (lift K spKeptS) := by
  refine fn_x T.F_kept_seats sc_kept_seats (fun ds μ Q E h => ?len) (fun A outer s H E hr => ?_)
  case len =>
    first
    | (obtain ⟨rfl, _⟩ := h; rfl)
    | (obtain ⟨_, rfl, _⟩ := h; rfl)
    | (obtain ⟨_, _, rfl, _⟩ := h; rfl)
    | (obtain ⟨_, _, _, rfl, _⟩ := h; rfl)
    | (obtain ⟨_, _, _, _, rfl, _⟩ := h; rfl)
    | (obtain ⟨_, _, _, _, _, rfl, _⟩ := h; rfl)
    | (obtain ⟨_, _, _, _, _, _, rfl, _⟩ := h; rfl)
    | (obtain ⟨_, _, _, _, _, _, _, rfl, _⟩ := h; rfl)
    | (obtain ⟨_, _, _, _, _, _, _, _, rfl, _⟩ := h; rfl)
    | (obtain ⟨_, _, _, _, _, _, _, _, _, rfl, _⟩ := h; rfl)
    | (obtain ⟨_, _, _, _, _, _, _, _, _, _, rfl, _⟩ := h; rfl)
    | (obtain ⟨_, _, _, _, _, _, _, _, _, _, _, rfl, _⟩ := h; rfl)
    | (obtain ⟨_, _, _, _, _, _, _, _, _, _, _, _, rfl, _⟩ := h; rfl)
    | (obtain ⟨_, _, _, _, _, _, _, _, _, _, _, _, _, rfl, _⟩ := h; rfl)
    | (match ds, h with | [_], _ => rfl)
  have nd := sc_kept_seats.nd
  refine ⟨_, _, (dss_cons (ds_set (n := 1) nd rfl (by first | exact .inl rfl | exact .inr rfl) (de_call (ok_pairs_of T) (hr.mono (by decide)) (by rfl) T.g_pairs_of T.F_pairs_of.kp T.b_pairs_of .nil (fun _ _ => .nil) (passes_call (takes_of rfl rfl rfl rfl) (fun _ _ _ _ h => h)) (da_cons (de_var (pv 0)) (da_cons (de_str [115, 101, 97, 116, 115] (by rfl)) da_nil)))) <|
      dss_cons (ds_for PySem.PassesOwn.leaving rfl (di_list (de_var (pv 1))) (dg_tup (n := 2) (K := K) rfl rfl (dgs_cons (dg_name (n := 2) nd rfl (by first | exact .inl rfl | exact .inr rfl)) (dgs_cons (dg_name (n := 3) nd rfl (by first | exact .inl rfl | exact .inr rfl)) dgs_nil)) (by rfl) (by rfl))
        (dss_one (ds_if dt_nev
          (dss_one (ds_raise rfl T.X_NoCase hr (takes_of rfl rfl rfl rfl) (da_cons (de_str [115, 101, 97, 116, 115] (by rfl)) da_nil)))
          dss_nil))) <|
      (dss_one (ds_ret (de_dc (own := [("key", 2), ("seat", 3)]) (by rfl) nd (di_list (de_var (pv 1))) (blkOk_by (own := [("key", 2), ("seat", 3)]) (N := n_kept_seats) (sc := defScope s_kept_seats) (by decide +kernel)) (fun _ _ _ _ _ => by exact (dgw_tup (n := 2) (K := K) rfl rfl (dgsw_cons (dgw_name (n := 2) nd rfl (.inl rfl) (by decide)) (dgsw_cons (dgw_name (n := 3) nd rfl (.inl rfl) (by decide)) dgsw_nil)) (by rfl) (by rfl))) (fun _ _ _ _ _ => by exact dts_nil) (fun _ _ _ _ _ => by exact (de_var (pv 2))) (fun _ _ _ _ _ => by exact (de_var (pv 3))))))), ?_⟩
  rintro ds μ Q E ⟨rfl, q⟩
  walk_at "w"
  refine pairs0 ?_
  walk_at "w"
  refine forL_of ([] : List Nat) (fun _ => D.non) (fun i δ μ' => μ' = μ ∧ δ = [some D.non, some (.lst []), none, none]) ⟨rfl, rfl⟩ (fun _ _ _ _ => trivial) (fun i x δ μ' k hx => by simp at hx) ?_
  rintro δ μ' ⟨rfl, rfl⟩
  walk_at "w"
  intro L hL
  refine dcL_of ([] : List Nat) (fun _ => D.non) (fun _ => none) (by decide) yes_off (fun i p μ' c hp of hc => by simp at hp) ?_
  rw [era_mup hL]
  exact q
/-- a case by ranks alone -/
def cas (C : Addr) (rk : List (Nat × Nat)) : D := .ins C ["_ranks", "_wide", "_feet", "_seats"] [rkD rk, rkD [], rkD [], rkD []]
theorem cas_ins {C : Addr} {μ : Mu} (rk : List (Nat × Nat)) : insOf C ["_ranks", "_wide", "_feet", "_seats"] (rd μ (cas C rk)) := ⟨rfl, rfl⟩
def spCInit (C : Addr) : DSp := fun ds μ Q _ => ∃ p d rk, ds = [.ref p, d, .non, .non, .non] ∧ μ p = some (.ins C [] []) ∧ ((d = .non ∧ rk = []) ∨ d = rkD rk) ∧ GoodK rk ∧ Q .non (mup μ p (cas C rk))
theorem ok_Case_init (T : Env K mg base) : FnOk P w K mg base (L2.CX P w) 12 T.f_Case_init T.d_Case_init ["self", "ranks", "wide", "feet", "seats"] (lift K (spCInit T.C_Case)) := by
  refine fn_x T.F_Case_init sc_Case_init (fun ds μ Q E h => ?len) (fun A outer s H E hr => ?_)
  case len =>
    first
    | (obtain ⟨rfl, _⟩ := h; rfl)
    | (obtain ⟨_, rfl, _⟩ := h; rfl)
    | (obtain ⟨_, _, rfl, _⟩ := h; rfl)
    | (obtain ⟨_, _, _, rfl, _⟩ := h; rfl)
    | (obtain ⟨_, _, _, _, rfl, _⟩ := h; rfl)
    | (obtain ⟨_, _, _, _, _, rfl, _⟩ := h; rfl)
    | (obtain ⟨_, _, _, _, _, _, rfl, _⟩ := h; rfl)
    | (obtain ⟨_, _, _, _, _, _, _, rfl, _⟩ := h; rfl)
    | (obtain ⟨_, _, _, _, _, _, _, _, rfl, _⟩ := h; rfl)
    | (obtain ⟨_, _, _, _, _, _, _, _, _, rfl, _⟩ := h; rfl)
    | (obtain ⟨_, _, _, _, _, _, _, _, _, _, rfl, _⟩ := h; rfl)
    | (obtain ⟨_, _, _, _, _, _, _, _, _, _, _, rfl, _⟩ := h; rfl)
    | (obtain ⟨_, _, _, _, _, _, _, _, _, _, _, _, rfl, _⟩ := h; rfl)
    | (obtain ⟨_, _, _, _, _, _, _, _, _, _, _, _, _, rfl, _⟩ := h; rfl)
    | (match ds, h with | [_, _, _, _, _], _ => rfl)
  have nd := sc_Case_init.nd
  refine ⟨_, _, (dss_cons (ds_new (K := K) (C := T.C_Case) (ks := []) rfl T.cl_Case T.na_Case_ranks (by decide +kernel) (by decide) (de_var (pv 0)) (de_call (ok_kept_ranks T) (hr.mono (by decide)) (by rfl) T.g_kept_ranks T.F_kept_ranks.kp T.b_kept_ranks .nil (fun _ _ => .nil) (passes_call (takes_of rfl rfl rfl rfl) (fun _ _ _ _ h => h)) (da_cons (de_var (pv 1)) da_nil)) rfl) <|
      dss_cons (ds_new (K := K) (C := T.C_Case) (ks := ["_ranks"]) rfl T.cl_Case T.na_Case_wide (by decide +kernel) (by decide) (de_var (pv 0)) (de_call (ok_kept_wide T) (hr.mono (by decide)) (by rfl) T.g_kept_wide T.F_kept_wide.kp T.b_kept_wide .nil (fun _ _ => .nil) (passes_call (takes_of rfl rfl rfl rfl) (fun _ _ _ _ h => h)) (da_cons (de_var (pv 2)) (da_cons (de_fld (K := K) (C := T.C_Case) (ks := ["_ranks"]) (i := 0) rfl T.cl_Case T.na_Case_ranks rfl (by decide +kernel) (de_var (pv 0)) rfl) da_nil))) rfl) <|
      dss_cons (ds_new (K := K) (C := T.C_Case) (ks := ["_ranks", "_wide"]) rfl T.cl_Case T.na_Case_feet (by decide +kernel) (by decide) (de_var (pv 0)) (de_call (ok_kept_feet T) (hr.mono (by decide)) (by rfl) T.g_kept_feet T.F_kept_feet.kp T.b_kept_feet .nil (fun _ _ => .nil) (passes_call (takes_of rfl rfl rfl rfl) (fun _ _ _ _ h => h)) (da_cons (de_var (pv 3)) (da_cons (de_fld (K := K) (C := T.C_Case) (ks := ["_ranks", "_wide"]) (i := 0) rfl T.cl_Case T.na_Case_ranks rfl (by decide +kernel) (de_var (pv 0)) rfl) da_nil))) rfl) <|
      (dss_one (ds_new (K := K) (C := T.C_Case) (ks := ["_ranks", "_wide", "_feet"]) rfl T.cl_Case T.na_Case_seats (by decide +kernel) (by decide) (de_var (pv 0)) (de_call (ok_kept_seats T) (hr.mono (by decide)) (by rfl) T.g_kept_seats T.F_kept_seats.kp T.b_kept_seats .nil (fun _ _ => .nil) (passes_call (takes_of rfl rfl rfl rfl) (fun _ _ _ _ h => h)) (da_cons (de_var (pv 4)) da_nil)) rfl))), ?_⟩
  rintro ds μ Q E ⟨p, d, rk, rfl, hp, h, g, q⟩
  walk_at "w"
  refine ⟨d, rk, rfl, h, g, ?_⟩
  walk_at "w"
  rw [hp]
  walk_at "w"
  refine ⟨_, rfl, ?_⟩
  walk_at "w"
  refine ⟨_, rfl, ?_⟩
  walk_at "w"
  refine ⟨rfl, ?_⟩
  walk_at "w"
  exact q
def rnD : Option Nat → D
  | none => .non
  | some r => .int (r : Nat)
def spRankOf (C : Addr) : DSp := fun ds μ Q _ => ∃ rk c, ds = [cas C rk, .str [c]] ∧ Q (rnD (rkOf rk c)) μ
theorem ok_Case_rank_of (T : Env K mg base) : FnOk P w K mg base L2.CX0 3 T.f_Case_rank_of T.d_Case_rank_of ["self", "sign"] (lift K (spRankOf T.C_Case)) := by
  refine fn_n T.F_Case_rank_of sc_Case_rank_of (fun ds μ Q E h => ?len) (fun A outer s H E hr => ?_)
  case len =>
    first
    | (obtain ⟨rfl, _⟩ := h; rfl)
    | (obtain ⟨_, rfl, _⟩ := h; rfl)
    | (obtain ⟨_, _, rfl, _⟩ := h; rfl)
    | (obtain ⟨_, _, _, rfl, _⟩ := h; rfl)
    | (obtain ⟨_, _, _, _, rfl, _⟩ := h; rfl)
    | (obtain ⟨_, _, _, _, _, rfl, _⟩ := h; rfl)
    | (obtain ⟨_, _, _, _, _, _, rfl, _⟩ := h; rfl)
    | (obtain ⟨_, _, _, _, _, _, _, rfl, _⟩ := h; rfl)
    | (obtain ⟨_, _, _, _, _, _, _, _, rfl, _⟩ := h; rfl)
    | (obtain ⟨_, _, _, _, _, _, _, _, _, rfl, _⟩ := h; rfl)
    | (obtain ⟨_, _, _, _, _, _, _, _, _, _, rfl, _⟩ := h; rfl)
    | (obtain ⟨_, _, _, _, _, _, _, _, _, _, _, rfl, _⟩ := h; rfl)
    | (obtain ⟨_, _, _, _, _, _, _, _, _, _, _, _, rfl, _⟩ := h; rfl)
    | (obtain ⟨_, _, _, _, _, _, _, _, _, _, _, _, _, rfl, _⟩ := h; rfl)
    | (match ds, h with | [_, _], _ => rfl)
  have nd := sc_Case_rank_of.nd
  refine ⟨_, _, (dss_one (ds_ret (de_dget1 (hu1 hr) (de_fld (K := K) (C := T.C_Case) (ks := ["_ranks", "_wide", "_feet", "_seats"]) (i := 0) rfl T.cl_Case T.na_Case_ranks rfl (by decide +kernel) (de_var (pv 0)) rfl) (de_var (pv 1)) ⟨rfl, rfl, rfl, rfl⟩))), ?_⟩
  rintro ds μ Q E ⟨rk, c, rfl, q⟩
  unfold cas rkD
  walk_at "w"
  rw [look_rk]
  cases h : rkOf rk c with
  | none => rw [h] at q; exact q
  | some r => rw [h] at q; exact q
def spIsBase (C : Addr) : DSp := fun ds μ Q _ => ∃ rk c, ds = [cas C rk, .str [c]] ∧ Q (.bl (rkOf rk c).isNone) μ
theorem ok_Case_is_base (T : Env K mg base) : FnOk P w K mg base L2.CX0 3 T.f_Case_is_base T.d_Case_is_base ["self", "sign"] (lift K (spIsBase T.C_Case)) := by
  refine fn_n T.F_Case_is_base sc_Case_is_base (fun ds μ Q E h => ?len) (fun A outer s H E hr => ?_)
  case len =>
    first
    | (obtain ⟨rfl, _⟩ := h; rfl)
    | (obtain ⟨_, rfl, _⟩ := h; rfl)
    | (obtain ⟨_, _, rfl, _⟩ := h; rfl)
    | (obtain ⟨_, _, _, rfl, _⟩ := h; rfl)
    | (obtain ⟨_, _, _, _, rfl, _⟩ := h; rfl)
    | (obtain ⟨_, _, _, _, _, rfl, _⟩ := h; rfl)
    | (obtain ⟨_, _, _, _, _, _, rfl, _⟩ := h; rfl)
    | (obtain ⟨_, _, _, _, _, _, _, rfl, _⟩ := h; rfl)
    | (obtain ⟨_, _, _, _, _, _, _, _, rfl, _⟩ := h; rfl)
    | (obtain ⟨_, _, _, _, _, _, _, _, _, rfl, _⟩ := h; rfl)
    | (obtain ⟨_, _, _, _, _, _, _, _, _, _, rfl, _⟩ := h; rfl)
    | (obtain ⟨_, _, _, _, _, _, _, _, _, _, _, rfl, _⟩ := h; rfl)
    | (obtain ⟨_, _, _, _, _, _, _, _, _, _, _, _, rfl, _⟩ := h; rfl)
    | (obtain ⟨_, _, _, _, _, _, _, _, _, _, _, _, _, rfl, _⟩ := h; rfl)
    | (match ds, h with | [_, _], _ => rfl)
  have nd := sc_Case_is_base.nd
  refine ⟨_, _, (dss_one (ds_ret (de_cmp (o_ninD (hu1 hr)) (de_var (pv 1)) (de_fld (K := K) (C := T.C_Case) (ks := ["_ranks", "_wide", "_feet", "_seats"]) (i := 0) rfl T.cl_Case T.na_Case_ranks rfl (by decide +kernel) (de_var (pv 0)) rfl) (by rfl)))), ?_⟩
  rintro ds μ Q E ⟨rk, c, rfl, q⟩
  unfold cas rkD
  walk_at "w"
  rw [look_rk]
  cases h : rkOf rk c with
  | none => rw [h] at q; exact q
  | some r => rw [h] at q; exact q

/-! clusters, and places by heights -/
theorem lcL_fil {α : Type} {g : DTG} {tt : DTT} {te : DTE} {δ : Sl} {L : Addr} {C : Mu → Prop} {k : List D → Mu → Prop} {μ : Mu} (gx : α → D) (f : α → Bool) (y : α → D) (hC : ∀ μ', Off L μ μ' → C μ') : ∀ (l : List α) (acc : List D), acc.length + l.length ≤ 16777216 →
    (∀ a ∈ l, ∀ (μ' : Mu) (c : Option D → Mu → Prop), Off L μ μ' → c (bif f a then some (y a) else none) μ' → lcStep g tt te δ (gx a) μ' c) → k (acc ++ (l.filter f).map y) (mup μ L (.lst (acc ++ (l.filter f).map y))) → lcL g tt te δ L C k (l.map gx) acc (mup μ L (.lst acc))
  | [], acc, _, _, hd => by
    rw [List.filter_nil, List.map_nil, List.append_nil] at hd
    exact ⟨hC _ fun a ne => mup_ne ne, mup_same, hd⟩
  | a :: l, acc, hl, hs, hd => by
    rw [List.length_cons] at hl
    refine ⟨hC _ fun a ne => mup_ne ne, hs a List.mem_cons_self _ _ (fun a ne => mup_ne ne) ?_⟩
    cases h : f a with
    | true =>
      refine ⟨mup_same, by omega, ?_⟩
      rw [mup_mup]
      refine lcL_fil gx f y hC l _ (by rw [List.length_append, List.length_singleton]; omega) (fun b hb => hs b (List.mem_cons_of_mem _ hb)) ?_
      rw [List.filter_cons_of_pos h, List.map_cons] at hd
      rw [List.append_assoc]
      exact hd
    | false =>
      rw [List.filter_cons_of_neg (by rw [h]; decide)] at hd
      exact lcL_fil gx f y hC l _ (by omega) (fun b hb => hs b (List.mem_cons_of_mem _ hb)) hd
def enG {α : Type} (l : List α) (f : α → D) (i : Nat) : D := match l[i]? with | some g => f g | none => .non
theorem enG_at {α : Type} {l : List α} {f : α → D} {i : Nat} {a : α} (h : l[i]? = some a) : enG l f i = f a := by unfold enG; rw [h]
theorem enumD_rng {α : Type} (l : List α) (f : α → D) : enumD (l.map f) = (List.range l.length).map fun i : Nat => D.tup [.int i, enG l f i] := by
  unfold enumD
  refine List.ext_getElem? fun i => ?_
  rw [List.getElem?_map, List.getElem?_zipIdx, List.getElem?_map, List.getElem?_map]
  cases h : l[i]? with
  | none =>
    rw [List.getElem?_eq_none (l := List.range l.length) (by rw [List.length_range]; exact List.getElem?_eq_none_iff.mp h)]
    rfl
  | some a =>
    rw [List.getElem?_range (List.getElem?_eq_some_iff.mp h).1]
    simp only [Option.map_some, enG, h, Nat.zero_add]
/-- whether a cluster begins at a place -/
def bsAt (rk : List (Nat × Nat)) (l : List Nat) (i : Nat) : Bool := decide (i = 0) || (match l[i]? with | some c => (rkOf rk c).isNone | none => false)
theorem bsAt_at {rk : List (Nat × Nat)} {l : List Nat} {i c : Nat} (h : l[i]? = some c) : bsAt rk l i = (decide (i = 0) || (rkOf rk c).isNone) := by unfold bsAt; rw [h]
/-- where clusters begin -/
def bgs (rk : List (Nat × Nat)) (l : List Nat) : List Nat := (List.range l.length).filter (bsAt rk l)
def cls (rk : List (Nat × Nat)) (l : List Nat) : List (Nat × Nat) := (bgs rk l).zip ((bgs rk l).drop 1 ++ [l.length])
def prN (p : Nat × Nat) : D := .tup [.int (p.1 : Nat), .int (p.2 : Nat)]
def spCls (C X : Addr) : DSp := fun ds μ Q E => ∃ rk w o, ds = [cas C rk, w] ∧ WordIs μ SG w o ∧ (match o with | some i => E X "at" (.int i) μ | none => ∀ l, w = .str l → l.length ≤ 4000 ∧ Q (.lst ((cls rk l).map prN)) μ)
theorem ok_clusters (T : Env K mg base) : FnOk P w K mg base (L2.CX P w) 12 T.f_clusters T.d_clusters ["case", "word"] (lift K (spCls T.C_Case T.C_NoWord)) := by
  refine fn_x T.F_clusters sc_clusters (fun ds μ Q E h => ?len) (fun A outer s H E hr => ?_)
  case len =>
    first
    | (obtain ⟨rfl, _⟩ := h; rfl)
    | (obtain ⟨_, rfl, _⟩ := h; rfl)
    | (obtain ⟨_, _, rfl, _⟩ := h; rfl)
    | (obtain ⟨_, _, _, rfl, _⟩ := h; rfl)
    | (obtain ⟨_, _, _, _, rfl, _⟩ := h; rfl)
    | (obtain ⟨_, _, _, _, _, rfl, _⟩ := h; rfl)
    | (obtain ⟨_, _, _, _, _, _, rfl, _⟩ := h; rfl)
    | (obtain ⟨_, _, _, _, _, _, _, rfl, _⟩ := h; rfl)
    | (obtain ⟨_, _, _, _, _, _, _, _, rfl, _⟩ := h; rfl)
    | (obtain ⟨_, _, _, _, _, _, _, _, _, rfl, _⟩ := h; rfl)
    | (obtain ⟨_, _, _, _, _, _, _, _, _, _, rfl, _⟩ := h; rfl)
    | (obtain ⟨_, _, _, _, _, _, _, _, _, _, _, rfl, _⟩ := h; rfl)
    | (obtain ⟨_, _, _, _, _, _, _, _, _, _, _, _, rfl, _⟩ := h; rfl)
    | (obtain ⟨_, _, _, _, _, _, _, _, _, _, _, _, _, rfl, _⟩ := h; rfl)
    | (match ds, h with | [_, _], _ => rfl)
  have nd := sc_clusters.nd
  refine ⟨_, _, (dss_cons (ds_expr (de_call (ok_want_word T) (hr.mono (by decide)) (by rfl) T.g_want_word T.F_want_word.kp T.b1_want_word.choose_spec.2 T.b1_want_word.choose_spec.1 (fun _ _ => (.cons .non .nil)) (passes_call (takes_of rfl rfl rfl rfl) (fun _ _ _ _ h => h)) (da_cons (de_var (pv 1)) da_nil))) <|
      dss_cons (ds_setLc (i := 2) (own := [("at", 4), ("sign", 5)]) (by rfl) nd rfl rfl (sw_true rfl rfl rfl (by decide +kernel)) (di_es (by rfl) T.z_enumerate (da_cons (de_var (pv 1)) da_nil)) (blkOk_by (own := [("at", 4), ("sign", 5)]) (N := n_clusters) (sc := defScope s_clusters) (by decide +kernel)) (fun _ _ _ _ _ => by exact (dgw_tup (n := 2) (K := K) rfl rfl (dgsw_cons (dgw_name (n := 4) nd rfl (.inl rfl) (by decide)) (dgsw_cons (dgw_name (n := 5) nd rfl (.inl rfl) (by decide)) dgsw_nil)) (by rfl) (by rfl))) (fun _ _ _ _ _ => by exact (dts_one (dw_dt (dw_or (dt_cmp o_eq (de_var (pv 4)) de_int (nomark _)) (dw_or1 (dt_val (de_meth (ks := ["_ranks", "_wide", "_feet", "_seats"]) (de_var (pv 0)) T.cl_Case T.m_Case_is_base (ok_Case_is_base T) (hr.mono (by decide)) T.b_Case_is_base .nil (fun _ _ => .nil) passN (by decide +kernel) (da_cons (de_var (pv 5)) da_nil)))))))) (fun _ _ _ _ _ => by exact (de_var (pv 4)))) <|
      dss_cons (ds_set (n := 3) nd rfl (by first | exact .inl rfl | exact .inr rfl) (de_op o_cat (de_slice l_list (de_var (pv 2)) (do_some de_int) do_none) (de_lst (da_cons (de_callB c_lenS (by rfl) T.z_len PySem.boot_len (da_cons (de_var (pv 1)) da_nil)) da_nil)))) <|
      (dss_one (ds_ret (de_lz rfl rfl (by rfl) T.z_list (by rfl) T.z_zip (da_cons (de_var (pv 2)) (da_cons (de_var (pv 3)) da_nil)))))), ?_⟩
  rintro ds μ Q E ⟨rk, w, o, rfl, hw, q⟩
  walk_at "w"
  refine ⟨w, .non, SG, o, rfl, .inl ⟨rfl, rfl⟩, hw, ?_⟩
  cases o with
  | some i => exact q
  | none =>
  obtain ⟨l, rfl⟩ : ∃ l, w = .str l := by
    rcases hw with ⟨l, rfl, _⟩ | ⟨_, _, _, _, h⟩
    · exact ⟨l, rfl⟩
    · cases h
  obtain ⟨hl, q⟩ := q l rfl
  walk_at "w"
  intro L hL
  rw [enumD_rng]
  refine lcL_fil (fun i => .tup [.int (i : Nat), enG l (fun c => .str [c]) i]) (bsAt rk l) (fun i => .int (i : Nat)) yes_off (List.range l.length) [] (by rw [List.length_range]; show 0 + l.length ≤ _; omega) (fun i hi μ' cc of hcc => ?_) ?_
  · have hlt := List.mem_range.mp hi
    have hc := List.getElem?_eq_getElem hlt
    rw [bsAt_at hc] at hcc
    rw [enG_at hc]
    walk_at "w"
    rw [show decide ((i : Int) = 0) = decide (i = 0) from by rw [decide_eq_decide]; omega]
    cases h0 : decide (i = 0) with
    | true =>
      rw [h0, Bool.true_or] at hcc
      exact hcc
    | false =>
      rw [h0, Bool.false_or] at hcc
      walk_at "w"
      refine ⟨cas_ins _, _, _, rfl, ?_⟩
      walk_at "w"
      cases h1 : (rkOf rk l[i]).isNone <;> rw [h1] at hcc <;> exact hcc
  · rw [List.nil_append, era_mup hL, show (List.range l.length).filter (bsAt rk l) = bgs rk l from rfl]
    have lb : (bgs rk l).length ≤ l.length := Nat.le_trans (List.length_filter_le ..) (by rw [List.length_range]; exact Nat.le_refl _)
    rw [show cutL ((bgs rk l).map fun i => D.int (i : Nat)) (some 1) none = ((bgs rk l).map fun i => D.int (i : Nat)).drop 1 from cutL_from _ 1]
    refine ⟨by omega, by decide, by rw [List.length_drop, List.length_map]; omega, ?_⟩
    rw [show zipD ((bgs rk l).map fun i => D.int (i : Nat)) (((bgs rk l).map fun i => D.int (i : Nat)).drop 1 ++ [.int (l.length : Nat)]) = (cls rk l).map prN from ?_]
    · exact q
    · rw [← List.map_drop, show ([.int (l.length : Nat)] : List D) = [l.length].map fun i => D.int (i : Nat) from rfl, ← List.map_append]
      unfold cls zipD
      rw [List.zipWith_map, List.zip, List.map_zipWith]
      rfl
def ohN : Option Nat → Nat
  | none => 1
  | some 0 => 0
  | some (r + 1) => r + 2
def shN : Option Nat → Nat
  | none => 0
  | some r => r + 1
def spHt (C : Addr) (h : Option Nat → Nat) : DSp := fun ds μ Q _ => ∃ rk c, ds = [cas C rk, .str [c]] ∧ Q (.int (h (rkOf rk c) : Nat)) μ
theorem ok_ordered_height (T : Env K mg base) : FnOk P w K mg base L2.CX0 6 T.f_ordered_height T.d_ordered_height ["case", "sign"] (lift K (spHt T.C_Case ohN)) := by
  refine fn_n T.F_ordered_height sc_ordered_height (fun ds μ Q E h => ?len) (fun A outer s H E hr => ?_)
  case len =>
    first
    | (obtain ⟨rfl, _⟩ := h; rfl)
    | (obtain ⟨_, rfl, _⟩ := h; rfl)
    | (obtain ⟨_, _, rfl, _⟩ := h; rfl)
    | (obtain ⟨_, _, _, rfl, _⟩ := h; rfl)
    | (obtain ⟨_, _, _, _, rfl, _⟩ := h; rfl)
    | (obtain ⟨_, _, _, _, _, rfl, _⟩ := h; rfl)
    | (obtain ⟨_, _, _, _, _, _, rfl, _⟩ := h; rfl)
    | (obtain ⟨_, _, _, _, _, _, _, rfl, _⟩ := h; rfl)
    | (obtain ⟨_, _, _, _, _, _, _, _, rfl, _⟩ := h; rfl)
    | (obtain ⟨_, _, _, _, _, _, _, _, _, rfl, _⟩ := h; rfl)
    | (obtain ⟨_, _, _, _, _, _, _, _, _, _, rfl, _⟩ := h; rfl)
    | (obtain ⟨_, _, _, _, _, _, _, _, _, _, _, rfl, _⟩ := h; rfl)
    | (obtain ⟨_, _, _, _, _, _, _, _, _, _, _, _, rfl, _⟩ := h; rfl)
    | (obtain ⟨_, _, _, _, _, _, _, _, _, _, _, _, _, rfl, _⟩ := h; rfl)
    | (match ds, h with | [_, _], _ => rfl)
  have nd := sc_ordered_height.nd
  refine ⟨_, _, (dss_cons (ds_set (n := 2) nd rfl (by first | exact .inl rfl | exact .inr rfl) (de_meth (ks := ["_ranks", "_wide", "_feet", "_seats"]) (de_var (pv 0)) T.cl_Case T.m_Case_rank_of (ok_Case_rank_of T) (hr.mono (by decide)) T.b_Case_rank_of .nil (fun _ _ => .nil) passN (by decide +kernel) (da_cons (de_var (pv 1)) da_nil))) <|
      dss_cons (ds_if (dt_cmp o_isN (de_var (pv 2)) de_non (nomark _))
        (dss_one (ds_ret de_int))
        dss_nil) <|
      dss_cons (ds_if (dt_cmp o_eq (de_var (pv 2)) de_int (nomark _))
        (dss_one (ds_ret de_int))
        dss_nil) <|
      (dss_one (ds_ret (de_op o_add (de_var (pv 2)) de_int)))), ?_⟩
  rintro ds μ Q E ⟨rk, c, rfl, q⟩
  walk_at "w"
  refine ⟨cas_ins _, rk, c, rfl, ?_⟩
  cases h : rkOf rk c with
  | none => rw [h] at q; exact q
  | some r =>
    rw [h] at q
    cases r with
    | zero => exact q
    | succ r =>
      show (match eqF (.int ((r + 1 : Nat) : Int)) (.int 0) with | some b => _ | none => False)
      rw [eqF_int_int, decide_eq_false (by omega)]
      exact q
def heightL (T : Env K mg base) : List (Addr × DSp) := [(T.f_ordered_height, spHt T.C_Case ohN)]
theorem held_height (T : Env K mg base) : ∀ q ∈ heightL T, HeldD P w K mg base 6 q.1 q.2 := by
  intro q hq
  rw [List.mem_singleton.mp hq]
  exact ⟨_, _, ok_ordered_height T, T.F_ordered_height.kp, T.b_ordered_height⟩

def Ext0 (μ μ' : Mu) : Prop := (∀ b, μ b ≠ none → μ' b = μ b) ∧ ∀ b q, μ b = none → μ' b ≠ some (.tab q)
theorem ext0_new {p : Addr} {μ : Mu} {d : D} (h : μ p = none) (nt : ∀ q, d ≠ .tab q) : Ext0 μ (mup μ p d) :=
  ⟨fun b hb => mup_ne fun z => hb (by rw [z]; exact h), fun b q hb => by
    by_cases z : b = p
    · rw [z, mup_same]; exact fun w => nt q (Option.some.inj w)
    · rw [mup_ne z, hb]; exact fun w => by cases w⟩
theorem Ext0.trans {μ μ1 μ2 : Mu} (a : Ext0 μ μ1) (b : Ext0 μ1 μ2) : Ext0 μ μ2 :=
  ⟨fun c h => by rw [b.1 c (by rw [a.1 c h]; exact h), a.1 c h], fun c q h => by
    by_cases h1 : μ1 c = none
    · exact b.2 c q h1
    · rw [b.1 c h1]; exact a.2 c q h⟩

theorem joinN_nil {a : List Nat} : joinN a [] = [] := by unfold joinN; rw [TL.join_eq]; rfl
theorem joinN_single {a x : List Nat} : joinN a [x] = x := by unfold joinN; rw [TL.join_eq]; rfl
theorem joinN_cons {a x y : List Nat} {r : List (List Nat)} : joinN a (x :: y :: r) = x ++ (a ++ joinN a (y :: r)) := by
  unfold joinN
  rw [TL.join_eq, TL.join_eq, ← List.append_assoc]
  show sg (ofL x ++ ofL a ++ Str.join (ofL a) (ofL y :: r.map ofL)) = _
  rw [sg_app, sg_app]
  rfl
theorem joinN_le {a : List Nat} : ∀ ls : List (List Nat), (joinN a ls).length ≤ (ls.map (·.length)).sum + ls.length * a.length
  | [] => by rw [joinN_nil]; exact Nat.zero_le _
  | [x] => by rw [joinN_single]; simp
  | x :: y :: r => by
    have ih := joinN_le (a := a) (y :: r)
    rw [joinN_cons, List.length_append, List.length_append]
    simp only [List.map_cons, List.sum_cons, List.length_cons] at ih ⊢
    rw [Nat.add_mul (r.length + 1) 1]
    omega
theorem sum_le {n : Nat} : ∀ {ls : List (List Nat)}, (∀ w ∈ ls, w.length ≤ n) → (ls.map (·.length)).sum ≤ ls.length * n
  | [], _ => by simp
  | x :: r, h => by
    have h1 := h x (.head _)
    have ih := sum_le fun w hw => h w (.tail _ hw)
    rw [List.map_cons, List.sum_cons, List.length_cons, Nat.succ_mul]
    omega
theorem joinN_one (m : List Nat) : joinN [] (m.map fun c => [c]) = m := by
  unfold joinN
  rw [List.map_map]
  exact congrArg (fun s : Str => s.cps.toList) (txt_join m)
theorem sum_ones (m : List Nat) : ((m.map fun c => [c]).map (fun x => x.length)).sum = m.length := by
  induction m with
  | nil => rfl
  | cons c r ih => rw [List.map_cons, List.map_cons, List.sum_cons, ih]; simp; omega
theorem asS_signs (m : List Nat) : asS (m.map fun c => D.str [c]) = some (m.map fun c => [c]) := by
  have := asS_map (m.map fun c => [c])
  rw [List.map_map] at this
  exact this
theorem joinN_flat : ∀ ls : List (List Nat), joinN [] ls = ls.flatten
  | [] => by rw [joinN_nil]; rfl
  | [x] => by rw [joinN_single]; simp
  | x :: y :: r => by
    have ih := joinN_flat (y :: r)
    rw [joinN_cons, ih, List.nil_append]
    rfl
theorem keeps_off {d : D} {xs : List D} {L : Addr} {μ μ' : Mu} (h : rd μ d = .lst xs) (hL : μ L = none) (o : Off L μ μ') : keeps d xs μ' := by
  cases d with
  | ref p =>
    have h : (μ p).getD (.ref p) = .lst xs := h
    cases e : μ p with
    | none => rw [e] at h; cases h
    | some y =>
      rw [e] at h
      have ne : p ≠ L := fun z => by rw [z, hL] at e; cases e
      show μ' p = some (.lst xs)
      rw [o p ne, e]
      exact congrArg some h
  | _ => trivial

/-! places by heights -/
theorem lexLe_antisymm {p q : Int × Int} (h1 : lexLe p q) (h2 : lexLe q p) : p = q := by
  have h1 : p.1 < q.1 ∨ (p.1 = q.1 ∧ p.2 ≤ q.2) := h1
  have h2 : q.1 < p.1 ∨ (q.1 = p.1 ∧ q.2 ≤ p.2) := h2
  exact Prod.ext (by omega) (by omega)
theorem sort_uniq : ∀ {a b : List (Int × Int)}, a.Perm b → a.Pairwise lexLe → b.Pairwise lexLe → a = b
  | [], b, p, _, _ => (List.Perm.eq_nil p.symm).symm
  | x :: a, [], p, _, _ => absurd p.length_eq (by simp)
  | x :: a, y :: b, p, ha, hb => by
    obtain ⟨a1, a2⟩ := List.pairwise_cons.mp ha
    obtain ⟨b1, b2⟩ := List.pairwise_cons.mp hb
    have e : x = y := by
      rcases List.mem_cons.mp (p.mem_iff.mp List.mem_cons_self) with e | e
      · exact e
      · rcases List.mem_cons.mp (p.mem_iff.mpr List.mem_cons_self) with e2 | e2
        · exact e2.symm
        · exact lexLe_antisymm (a1 y e2) (b1 x e)
    subst e
    rw [sort_uniq p.cons_inv a2 b2]
/-- things by their heights, level by level -/
def levN (h : Nat → Nat) (l : List Nat) (n : Nat) : List Nat := (List.range n).flatMap fun v => l.filter fun a => decide (h a = v)
def lev (h : Nat → Nat) (l : List Nat) : List Nat := levN h l 11
theorem levN_next (h : Nat → Nat) (l : List Nat) (n : Nat) : levN h l (n + 1) = levN h l n ++ l.filter fun a => decide (h a = n) := by
  unfold levN
  rw [List.range_succ, List.flatMap_append]
  simp
theorem filter_two {p q r : Nat → Bool} : ∀ (l : List Nat), (∀ a ∈ l, r a = (p a || q a) ∧ ¬ (p a = true ∧ q a = true)) → (l.filter p ++ l.filter q).Perm (l.filter r)
  | [], _ => .refl _
  | x :: l, h => by
    have ih := filter_two l fun a ha => h a (List.mem_cons_of_mem _ ha)
    obtain ⟨e, n⟩ := h x List.mem_cons_self
    cases hp : p x with
    | true =>
      have hq : q x = false := by cases hq : q x with | true => exact absurd ⟨hp, hq⟩ n | false => rfl
      rw [hp, hq] at e
      rw [List.filter_cons_of_pos hp, List.filter_cons_of_neg (by rw [hq]; decide), List.filter_cons_of_pos (by rw [e]; rfl), List.cons_append]
      exact ih.cons x
    | false =>
      cases hq : q x with
      | true =>
        rw [hp, hq] at e
        rw [List.filter_cons_of_neg (by rw [hp]; decide), List.filter_cons_of_pos hq, List.filter_cons_of_pos (by rw [e]; rfl)]
        exact List.perm_middle.trans (ih.cons x)
      | false =>
        rw [hp, hq] at e
        rw [List.filter_cons_of_neg (by rw [hp]; decide), List.filter_cons_of_neg (by rw [hq]; decide), List.filter_cons_of_neg (by rw [e]; decide)]
        exact ih
theorem levN_perm (h : Nat → Nat) (l : List Nat) : ∀ n, (levN h l n).Perm (l.filter fun a => decide (h a < n))
  | 0 => by
    rw [show levN h l 0 = [] from rfl, List.filter_eq_nil_iff.mpr fun a _ => by simp]
  | n + 1 => by
    rw [levN_next]
    refine ((levN_perm h l n).append_right _).trans (filter_two l fun a _ => ⟨?_, ?_⟩)
    · rw [Bool.eq_iff_iff, Bool.or_eq_true, decide_eq_true_eq, decide_eq_true_eq, decide_eq_true_eq]
      omega
    · rw [decide_eq_true_eq, decide_eq_true_eq]
      omega
theorem lev_perm {h : Nat → Nat} {l : List Nat} (hb : ∀ a ∈ l, h a ≤ 10) : (lev h l).Perm l := by
  have := levN_perm h l 11
  rw [List.filter_eq_self.mpr fun a ha => by have := hb a ha; rw [decide_eq_true_eq]; omega] at this
  exact this
def prH (h : Nat → Nat) (a : Nat) : Int × Int := ((h a : Nat), (a : Nat))
theorem levN_sorted {h : Nat → Nat} {l : List Nat} (hl : l.Pairwise (· < ·)) : ∀ n, ((levN h l n).map (prH h)).Pairwise lexLe
  | 0 => .nil
  | n + 1 => by
    rw [levN_next, List.map_append]
    refine List.pairwise_append.mpr ⟨levN_sorted hl n, ?_, fun x hx y hy => ?_⟩
    · refine List.pairwise_map.mpr (List.Pairwise.imp_of_mem (fun {a b} ha hb hab => ?_) (hl.filter _))
      have h1 := of_decide_eq_true (List.mem_filter.mp ha).2
      have h2 := of_decide_eq_true (List.mem_filter.mp hb).2
      refine .inr ⟨?_, ?_⟩
      · show ((h a : Nat) : Int) = (h b : Nat)
        rw [h1, h2]
      · show ((a : Nat) : Int) ≤ (b : Nat)
        omega
    · obtain ⟨a, ha, rfl⟩ := List.mem_map.mp hx
      obtain ⟨b, hb, rfl⟩ := List.mem_map.mp hy
      have h1 := of_decide_eq_true (List.mem_filter.mp ((levN_perm h l n).mem_iff.mp ha)).2
      have h2 := of_decide_eq_true (List.mem_filter.mp hb).2
      refine .inl ?_
      show ((h a : Nat) : Int) < (h b : Nat)
      omega
theorem sorted_lev {h : Nat → Nat} {l : List Nat} {qs : List (Int × Int)} (hl : l.Pairwise (· < ·)) (hb : ∀ a ∈ l, h a ≤ 10) (p : qs.Perm (l.map (prH h))) (s : qs.Pairwise lexLe) : qs = (lev h l).map (prH h) :=
  sort_uniq (p.trans ((lev_perm hb).map (prH h)).symm) s (levN_sorted hl 11)
/-- a place's height -/
def hAt (h : Option Nat → Nat) (rk : List (Nat × Nat)) (l : List Nat) (a : Nat) : Nat := match l[a]? with | some c => h (rkOf rk c) | none => 0
theorem hAt_at {h : Option Nat → Nat} {rk : List (Nat × Nat)} {l : List Nat} {a c : Nat} (e : l[a]? = some c) : hAt h rk l a = h (rkOf rk c) := by unfold hAt; rw [e]
def Low (h : Option Nat → Nat) : Prop := h none ≤ 10 ∧ ∀ r, r ≤ 9 → h (some r) ≤ 10
theorem low_oh : Low ohN := ⟨by decide, fun r h => by cases r <;> show _ ≤ 10 <;> simp [ohN] <;> omega⟩
theorem low_sh : Low shN := ⟨by decide, fun r h => by show r + 1 ≤ 10; omega⟩
theorem hAt_le {h : Option Nat → Nat} (lo : Low h) {rk : List (Nat × Nat)} (g : GoodK rk) (l : List Nat) (a : Nat) : hAt h rk l a ≤ 10 := by
  unfold hAt
  cases l[a]? with
  | none => exact Nat.zero_le _
  | some c =>
    show h (rkOf rk c) ≤ 10
    cases e : rkOf rk c with
    | none => exact lo.1
    | some r => exact lo.2 r (g.of e)
def plc (h : Option Nat → Nat) (rk : List (Nat × Nat)) (l : List Nat) : List Nat := (cls rk l).flatMap fun p => lev (hAt h rk l) (List.range' p.1 (p.2 - p.1))
theorem bgs_lt {rk : List (Nat × Nat)} {l : List Nat} {i : Nat} (h : i ∈ bgs rk l) : i < l.length := List.mem_range.mp (List.mem_filter.mp h).1
theorem cls_le {rk : List (Nat × Nat)} {l : List Nat} {p : Nat × Nat} (h : p ∈ cls rk l) : p.1 < l.length ∧ p.2 ≤ l.length := by
  have h2 := List.of_mem_zip (a := p.1) (b := p.2) h
  refine ⟨bgs_lt h2.1, ?_⟩
  rcases List.mem_append.mp h2.2 with h | h
  · exact Nat.le_of_lt (bgs_lt (List.mem_of_mem_drop h))
  · rw [List.mem_singleton.mp h]; exact Nat.le_refl _
theorem flatMap_len {α β : Type} {f : α → List β} : ∀ (l : List α) (n : Nat), (∀ a ∈ l, (f a).length ≤ n) → (l.flatMap f).length ≤ l.length * n
  | [], n, _ => by simp
  | a :: l, n, h => by
    have h1 := h a List.mem_cons_self
    have h2 := flatMap_len l n fun b hb => h b (List.mem_cons_of_mem _ hb)
    rw [List.flatMap_cons, List.length_append, List.length_cons, Nat.add_mul, Nat.one_mul]
    omega
theorem cls_len (rk : List (Nat × Nat)) (l : List Nat) : (cls rk l).length ≤ l.length := by
  unfold cls
  rw [List.length_zip]
  have : (bgs rk l).length ≤ l.length := Nat.le_trans (List.length_filter_le ..) (by rw [List.length_range]; exact Nat.le_refl _)
  omega
/-- a word, or what is none, by itself -/
def WordU (w : D) (o : Option Int) : Prop :=
  (∃ l, w = .str l ∧ l.length ≤ 1000000 ∧ o = (badAt SG l).map fun i => (i : Int)) ∨ ((∀ a, w ≠ .ref a) ∧ ∃ t, tyN w = some t ∧ kitB t "str" = some false ∧ isS w = false ∧ o = some (-1))
theorem WordU.is {w : D} {o : Option Int} (h : WordU w o) (μ : Mu) : WordIs μ SG w o := by
  rcases h with h | ⟨n, h⟩
  · exact .inl h
  · refine .inr ?_
    cases w with
    | ref a => exact absurd rfl (n a)
    | _ => exact h
theorem rngD_nat (b n : Nat) : rngD (b : Int) n = (List.range' b n).map fun i => D.int (i : Nat) := by
  unfold rngD
  rw [List.range'_eq_map_range, List.map_map]
  refine List.map_congr_left fun i _ => ?_
  show D.int ((b : Int) + (i : Int)) = D.int ((b + i : Nat) : Int)
  rw [Int.natCast_add]
def spPlc (T : List (Addr × DSp)) (C X : Addr) (F : Addr → (Option Nat → Nat) → Prop) : DSp := fun ds μ Q E => ∃ rk w o f h, ds = [cas C rk, w, .ref f] ∧ F f h ∧ GoodK rk ∧ WordU w o ∧ (match o with | some i => ∀ μ', Ext0 μ μ' → E X "at" (.int i) μ' | none => ∀ l, w = .str l → l.length ≤ 4000 ∧ ∀ p, μ p = none → Q (.ref p) (mup μ p (.lst ((plc h rk l).map fun i => D.int (i : Nat)))))
def HtF (T : Env K mg base) (f : Addr) (h : Option Nat → Nat) : Prop := f = T.f_ordered_height ∧ h = ohN
theorem ok_places_by (T : Env K mg base) : FnOk P w K mg base (L2.CX P w) 15 T.f_places_by T.d_places_by ["case", "word", "height"] (lift K (spPlc (heightL T) T.C_Case T.C_NoWord (HtF T))) := by
  refine fn_x T.F_places_by sc_places_by (fun ds μ Q E h => ?len) (fun A outer s H E hr => ?_)
  case len =>
    first
    | (obtain ⟨rfl, _⟩ := h; rfl)
    | (obtain ⟨_, rfl, _⟩ := h; rfl)
    | (obtain ⟨_, _, rfl, _⟩ := h; rfl)
    | (obtain ⟨_, _, _, rfl, _⟩ := h; rfl)
    | (obtain ⟨_, _, _, _, rfl, _⟩ := h; rfl)
    | (obtain ⟨_, _, _, _, _, rfl, _⟩ := h; rfl)
    | (obtain ⟨_, _, _, _, _, _, rfl, _⟩ := h; rfl)
    | (obtain ⟨_, _, _, _, _, _, _, rfl, _⟩ := h; rfl)
    | (obtain ⟨_, _, _, _, _, _, _, _, rfl, _⟩ := h; rfl)
    | (obtain ⟨_, _, _, _, _, _, _, _, _, rfl, _⟩ := h; rfl)
    | (obtain ⟨_, _, _, _, _, _, _, _, _, _, rfl, _⟩ := h; rfl)
    | (obtain ⟨_, _, _, _, _, _, _, _, _, _, _, rfl, _⟩ := h; rfl)
    | (obtain ⟨_, _, _, _, _, _, _, _, _, _, _, _, rfl, _⟩ := h; rfl)
    | (obtain ⟨_, _, _, _, _, _, _, _, _, _, _, _, _, rfl, _⟩ := h; rfl)
    | (match ds, h with | [_, _, _], _ => rfl)
  have nd := sc_places_by.nd
  refine ⟨_, _, (dss_cons (ds_set (n := 3) nd rfl (by first | exact .inl rfl | exact .inr rfl) (de_lstC da_nil)) <|
      dss_cons (ds_for PySem.PassesOwn.leaving rfl (di_list (de_call (ok_clusters T) (hr.mono (by decide)) (by rfl) T.g_clusters T.F_clusters.kp T.b_clusters .nil (fun _ _ => .nil) (passes_call (takes_of rfl rfl rfl rfl) (fun _ _ _ _ h => h)) (da_cons (de_var (pv 0)) (da_cons (de_var (pv 1)) da_nil)))) (dg_tup (n := 2) (K := K) rfl rfl (dgs_cons (dg_name (n := 4) nd rfl (by first | exact .inl rfl | exact .inr rfl)) (dgs_cons (dg_name (n := 5) nd rfl (by first | exact .inl rfl | exact .inr rfl)) dgs_nil)) (by rfl) (by rfl))
        (dss_cons (ds_setLc (i := 6) (own := [("at", 7)]) (by rfl) nd rfl rfl (sw_true rfl rfl rfl (by decide +kernel)) (di_range2 rfl T.z_range (da_cons (de_var (pv 4)) (da_cons (de_var (pv 5)) da_nil))) (blkOk_by (own := [("at", 7)]) (N := n_places_by) (sc := defScope s_places_by) (by decide +kernel)) (fun _ _ _ _ _ => by exact (dgw_name (n := 7) nd rfl (.inl rfl) (by decide))) (fun _ _ _ _ _ => by exact dts_nil) (fun _ _ _ _ _ => by exact (de_tup (da_cons (de_callM (i := 2) (L := heightL T) (held_height T) (hr.mono (by decide)) (by rfl) (by first | exact .inl rfl | exact .inr (.inl rfl) | exact .inr (.inr rfl)) passN (da_cons (de_var (pv 0)) (da_cons (de_ix x_str (de_var (pv 1)) (de_var (pv 7)) (fun _ _ => rfl)) da_nil))) (da_cons (de_var (pv 7)) da_nil))))) <|
        (dss_one (ds_expr (de_bm PySem.F.plainAttrs_list PySem.F.slot_list_extend PySem.F.type_list_extend m_extend (de_var (pv 3)) (da_cons (de_lc (own := [("pair", 8)]) (by rfl) nd (di_list (de_callB (c_sortP rfl) (by rfl) T.z_sorted (by rfl) (da_cons (de_var (pv 6)) da_nil))) (blkOk_by (own := [("pair", 8)]) (N := n_places_by) (sc := defScope s_places_by) (by decide +kernel)) (fun _ _ _ _ _ => by exact (dgw_name (n := 8) nd rfl (.inl rfl) (by decide))) (fun _ _ _ _ _ => by exact dts_nil) (fun _ _ _ _ _ => by exact (de_ix x_tup (de_var (pv 8)) de_int (fun _ _ => rfl)))) da_nil)))))) <|
      (dss_one (ds_ret (de_var (pv 3))))), ?_⟩
  rintro ds μ Q E ⟨rk, w, o, f, h, rfl, hf, g, hw, q⟩
  obtain ⟨rfl, rfl⟩ := hf
  walk_at "w"
  refine ⟨by decide, fun L hL => ?_⟩
  refine ⟨rk, w, o, rfl, hw.is _, ?_⟩
  cases o with
  | some i => exact q _ (ext0_new hL fun _ z => by cases z)
  | none =>
  obtain ⟨l, rfl⟩ : ∃ l, w = .str l := by
    rcases hw with ⟨l, rfl, _⟩ | ⟨_, _, _, _, _, h⟩
    · exact ⟨l, rfl⟩
    · cases h
  obtain ⟨hl, q⟩ := q l rfl
  intro l' e
  cases e
  refine ⟨hl, ?_⟩
  walk_at "w"
  refine forL_of (cls rk l) prN (fun i δ μ' => ∃ a4 a5 a6 a7 a8, δ = [some (cas T.C_Case rk), some (.str l), some (.ref T.f_ordered_height), some (.ref L), a4, a5, a6, a7, a8] ∧ μ' = mup μ L (.lst ((((cls rk l).take i).flatMap fun p => lev (hAt ohN rk l) (List.range' p.1 (p.2 - p.1))).map fun i => D.int (i : Nat)))) ⟨_, _, _, _, _, rfl, rfl⟩ (fun _ _ _ _ => trivial) ?_ ?_
  · rintro i p δ μ' k hp ⟨a4, a5, a6, a7, a8, rfl, rfl⟩ next
    obtain ⟨p1, p2⟩ := cls_le (List.mem_of_getElem? hp)
    unfold prN
    walk_at "w"
    refine ⟨by omega, fun L2 hL2 => ?_⟩
    have ne : L ≠ L2 := fun z => by rw [← z, mup_same] at hL2; cases hL2
    rw [show ((p.2 : Int) - (p.1 : Int)).toNat = p.2 - p.1 by omega, rngD_nat]
    refine lcL_of (List.range' p.1 (p.2 - p.1)) (fun i => .int (i : Nat)) (fun i => prI (prH (hAt ohN rk l) i)) (by rw [List.length_range']; omega) yes_off (fun j i μ' cc hi of hc => ?_) ?_
    · have hi2 := List.mem_range'_1.mp (List.mem_of_getElem? hi)
      have hlt : i < l.length := by omega
      have hc2 := List.getElem?_eq_getElem hlt
      generalize l[i] = c at hc2
      walk_at "w"
      refine ⟨T.f_ordered_height, spHt T.C_Case ohN, List.mem_singleton.mpr rfl, rfl, ?_⟩
      walk_at "w"
      rw [atI_nat hc2]
      refine ⟨by omega, rk, c, rfl, ?_⟩
      walk_at "w"
      refine ⟨by decide, ?_⟩
      rw [← hAt_at (h := ohN) (rk := rk) hc2]
      exact hc
    rw [era_mup hL2]
    refine ⟨by unfold isC; simp only [mup_same], (List.range' p.1 (p.2 - p.1)).map (prH (hAt ohN rk l)), by rw [List.map_map]; rfl, fun qs pq sq L3 hL3 => ?_⟩
    have eq := sorted_lev (h := hAt ohN rk l) (List.pairwise_lt_range' ..) (fun a _ => hAt_le low_oh g l a) pq sq
    subst eq
    rw [List.map_map]
    refine lcL_of (lev (hAt ohN rk l) (List.range' p.1 (p.2 - p.1))) (prI ∘ prH (hAt ohN rk l)) (fun i => .int (i : Nat)) ?_ yes_off (fun j i μ' cc hi of hc => ?_) ?_
    · rw [(lev_perm fun a _ => hAt_le low_oh g l a).length_eq, List.length_range']; omega
    · show _
      unfold Function.comp prI prH
      walk_at "w"
      exact hc
    rw [era_mup hL3, cel_ref mup_same, mup_mup]
    have lv : ∀ p2 ∈ cls rk l, (lev (hAt ohN rk l) (List.range' p2.1 (p2.2 - p2.1))).length ≤ 4000 := fun p2 h2 => by
      have := (cls_le h2).2
      rw [(lev_perm fun a _ => hAt_le low_oh g l a).length_eq, List.length_range']
      omega
    have l1 := flatMap_len (f := fun p : Nat × Nat => lev (hAt ohN rk l) (List.range' p.1 (p.2 - p.1))) ((cls rk l).take i) 4000 fun p2 h2 => lv p2 (List.mem_of_mem_take h2)
    have l2 := lv p (List.mem_of_getElem? hp)
    have l3 : i < (cls rk l).length := (List.getElem?_eq_some_iff.mp hp).1
    have l4 : (cls rk l).length ≤ 4000 := Nat.le_trans (cls_len rk l) hl
    have l5 : ((cls rk l).take i).length * 4000 ≤ 3999 * 4000 := Nat.mul_le_mul_right _ (by rw [List.length_take]; omega)
    refine ⟨by rw [List.length_map, List.length_map]; omega, next _ _ ⟨_, _, _, _, _, rfl, ?_⟩⟩
    rw [List.take_add_one, hp, List.flatMap_append, List.map_append]
    simp
  · rintro δ μ' ⟨a4, a5, a6, a7, a8, rfl, rfl⟩
    walk_at "w"
    rw [List.take_length]
    exact q L hL
/-- the signs at places -/
def txt (l : List Nat) (ps : List Nat) : List Nat := ps.filterMap fun i => l[i]?
theorem txt_cons {l : List Nat} {i c : Nat} (h : l[i]? = some c) (ps : List Nat) : txt l (i :: ps) = c :: txt l ps := by unfold txt; rw [List.filterMap_cons, h]
theorem txt_map {l : List Nat} : ∀ {ps : List Nat}, (∀ i ∈ ps, i < l.length) → (ps.map fun i => enG l (fun c => D.str [c]) i) = (txt l ps).map fun c => D.str [c]
  | [], _ => rfl
  | i :: ps, h => by
    have hc := List.getElem?_eq_getElem (h i List.mem_cons_self)
    rw [txt_cons hc, List.map_cons, List.map_cons, enG_at hc, txt_map fun j hj => h j (List.mem_cons_of_mem _ hj)]
theorem txt_len (l : List Nat) (ps : List Nat) : (txt l ps).length ≤ ps.length := List.length_filterMap_le ..
def spTextAt : DSp := fun ds μ Q _ => ∃ l d ps, ds = [.str l, d] ∧ rd μ d = .lst (ps.map fun i => D.int (i : Nat)) ∧ l.length ≤ 4000 ∧ (∀ i ∈ ps, i < l.length) ∧ ps.length ≤ 16000000 ∧ Q (.str (txt l ps)) μ
theorem ok_text_at (T : Env K mg base) : FnOk P w K mg base L2.CX0 3 T.f_text_at T.d_text_at ["word", "places"] (lift K spTextAt) := by
  refine fn_n T.F_text_at sc_text_at (fun ds μ Q E h => ?len) (fun A outer s H E hr => ?_)
  case len =>
    first
    | (obtain ⟨rfl, _⟩ := h; rfl)
    | (obtain ⟨_, rfl, _⟩ := h; rfl)
    | (obtain ⟨_, _, rfl, _⟩ := h; rfl)
    | (obtain ⟨_, _, _, rfl, _⟩ := h; rfl)
    | (obtain ⟨_, _, _, _, rfl, _⟩ := h; rfl)
    | (obtain ⟨_, _, _, _, _, rfl, _⟩ := h; rfl)
    | (obtain ⟨_, _, _, _, _, _, rfl, _⟩ := h; rfl)
    | (obtain ⟨_, _, _, _, _, _, _, rfl, _⟩ := h; rfl)
    | (obtain ⟨_, _, _, _, _, _, _, _, rfl, _⟩ := h; rfl)
    | (obtain ⟨_, _, _, _, _, _, _, _, _, rfl, _⟩ := h; rfl)
    | (obtain ⟨_, _, _, _, _, _, _, _, _, _, rfl, _⟩ := h; rfl)
    | (obtain ⟨_, _, _, _, _, _, _, _, _, _, _, rfl, _⟩ := h; rfl)
    | (obtain ⟨_, _, _, _, _, _, _, _, _, _, _, _, rfl, _⟩ := h; rfl)
    | (obtain ⟨_, _, _, _, _, _, _, _, _, _, _, _, _, rfl, _⟩ := h; rfl)
    | (match ds, h with | [_, _], _ => rfl)
  have nd := sc_text_at.nd
  refine ⟨_, _, (dss_one (ds_ret (de_m1 PySem.F.slot_str_join PySem.F.type_str_join m_join (de_str [] (by rfl)) (de_lc (own := [("at", 2)]) (by rfl) nd (di_list (de_var (pv 1))) (blkOk_by (own := [("at", 2)]) (N := n_text_at) (sc := defScope s_text_at) (by decide +kernel)) (fun _ _ _ _ _ => by exact (dgw_name (n := 2) nd rfl (.inl rfl) (by decide))) (fun _ _ _ _ _ => by exact dts_nil) (fun _ _ _ _ _ => by exact (de_ix x_str (de_var (pv 0)) (de_var (pv 2)) (fun _ _ => rfl))))))), ?_⟩
  rintro ds μ Q E ⟨l, d, ps, rfl, hd, hl, hp, hn, q⟩
  walk_at "w"
  rw [hd]
  walk_at "w"
  intro L hL
  refine lcL_of ps (fun i => .int (i : Nat)) (fun i => enG l (fun c => .str [c]) i) (by omega) (fun μ' o => keeps_off hd hL o) (fun j i μ' cc hi of hc => ?_) ?_
  · have hc2 := List.getElem?_eq_getElem (hp i (List.mem_of_getElem? hi))
    walk_at "w"
    rw [atI_nat hc2]
    rw [enG_at hc2] at hc
    exact ⟨by omega, hc⟩
  rw [txt_map hp, asS_signs]
  dsimp only
  rw [sum_ones, joinN_one, era_mup hL]
  have := txt_len l ps
  exact ⟨by omega, q⟩
theorem plc_lt {h : Option Nat → Nat} (lo : Low h) {rk : List (Nat × Nat)} (g : GoodK rk) {l : List Nat} : ∀ i ∈ plc h rk l, i < l.length := fun i hi => by
  obtain ⟨p, hp, hi⟩ := List.mem_flatMap.mp hi
  have h1 := List.mem_range'_1.mp ((lev_perm fun a _ => hAt_le lo g l a).mem_iff.mp hi)
  have h2 := (cls_le hp).2
  omega
theorem plc_len {h : Option Nat → Nat} (lo : Low h) {rk : List (Nat × Nat)} (g : GoodK rk) {l : List Nat} (hl : l.length ≤ 4000) : (plc h rk l).length ≤ 16000000 := by
  have l1 := flatMap_len (f := fun p : Nat × Nat => lev (hAt h rk l) (List.range' p.1 (p.2 - p.1))) (cls rk l) 4000 fun p hp => by
    have h2 := (cls_le hp).2
    rw [(lev_perm fun a _ => hAt_le lo g l a).length_eq, List.length_range']
    omega
  have l2 := cls_len rk l
  have l3 : (cls rk l).length * 4000 ≤ 4000 * 4000 := Nat.mul_le_mul_right _ (by omega)
  exact Nat.le_trans l1 l3
def spOrd (C X : Addr) : DSp := fun ds μ Q E => ∃ rk w o, ds = [cas C rk, w] ∧ GoodK rk ∧ WordU w o ∧ (match o with | some i => ∀ μ', Ext0 μ μ' → E X "at" (.int i) μ' | none => ∀ l, w = .str l → l.length ≤ 4000 ∧ ∀ p, μ p = none → Q (.tup [.str (txt l (plc ohN rk l)), .ref p]) (mup μ p (.lst ((plc ohN rk l).map fun i => D.int (i : Nat)))))
theorem ok_ordered (T : Env K mg base) : FnOk P w K mg base (L2.CX P w) 18 T.f_ordered T.d_ordered ["case", "word"] (lift K (spOrd T.C_Case T.C_NoWord)) := by
  refine fn_x T.F_ordered sc_ordered (fun ds μ Q E h => ?len) (fun A outer s H E hr => ?_)
  case len =>
    first
    | (obtain ⟨rfl, _⟩ := h; rfl)
    | (obtain ⟨_, rfl, _⟩ := h; rfl)
    | (obtain ⟨_, _, rfl, _⟩ := h; rfl)
    | (obtain ⟨_, _, _, rfl, _⟩ := h; rfl)
    | (obtain ⟨_, _, _, _, rfl, _⟩ := h; rfl)
    | (obtain ⟨_, _, _, _, _, rfl, _⟩ := h; rfl)
    | (obtain ⟨_, _, _, _, _, _, rfl, _⟩ := h; rfl)
    | (obtain ⟨_, _, _, _, _, _, _, rfl, _⟩ := h; rfl)
    | (obtain ⟨_, _, _, _, _, _, _, _, rfl, _⟩ := h; rfl)
    | (obtain ⟨_, _, _, _, _, _, _, _, _, rfl, _⟩ := h; rfl)
    | (obtain ⟨_, _, _, _, _, _, _, _, _, _, rfl, _⟩ := h; rfl)
    | (obtain ⟨_, _, _, _, _, _, _, _, _, _, _, rfl, _⟩ := h; rfl)
    | (obtain ⟨_, _, _, _, _, _, _, _, _, _, _, _, rfl, _⟩ := h; rfl)
    | (obtain ⟨_, _, _, _, _, _, _, _, _, _, _, _, _, rfl, _⟩ := h; rfl)
    | (match ds, h with | [_, _], _ => rfl)
  have nd := sc_ordered.nd
  refine ⟨_, _, (dss_cons (ds_set (n := 2) nd rfl (by first | exact .inl rfl | exact .inr rfl) (de_call (ok_places_by T) (hr.mono (by decide)) (by rfl) T.g_places_by T.F_places_by.kp T.b_places_by .nil (fun _ _ => .nil) (passes_call (takes_of rfl rfl rfl rfl) (fun _ _ _ _ h => h)) (da_cons (de_var (pv 0)) (da_cons (de_var (pv 1)) (da_cons (de_fnv rfl T.g_ordered_height) da_nil))))) <|
      (dss_one (ds_ret (de_tup (da_cons (de_call (ok_text_at T) (hr.mono (by decide)) (by rfl) T.g_text_at T.F_text_at.kp T.b_text_at .nil (fun _ _ => .nil) passN (da_cons (de_var (pv 1)) (da_cons (de_var (pv 2)) da_nil))) (da_cons (de_var (pv 2)) da_nil)))))), ?_⟩
  rintro ds μ Q E ⟨rk, w, o, rfl, g, hw, q⟩
  walk_at "w"
  refine ⟨rk, w, o, _, ohN, rfl, ⟨rfl, rfl⟩, g, hw, ?_⟩
  cases o with
  | some i => exact q
  | none =>
  intro l e
  obtain ⟨hl, q2⟩ := q l e
  subst e
  exact ⟨hl, fun p hp => ⟨l, .ref p, plc ohN rk l, rfl, rd_ref mup_same, hl, plc_lt low_oh g, plc_len low_oh g hl, by decide, q2 p hp⟩⟩

/-! k14: what is drawn -/
def spRanks : DSp := fun ds μ Q _ => ∃ s sg, ds = [.ref s, .str sg] ∧ μ s = some .src ∧ sg.Nodup ∧ (∀ c ∈ sg, c ∈ SG) ∧ sg.length ≤ 52 ∧ ∀ rk, GoodK rk → (∀ p ∈ rk, p.1 ∈ sg) → ∀ p, μ p = none → Q (.ref p) (mup μ p (rkD rk))
theorem ok_y_ranks (T : Env K mg base) : FnOk P w K mg base L2.CX0 5 T.f_y_ranks T.d_y_ranks ["_law_well_here", "_law_signs"] (lift K spRanks) := by
  refine fn_n T.F_y_ranks sc_y_ranks (fun ds μ Q E h => ?len) (fun A outer s H E hr => ?_)
  case len =>
    first
    | (obtain ⟨rfl, _⟩ := h; rfl)
    | (obtain ⟨_, rfl, _⟩ := h; rfl)
    | (obtain ⟨_, _, rfl, _⟩ := h; rfl)
    | (obtain ⟨_, _, _, rfl, _⟩ := h; rfl)
    | (obtain ⟨_, _, _, _, rfl, _⟩ := h; rfl)
    | (obtain ⟨_, _, _, _, _, rfl, _⟩ := h; rfl)
    | (obtain ⟨_, _, _, _, _, _, rfl, _⟩ := h; rfl)
    | (obtain ⟨_, _, _, _, _, _, _, rfl, _⟩ := h; rfl)
    | (obtain ⟨_, _, _, _, _, _, _, _, rfl, _⟩ := h; rfl)
    | (obtain ⟨_, _, _, _, _, _, _, _, _, rfl, _⟩ := h; rfl)
    | (obtain ⟨_, _, _, _, _, _, _, _, _, _, rfl, _⟩ := h; rfl)
    | (obtain ⟨_, _, _, _, _, _, _, _, _, _, _, rfl, _⟩ := h; rfl)
    | (obtain ⟨_, _, _, _, _, _, _, _, _, _, _, _, rfl, _⟩ := h; rfl)
    | (obtain ⟨_, _, _, _, _, _, _, _, _, _, _, _, _, rfl, _⟩ := h; rfl)
    | (match ds, h with | [_, _], _ => rfl)
  have nd := sc_y_ranks.nd
  refine ⟨_, _, (dss_cons (ds_set (n := 2) nd rfl (by first | exact .inl rfl | exact .inr rfl) de_dict0) <|
      dss_cons (ds_for PassesOwn.never rfl (di_str (de_slice l_str (de_var (pv 1)) (do_some (de_call (ok_y_draw T) (hr.mono (by decide)) (by rfl) T.g_y_draw T.F_y_draw.kp T.b_y_draw .nil (fun _ _ => .nil) passN (da_cons (de_var (pv 0)) (da_cons de_int da_nil)))) do_none)) (dg_name (n := 3) nd rfl (by first | exact .inl rfl | exact .inr rfl))
        (dss_one (ds_dput (hu1 hr) (de_var (pv 2)) (de_var (pv 3)) (de_ix x_list (de_lst (da_cons de_int (da_cons de_int (da_cons de_int (da_cons de_int (da_cons (de_op o_add de_int (de_call (ok_y_draw T) (hr.mono (by decide)) (by rfl) T.g_y_draw T.F_y_draw.kp T.b_y_draw .nil (fun _ _ => .nil) passN (da_cons (de_var (pv 0)) (da_cons de_int da_nil)))) da_nil)))))) (de_call (ok_y_draw T) (hr.mono (by decide)) (by rfl) T.g_y_draw T.F_y_draw.kp T.b_y_draw .nil (fun _ _ => .nil) passN (da_cons (de_var (pv 0)) (da_cons de_int da_nil))) (fun _ _ => rfl))))) <|
      (dss_one (ds_ret (de_var (pv 2))))), ?_⟩
  rintro ds μ Q E ⟨s, sg, rfl, hs, nd, ss, l52, q⟩
  walk_at "w"
  intro L hL
  refine ⟨s, 4, rfl, src_mup hs hL, by decide, by decide, fun d d0 d1 => ?_⟩
  walk_at "w"
  obtain ⟨d, rfl⟩ := Int.eq_ofNat_of_zero_le d0
  rw [show cutL sg (some ((d : Nat) : Int)) none = sg.drop d from cutL_from _ d]
  have nd2 : (sg.drop d).Nodup := nd.sublist (List.drop_sublist ..)
  have ss2 : ∀ c ∈ sg.drop d, c ∈ sg := fun c hc => List.mem_of_mem_drop hc
  have l2 : (sg.drop d).length ≤ 52 := by rw [List.length_drop]; omega
  generalize sg.drop d = tl at nd2 ss2 l2
  refine ⟨by omega, ?_⟩
  refine forL_of tl (fun c => .str [c]) (fun i δ μ' => ∃ (rk : List (Nat × Nat)) (a3 : Option D), rk.map (·.1) = tl.take i ∧ (∀ p ∈ rk, p.2 ≤ 9) ∧ μ' = mup μ L (rkD rk) ∧ δ = [some (.ref s), some (.str sg), some (.ref L), a3]) ⟨[], _, rfl, (fun _ h => nomatch h), rfl, rfl⟩ (fun _ _ _ _ => trivial) ?_ ?_
  · rintro i c δ μ' k hi ⟨rk, a3, hk, h9, rfl, rfl⟩ next
    have hs' : mup μ L (rkD rk) s = some .src := src_mup hs hL
    walk_at "w"
    refine ⟨s, 9, rfl, hs', by decide, by decide, fun j j0 j1 => ?_⟩
    walk_at "w"
    refine ⟨by decide, s, 5, rfl, hs', by decide, by decide, fun u u0 u1 => ?_⟩
    walk_at "w"
    obtain ⟨r, hr, h9r⟩ : ∃ r : Nat, atI [D.int 0, D.int 1, D.int 2, D.int 3, D.int (1 + j)] u = some (.int (r : Nat)) ∧ r ≤ 9 := by
      have : u = 0 ∨ u = 1 ∨ u = 2 ∨ u = 3 ∨ u = 4 := by omega
      rcases this with rfl | rfl | rfl | rfl | rfl
      · exact ⟨0, rfl, by decide⟩
      · exact ⟨1, rfl, by decide⟩
      · exact ⟨2, rfl, by decide⟩
      · exact ⟨3, rfl, by decide⟩
      · refine ⟨(1 + j).toNat, ?_, by omega⟩
        rw [Int.toNat_of_nonneg (by omega)]
        rfl
    rw [hr]
    dsimp only
    rw [celK_ref (show mup μ L (rkD rk) L = some (dkD (rkL rk)) from mup_same)]
    have hn : lookA (rkL rk) (.inr (ofL [c])) = none := by
      rw [look_rk]
      cases e : rkOf rk c with
      | none => rfl
      | some r2 =>
        unfold rkOf at e
        cases e2 : rk.find? fun q => q.1 == c with
        | none => rw [e2] at e; cases e
        | some q2 =>
          have h1 := List.mem_of_find?_eq_some e2
          have h2 : q2.1 = c := by
            have h3 := List.find?_some e2
            simpa using h3
          have h3 : c ∈ tl.take i := by rw [← hk, ← h2]; exact List.mem_map.mpr ⟨q2, h1, rfl⟩
          obtain ⟨j2, hj2, e3⟩ := List.mem_take_iff_getElem.mp h3
          have hil := (List.getElem?_eq_some_iff.mp hi)
          have e4 : tl[j2] = tl[i]'hil.1 := by rw [e3, hil.2]
          exact absurd e4 (List.pairwise_iff_getElem.mp nd2 j2 i (by omega) hil.1 (by omega))
    have lr : rk.length ≤ 52 := by
      have e := congrArg List.length hk
      rw [List.length_map, List.length_take] at e
      omega
    refine ⟨_, rfl, by unfold rkL; rw [List.length_map]; omega, next _ _ ⟨rk ++ [(c, r)], _, ?_, fun p hp => ?_, ?_, rfl⟩⟩
    · rw [List.map_append, hk, List.take_add_one, hi]
      rfl
    · rcases List.mem_append.mp hp with hp | hp
      · exact h9 p hp
      · rw [List.mem_singleton.mp hp]; exact h9r
    · rw [putA_new hn, mup_mup]
      unfold rkD rkL
      rw [List.map_append]
      rfl
  · rintro δ μ' ⟨rk, a3, hk, h9, rfl, rfl⟩
    walk_at "w"
    rw [List.take_length] at hk
    refine q rk ⟨by rw [hk]; exact nd2, fun p hp => ss _ (ss2 _ (by rw [← hk]; exact List.mem_map.mpr ⟨p, hp, rfl⟩)), h9, ?_⟩ (fun p hp => ss2 _ (by rw [← hk]; exact List.mem_map.mpr ⟨p, hp, rfl⟩)) L hL
    have e := congrArg List.length hk
    rw [List.length_map] at e
    omega
def spWord : DSp := fun ds μ Q _ => ∃ s sg n, ds = [.ref s, .str sg, .int n] ∧ μ s = some .src ∧ 1 ≤ sg.length ∧ sg.length ≤ 52 ∧ 0 ≤ n ∧ n ≤ 1000 ∧ ∀ w : List Nat, (w.length : Int) ≤ n → (∀ c ∈ w, c ∈ sg) → Q (.str w) μ
theorem ok_y_word (T : Env K mg base) : FnOk P w K mg base L2.CX0 5 T.f_y_word T.d_y_word ["_law_well_here", "_law_signs", "_law_most"] (lift K spWord) := by
  refine fn_n T.F_y_word sc_y_word (fun ds μ Q E h => ?len) (fun A outer s H E hr => ?_)
  case len =>
    first
    | (obtain ⟨rfl, _⟩ := h; rfl)
    | (obtain ⟨_, rfl, _⟩ := h; rfl)
    | (obtain ⟨_, _, rfl, _⟩ := h; rfl)
    | (obtain ⟨_, _, _, rfl, _⟩ := h; rfl)
    | (obtain ⟨_, _, _, _, rfl, _⟩ := h; rfl)
    | (obtain ⟨_, _, _, _, _, rfl, _⟩ := h; rfl)
    | (obtain ⟨_, _, _, _, _, _, rfl, _⟩ := h; rfl)
    | (obtain ⟨_, _, _, _, _, _, _, rfl, _⟩ := h; rfl)
    | (obtain ⟨_, _, _, _, _, _, _, _, rfl, _⟩ := h; rfl)
    | (obtain ⟨_, _, _, _, _, _, _, _, _, rfl, _⟩ := h; rfl)
    | (obtain ⟨_, _, _, _, _, _, _, _, _, _, rfl, _⟩ := h; rfl)
    | (obtain ⟨_, _, _, _, _, _, _, _, _, _, _, rfl, _⟩ := h; rfl)
    | (obtain ⟨_, _, _, _, _, _, _, _, _, _, _, _, rfl, _⟩ := h; rfl)
    | (obtain ⟨_, _, _, _, _, _, _, _, _, _, _, _, _, rfl, _⟩ := h; rfl)
    | (match ds, h with | [_, _, _], _ => rfl)
  have nd := sc_y_word.nd
  refine ⟨_, _, (dss_one (ds_ret (de_m1 PySem.F.slot_str_join PySem.F.type_str_join m_join (de_str [] (by rfl)) (de_lc (own := [("_law_k", 3)]) (by rfl) nd (di_range1 rfl T.z_range (da_cons (de_call (ok_y_draw T) (hr.mono (by decide)) (by rfl) T.g_y_draw T.F_y_draw.kp T.b_y_draw .nil (fun _ _ => .nil) passN (da_cons (de_var (pv 0)) (da_cons (de_op o_add (de_var (pv 2)) de_int) da_nil))) da_nil)) (blkOk_by (own := [("_law_k", 3)]) (N := n_y_word) (sc := defScope s_y_word) (by decide +kernel)) (fun _ _ _ _ _ => by exact (dgw_name (n := 3) nd rfl (.inl rfl) (by decide))) (fun _ _ _ _ _ => by exact dts_nil) (fun _ _ _ _ _ => by exact (de_ix x_str (de_var (pv 1)) (de_call (ok_y_draw T) (hr.mono (by decide)) (by rfl) T.g_y_draw T.F_y_draw.kp T.b_y_draw .nil (fun _ _ => .nil) passN (da_cons (de_var (pv 0)) (da_cons (de_callB c_lenS (by rfl) T.z_len PySem.boot_len (da_cons (de_var (pv 1)) da_nil)) da_nil))) (fun _ _ => rfl))))))), ?_⟩
  rintro ds μ Q E ⟨s, sg, n, rfl, hs, l1, l52, n0, n1, q⟩
  walk_at "w"
  refine ⟨s, _, rfl, hs, by omega, by omega, fun m m0 m1 => ?_⟩
  walk_at "w"
  refine ⟨by omega, by omega, fun L hL => ?_⟩
  refine lcL_drawn (fun c => c ∈ sg) (fun c => .str [c]) (by rw [rngD_len]; omega) yes_off (fun x hx μ' cc of hc => ?_) (fun w lw hw => ?_)
  · have hs' := src_off hs hL of
    walk_at "w"
    refine ⟨by omega, s, _, rfl, hs', by omega, by omega, fun r r0 r1 => ?_⟩
    obtain ⟨r, rfl⟩ := Int.eq_ofNat_of_zero_le r0
    have hr := List.getElem?_eq_getElem (show r < sg.length by omega)
    walk_at "w"
    rw [atI_nat hr]
    exact ⟨by omega, hc _ (List.getElem_mem _)⟩
  · rw [rngD_len] at lw
    rw [asS_signs]
    dsimp only
    rw [sum_ones, joinN_one, era_mup hL]
    exact ⟨by omega, q w (by omega) hw⟩
def spWh : DSp := fun ds μ Q _ => ∃ i, ds = [.int i] ∧ Q (.bl true) μ
theorem ok_y_whole (T : Env K mg base) : FnOk P w K mg base L2.CX0 3 T.f_y_whole T.d_y_whole ["_law_found"] (lift K spWh) := by
  refine fn_n T.F_y_whole sc_y_whole (fun ds μ Q E h => ?len) (fun A outer s H E hr => ?_)
  case len =>
    first
    | (obtain ⟨rfl, _⟩ := h; rfl)
    | (obtain ⟨_, rfl, _⟩ := h; rfl)
    | (obtain ⟨_, _, rfl, _⟩ := h; rfl)
    | (obtain ⟨_, _, _, rfl, _⟩ := h; rfl)
    | (obtain ⟨_, _, _, _, rfl, _⟩ := h; rfl)
    | (obtain ⟨_, _, _, _, _, rfl, _⟩ := h; rfl)
    | (obtain ⟨_, _, _, _, _, _, rfl, _⟩ := h; rfl)
    | (obtain ⟨_, _, _, _, _, _, _, rfl, _⟩ := h; rfl)
    | (obtain ⟨_, _, _, _, _, _, _, _, rfl, _⟩ := h; rfl)
    | (obtain ⟨_, _, _, _, _, _, _, _, _, rfl, _⟩ := h; rfl)
    | (obtain ⟨_, _, _, _, _, _, _, _, _, _, rfl, _⟩ := h; rfl)
    | (obtain ⟨_, _, _, _, _, _, _, _, _, _, _, rfl, _⟩ := h; rfl)
    | (obtain ⟨_, _, _, _, _, _, _, _, _, _, _, _, rfl, _⟩ := h; rfl)
    | (obtain ⟨_, _, _, _, _, _, _, _, _, _, _, _, _, rfl, _⟩ := h; rfl)
    | (match ds, h with | [_], _ => rfl)
  have nd := sc_y_whole.nd
  refine ⟨_, _, (dss_one (ds_ret (de_and (de_callB c_isi (by rfl) T.z_isinstance boot_isinstance (da_cons (de_var (pv 0)) (da_cons (de_c (pe_bltn (v := .ty "int") (by rfl) T.z_int (by rfl) rfl) (fun _ _ => .ty _)) da_nil))) (de_one (de_not (de_callB c_isi (by rfl) T.z_isinstance boot_isinstance (da_cons (de_var (pv 0)) (da_cons (de_c (pe_bltn (v := .ty "bool") (by rfl) T.z_bool (by rfl) rfl) (fun _ _ => .ty _)) da_nil)))))))), ?_⟩
  rintro ds μ Q E ⟨i, rfl, q⟩
  walk_at "w"
  exact q
def spLong : DSp := fun ds μ Q _ => ∃ s sg, ds = [.ref s, .str sg] ∧ μ s = some .src ∧ sg.length = 8 ∧ ∀ w : List Nat, w.length = 1000 → (∀ c ∈ w, c ∈ sg) → Q (.str w) μ
theorem ok_y_long (T : Env K mg base) : FnOk P w K mg base L2.CX0 5 T.f_y_long T.d_y_long ["_law_well_here", "_law_signs"] (lift K spLong) := by
  refine fn_n T.F_y_long sc_y_long (fun ds μ Q E h => ?len) (fun A outer s H E hr => ?_)
  case len =>
    first
    | (obtain ⟨rfl, _⟩ := h; rfl)
    | (obtain ⟨_, rfl, _⟩ := h; rfl)
    | (obtain ⟨_, _, rfl, _⟩ := h; rfl)
    | (obtain ⟨_, _, _, rfl, _⟩ := h; rfl)
    | (obtain ⟨_, _, _, _, rfl, _⟩ := h; rfl)
    | (obtain ⟨_, _, _, _, _, rfl, _⟩ := h; rfl)
    | (obtain ⟨_, _, _, _, _, _, rfl, _⟩ := h; rfl)
    | (obtain ⟨_, _, _, _, _, _, _, rfl, _⟩ := h; rfl)
    | (obtain ⟨_, _, _, _, _, _, _, _, rfl, _⟩ := h; rfl)
    | (obtain ⟨_, _, _, _, _, _, _, _, _, rfl, _⟩ := h; rfl)
    | (obtain ⟨_, _, _, _, _, _, _, _, _, _, rfl, _⟩ := h; rfl)
    | (obtain ⟨_, _, _, _, _, _, _, _, _, _, _, rfl, _⟩ := h; rfl)
    | (obtain ⟨_, _, _, _, _, _, _, _, _, _, _, _, rfl, _⟩ := h; rfl)
    | (obtain ⟨_, _, _, _, _, _, _, _, _, _, _, _, _, rfl, _⟩ := h; rfl)
    | (match ds, h with | [_, _], _ => rfl)
  have nd := sc_y_long.nd
  refine ⟨_, _, (dss_cons (ds_set (n := 2) nd rfl (by first | exact .inl rfl | exact .inr rfl) (de_call (ok_y_draw T) (hr.mono (by decide)) (by rfl) T.g_y_draw T.F_y_draw.kp T.b_y_draw .nil (fun _ _ => .nil) passN (da_cons (de_var (pv 0)) (da_cons (de_op o_pow de_int de_int) da_nil)))) <|
      (dss_one (ds_ret (de_m1 PySem.F.slot_str_join PySem.F.type_str_join m_join (de_str [] (by rfl)) (de_lc (own := [("_law_k", 3)]) (by rfl) nd (di_range1 rfl T.z_range (da_cons de_int da_nil)) (blkOk_by (own := [("_law_k", 3)]) (N := n_y_long) (sc := defScope s_y_long) (by decide +kernel)) (fun _ _ _ _ _ => by exact (dgw_name (n := 3) nd rfl (.inl rfl) (by decide))) (fun _ _ _ _ _ => by exact dts_nil) (fun _ _ _ _ _ => by exact (de_ix x_str (de_var (pv 1)) (de_op o_modN (de_op o_add (de_op o_add (de_var (pv 2)) (de_op o_mul (de_op o_mul (de_var (pv 3)) (de_var (pv 3))) (de_op o_add (de_op o_modN (de_var (pv 2)) de_int) de_int))) (de_op o_fdivN (de_var (pv 3)) de_int)) de_int) (fun _ _ => rfl)))))))), ?_⟩
  rintro ds μ Q E ⟨s, sg, rfl, hs, l8, q⟩
  walk_at "w"
  refine ⟨⟨by decide, by decide, by decide⟩, s, _, rfl, hs, by decide, by decide, fun t t0 t1 => ?_⟩
  walk_at "w"
  refine ⟨by omega, by omega, fun L hL => ?_⟩
  rw [show (1000 : Int).toNat = 1000 from rfl, show rngD 0 1000 = (List.range 1000).map fun i => D.int (i : Nat) from by rw [show (0 : Int) = ((0 : Nat) : Int) from rfl, rngD_nat, List.range_eq_range']]
  refine lcL_drawn (fun c => c ∈ sg) (fun c => .str [c]) (by rw [List.length_map, List.length_range]; decide) yes_off (fun x hx μ' cc of hc => ?_) (fun w lw hw => ?_)
  · obtain ⟨j, hj, rfl⟩ := List.mem_map.mp hx
    have hj := List.mem_range.mp hj
    walk_at "w"
    have f7 := fm t (b := 7) (by decide)
    have hr0 := fm (t + (j : Int) * j * (t.fmod 7 + 1) + (j : Int).fdiv 5) (b := 8) (by decide)
    generalize (t + (j : Int) * j * (t.fmod 7 + 1) + (j : Int).fdiv 5).fmod 8 = r at hr0
    obtain ⟨r, rfl⟩ := Int.eq_ofNat_of_zero_le hr0.1
    have hr := List.getElem?_eq_getElem (show r < sg.length by omega)
    rw [atI_nat hr]
    refine ⟨.inl (by constructor <;> omega), by decide, .inr (by constructor <;> omega), ⟨by decide, by omega⟩, by decide, by omega, hc _ (List.getElem_mem _)⟩
  · rw [List.length_map, List.length_range] at lw
    rw [asS_signs]
    dsimp only
    rw [sum_ones, joinN_one, era_mup hL]
    exact ⟨by omega, q w lw hw⟩

/-! k14: clusters and places by the law -/
def endsZ (bs : List Nat) (n : Nat) : List (Nat × Nat) := bs.zip (bs.drop 1 ++ [n])
theorem endsZ_next (bs : List Nat) (i n : Nat) : endsZ (bs ++ [i]) n = endsZ bs i ++ [(i, n)] := by
  unfold endsZ
  cases bs with
  | nil => rfl
  | cons x r =>
    show (x :: (r ++ [i])).zip ((r ++ [i]) ++ [n]) = (x :: r).zip (r ++ [i]) ++ [(i, n)]
    rw [show x :: (r ++ [i]) = (x :: r) ++ [i] from rfl, List.zip_append (by simp)]
    rfl
def bgsN (rk : List (Nat × Nat)) (l : List Nat) (n : Nat) : List Nat := (List.range n).filter (bsAt rk l)
theorem bgsN_next (rk : List (Nat × Nat)) (l : List Nat) (n : Nat) : bgsN rk l (n + 1) = if bsAt rk l n = true then bgsN rk l n ++ [n] else bgsN rk l n := by
  unfold bgsN
  rw [List.range_succ, List.filter_append]
  cases h : bsAt rk l n <;> simp [h]
theorem bgsN_pos {rk : List (Nat × Nat)} {l : List Nat} {n : Nat} (h : 0 < n) : ∃ bs b, bgsN rk l n = bs ++ [b] := by
  have : 0 ∈ bgsN rk l n := List.mem_filter.mpr ⟨List.mem_range.mpr h, rfl⟩
  have ne : bgsN rk l n ≠ [] := fun z => by rw [z] at this; cases this
  exact ⟨_, _, (List.dropLast_concat_getLast ne).symm⟩
def spYCls : DSp := fun ds μ Q _ => ∃ rk l, ds = [rkD rk, .str l] ∧ l.length ≤ 4000 ∧ Q (.lst ((cls rk l).map prN)) μ
theorem ok_y_clusters (T : Env K mg base) : FnOk P w K mg base L2.CX0 3 T.f_y_clusters T.d_y_clusters ["_law_marks", "_law_typed"] (lift K spYCls) := by
  refine fn_n T.F_y_clusters sc_y_clusters (fun ds μ Q E h => ?len) (fun A outer s H E hr => ?_)
  case len =>
    first
    | (obtain ⟨rfl, _⟩ := h; rfl)
    | (obtain ⟨_, rfl, _⟩ := h; rfl)
    | (obtain ⟨_, _, rfl, _⟩ := h; rfl)
    | (obtain ⟨_, _, _, rfl, _⟩ := h; rfl)
    | (obtain ⟨_, _, _, _, rfl, _⟩ := h; rfl)
    | (obtain ⟨_, _, _, _, _, rfl, _⟩ := h; rfl)
    | (obtain ⟨_, _, _, _, _, _, rfl, _⟩ := h; rfl)
    | (obtain ⟨_, _, _, _, _, _, _, rfl, _⟩ := h; rfl)
    | (obtain ⟨_, _, _, _, _, _, _, _, rfl, _⟩ := h; rfl)
    | (obtain ⟨_, _, _, _, _, _, _, _, _, rfl, _⟩ := h; rfl)
    | (obtain ⟨_, _, _, _, _, _, _, _, _, _, rfl, _⟩ := h; rfl)
    | (obtain ⟨_, _, _, _, _, _, _, _, _, _, _, rfl, _⟩ := h; rfl)
    | (obtain ⟨_, _, _, _, _, _, _, _, _, _, _, _, rfl, _⟩ := h; rfl)
    | (obtain ⟨_, _, _, _, _, _, _, _, _, _, _, _, _, rfl, _⟩ := h; rfl)
    | (match ds, h with | [_, _], _ => rfl)
  have nd := sc_y_clusters.nd
  refine ⟨_, _, (dss_cons (ds_set (n := 2) nd rfl (by first | exact .inl rfl | exact .inr rfl) (de_lstC da_nil)) <|
      dss_cons (ds_for PassesOwn.never rfl (di_es (by rfl) T.z_enumerate (da_cons (de_var (pv 1)) da_nil)) (dg_tup (n := 2) (K := K) rfl rfl (dgs_cons (dg_name (n := 3) nd rfl (by first | exact .inl rfl | exact .inr rfl)) (dgs_cons (dg_name (n := 4) nd rfl (by first | exact .inl rfl | exact .inr rfl)) dgs_nil)) (by rfl) (by rfl))
        (dss_one (ds_if (dw_dt (dw_or (dt_cmp o_eq (de_var (pv 3)) de_int (nomark _)) (dw_or1 (dt_cmp (o_ninD (hu1 hr)) (de_var (pv 4)) (de_var (pv 0)) (by rfl)))))
          (dss_one (ds_expr (de_bm PySem.F.plainAttrs_list PySem.F.slot_list_append PySem.F.type_list_append m_append (de_var (pv 2)) (da_cons (de_tup (da_cons (de_var (pv 3)) (da_cons (de_op o_add (de_var (pv 3)) de_int) da_nil))) da_nil))))
          (dss_one (ds_asg (de_tup (da_cons (de_ix x_tup (de_ix x_list (de_var (pv 2)) (de_neg de_int) (fun _ _ => rfl)) de_int (fun _ _ => rfl)) (da_cons (de_op o_add (de_var (pv 3)) de_int) da_nil))) (dg_sub (E := E0) (de_var (pv 2)) (de_neg de_int))))))) <|
      (dss_one (ds_ret (de_fz (de_var (pv 2)))))), ?_⟩
  rintro ds μ Q E ⟨rk, l, rfl, hl, q⟩
  unfold rkD
  walk_at "w"
  refine ⟨by decide, fun L hL => ?_⟩
  refine forL_en l (fun c => .str [c]) (fun i δ μ' => ∃ a3 a4, μ' = mup μ L (.lst ((endsZ (bgsN rk l i) i).map prN)) ∧ δ = [some (dkD (rkL rk)), some (.str l), some (.ref L), a3, a4]) ⟨_, _, rfl, rfl⟩ (fun _ _ _ _ => trivial) ?_ ?_
  · rintro i c δ μ' k hi ⟨a3, a4, rfl, rfl⟩ next
    have hlt := (List.getElem?_eq_some_iff.mp hi).1
    have len : (endsZ (bgsN rk l i) i).length ≤ 4000 := by
      unfold endsZ
      rw [List.length_zip]
      have : (bgsN rk l i).length ≤ i := Nat.le_trans (List.length_filter_le ..) (by rw [List.length_range]; exact Nat.le_refl _)
      omega
    have hb := bsAt_at (rk := rk) hi
    have hk : ((lookA (rkL rk) (.inr (ofL [c]))).isSome) = !(rkOf rk c).isNone := by
      rw [look_rk]
      cases rkOf rk c <;> rfl
    walk_at "w"
    rw [show decide ((i : Int) = 0) = decide (i = 0) from by rw [decide_eq_decide]; omega]
    have app : bsAt rk l i = true → k [some (dkD (rkL rk)), some (.str l), some (.ref L), some (.int i), some (.str [c])] (mup μ L (.lst ((endsZ (bgsN rk l i) i).map prN ++ [.tup [.int (i : Nat), .int ((i : Int) + 1)]]))) := fun h => next _ _ ⟨_, _, by
      rw [bgsN_next, if_pos h, endsZ_next, List.map_append]
      rfl, rfl⟩
    cases h0 : decide (i = 0) with
    | true =>
      rw [h0, Bool.true_or] at hb
      walk_at "w"
      exact ⟨by decide, by rw [List.length_map]; omega, app hb⟩
    | false =>
      rw [h0, Bool.false_or] at hb
      walk_at "w"
      rw [hk, Bool.not_not]
      cases h1 : (rkOf rk c).isNone with
      | true =>
        rw [h1] at hb
        walk_at "w"
        exact ⟨by decide, by rw [List.length_map]; omega, app hb⟩
      | false =>
        rw [h1] at hb
        obtain ⟨bs, b, eb⟩ := bgsN_pos (rk := rk) (l := l) (n := i) (by have := of_decide_eq_false h0; omega)
        have e1 : endsZ (bgsN rk l i) i = endsZ bs b ++ [(b, i)] := by rw [eb, endsZ_next]
        have e2 : endsZ (bgsN rk l (i + 1)) (i + 1) = endsZ bs b ++ [(b, i + 1)] := by rw [bgsN_next, if_neg (by rw [hb]; decide), eb, endsZ_next]
        rw [e1, List.map_append, show [(b, i)].map prN = [prN (b, i)] from rfl, atI_last, ixN_last (by rw [List.length_append, List.length_singleton]; omega)]
        unfold prN
        walk_at "w"
        refine ⟨by decide, next _ _ ⟨_, _, ?_, rfl⟩⟩
        rw [e2, List.length_append, List.length_singleton, Nat.add_sub_cancel, List.set_append_right _ _ (Nat.le_refl _), Nat.sub_self, List.map_append]
        rfl
  · rintro δ μ' ⟨a3, a4, rfl, rfl⟩
    walk_at "w"
    rw [era_mup hL]
    exact q
theorem gLenL_tup {xs : List D} {μ : Mu} {Q : DK} : gLenL [.tup xs] μ Q = Q (.int (xs.length : Nat)) μ := rfl
def spYPlc : DSp := fun ds μ Q _ => ∃ rk l, ds = [rkD rk, .str l] ∧ GoodK rk ∧ l.length ≤ 4000 ∧ Q (.lst ((plc ohN rk l).map fun i => D.int (i : Nat))) μ
theorem eq_rk (rk : List (Nat × Nat)) (c r : Nat) : eqF ((lookA (rkL rk) (.inr (ofL [c]))).getD .non) (.int (r : Nat)) = some (decide (rkOf rk c = some r)) := by
  rw [look_rk]
  cases rkOf rk c with
  | none => rfl
  | some x =>
    show eqF (.int (x : Nat)) (.int (r : Nat)) = _
    rw [eqF_int_int]
    congr 1
    rw [decide_eq_decide]
    constructor
    · intro h; rw [show x = r by omega]
    · intro h; cases h; rfl
theorem h_zero {rk : List (Nat × Nat)} {l : List Nat} {a c : Nat} (e : l[a]? = some c) : decide (hAt ohN rk l a = 0) = decide (rkOf rk c = some 0) := by
  rw [hAt_at e, decide_eq_decide]
  cases rkOf rk c with
  | none => show (1 = 0) ↔ _; simp
  | some x => cases x with
    | zero => show (0 = 0) ↔ _; simp
    | succ x => show (x + 2 = 0) ↔ _; simp
theorem h_one {rk : List (Nat × Nat)} {l : List Nat} {a c : Nat} (e : l[a]? = some c) : decide (hAt ohN rk l a = 1) = !(lookA (rkL rk) (.inr (ofL [c]))).isSome := by
  rw [hAt_at e, look_rk, Option.isSome_map]
  cases rkOf rk c with
  | none => rfl
  | some x => cases x with
    | zero => rfl
    | succ x => show decide (x + 2 = 1) = false; rw [decide_eq_false (by omega)]
theorem h_more {rk : List (Nat × Nat)} {l : List Nat} {a c r : Nat} (e : l[a]? = some c) (hr : 1 ≤ r) : decide (hAt ohN rk l a = r + 1) = decide (rkOf rk c = some r) := by
  rw [hAt_at e, decide_eq_decide]
  cases rkOf rk c with
  | none => show (1 = r + 1) ↔ _; constructor
            · intro h; omega
            · intro h; cases h
  | some x => cases x with
    | zero => show (0 = r + 1) ↔ _; constructor
              · intro h; omega
              · intro h; cases h; omega
    | succ x => show (x + 2 = r + 1) ↔ some (x + 1) = some r; rw [Option.some.injEq]; omega
theorem ok_y_shown_places (T : Env K mg base) : FnOk P w K mg base L2.CX0 6 T.f_y_shown_places T.d_y_shown_places ["_law_marks", "_law_typed"] (lift K spYPlc) := by
  refine fn_n T.F_y_shown_places sc_y_shown_places (fun ds μ Q E h => ?len) (fun A outer s H E hr => ?_)
  case len =>
    first
    | (obtain ⟨rfl, _⟩ := h; rfl)
    | (obtain ⟨_, rfl, _⟩ := h; rfl)
    | (obtain ⟨_, _, rfl, _⟩ := h; rfl)
    | (obtain ⟨_, _, _, rfl, _⟩ := h; rfl)
    | (obtain ⟨_, _, _, _, rfl, _⟩ := h; rfl)
    | (obtain ⟨_, _, _, _, _, rfl, _⟩ := h; rfl)
    | (obtain ⟨_, _, _, _, _, _, rfl, _⟩ := h; rfl)
    | (obtain ⟨_, _, _, _, _, _, _, rfl, _⟩ := h; rfl)
    | (obtain ⟨_, _, _, _, _, _, _, _, rfl, _⟩ := h; rfl)
    | (obtain ⟨_, _, _, _, _, _, _, _, _, rfl, _⟩ := h; rfl)
    | (obtain ⟨_, _, _, _, _, _, _, _, _, _, rfl, _⟩ := h; rfl)
    | (obtain ⟨_, _, _, _, _, _, _, _, _, _, _, rfl, _⟩ := h; rfl)
    | (obtain ⟨_, _, _, _, _, _, _, _, _, _, _, _, rfl, _⟩ := h; rfl)
    | (obtain ⟨_, _, _, _, _, _, _, _, _, _, _, _, _, rfl, _⟩ := h; rfl)
    | (match ds, h with | [_, _], _ => rfl)
  have nd := sc_y_shown_places.nd
  refine ⟨_, _, (dss_cons (ds_set (n := 2) nd rfl (by first | exact .inl rfl | exact .inr rfl) (de_lstC da_nil)) <|
      dss_cons (ds_for PassesOwn.never rfl (di_list (de_call (ok_y_clusters T) (hr.mono (by decide)) (by rfl) T.g_y_clusters T.F_y_clusters.kp T.b_y_clusters .nil (fun _ _ => .nil) passN (da_cons (de_var (pv 0)) (da_cons (de_var (pv 1)) da_nil)))) (dg_tup (n := 2) (K := K) rfl rfl (dgs_cons (dg_name (n := 3) nd rfl (by first | exact .inl rfl | exact .inr rfl)) (dgs_cons (dg_name (n := 4) nd rfl (by first | exact .inl rfl | exact .inr rfl)) dgs_nil)) (by rfl) (by rfl))
        (dss_cons (ds_expr (de_bm PySem.F.plainAttrs_list PySem.F.slot_list_extend PySem.F.type_list_extend m_extend (de_var (pv 2)) (da_cons (de_lc (own := [("_law_at", 6)]) (by rfl) nd (di_range2 rfl T.z_range (da_cons (de_var (pv 3)) (da_cons (de_var (pv 4)) da_nil))) (blkOk_by (own := [("_law_at", 6)]) (N := n_y_shown_places) (sc := defScope s_y_shown_places) (by decide +kernel)) (fun _ _ _ _ _ => by exact (dgw_name (n := 6) nd rfl (.inl rfl) (by decide))) (fun _ _ _ _ _ => by exact (dts_one (dt_cmp o_eq (de_dget1 (hu1 hr) (de_var (pv 0)) (de_ix x_str (de_var (pv 1)) (de_var (pv 6)) (fun _ _ => rfl)) ⟨rfl, rfl, rfl, rfl⟩) de_int (nomark _)))) (fun _ _ _ _ _ => by exact (de_var (pv 6)))) da_nil))) <|
        dss_cons (ds_expr (de_bm PySem.F.plainAttrs_list PySem.F.slot_list_extend PySem.F.type_list_extend m_extend (de_var (pv 2)) (da_cons (de_lc (own := [("_law_at", 6)]) (by rfl) nd (di_range2 rfl T.z_range (da_cons (de_var (pv 3)) (da_cons (de_var (pv 4)) da_nil))) (blkOk_by (own := [("_law_at", 6)]) (N := n_y_shown_places) (sc := defScope s_y_shown_places) (by decide +kernel)) (fun _ _ _ _ _ => by exact (dgw_name (n := 6) nd rfl (.inl rfl) (by decide))) (fun _ _ _ _ _ => by exact (dts_one (dt_cmp (o_ninD (hu1 hr)) (de_ix x_str (de_var (pv 1)) (de_var (pv 6)) (fun _ _ => rfl)) (de_var (pv 0)) (by rfl)))) (fun _ _ _ _ _ => by exact (de_var (pv 6)))) da_nil))) <|
        (dss_one (ds_for PassesOwn.never rfl (di_range2 rfl T.z_range (da_cons de_int (da_cons de_int da_nil))) (dg_name (n := 5) nd rfl (by first | exact .inl rfl | exact .inr rfl))
          (dss_one (ds_expr (de_bm PySem.F.plainAttrs_list PySem.F.slot_list_extend PySem.F.type_list_extend m_extend (de_var (pv 2)) (da_cons (de_lc (own := [("_law_at", 6)]) (by rfl) nd (di_range2 rfl T.z_range (da_cons (de_var (pv 3)) (da_cons (de_var (pv 4)) da_nil))) (blkOk_by (own := [("_law_at", 6)]) (N := n_y_shown_places) (sc := defScope s_y_shown_places) (by decide +kernel)) (fun _ _ _ _ _ => by exact (dgw_name (n := 6) nd rfl (.inl rfl) (by decide))) (fun _ _ _ _ _ => by exact (dts_one (dt_cmp o_eq (de_dget1 (hu1 hr) (de_var (pv 0)) (de_ix x_str (de_var (pv 1)) (de_var (pv 6)) (fun _ _ => rfl)) ⟨rfl, rfl, rfl, rfl⟩) (de_var (pv 5)) (nomark _)))) (fun _ _ _ _ _ => by exact (de_var (pv 6)))) da_nil)))))))) <|
      (dss_one (ds_ret (de_fz (de_var (pv 2)))))), ?_⟩
  rintro ds μ Q E ⟨rk, l, rfl, g, hl, q⟩
  unfold rkD
  walk_at "w"
  refine ⟨by decide, fun L hL => ?_⟩
  refine ⟨rk, l, rfl, hl, ?_⟩
  walk_at "w"
  refine forL_of (cls rk l) prN (fun i δ μ' => ∃ a3 a4 a5 a6, δ = [some (dkD (rkL rk)), some (.str l), some (.ref L), a3, a4, a5, a6] ∧ μ' = mup μ L (.lst ((((cls rk l).take i).flatMap fun p => lev (hAt ohN rk l) (List.range' p.1 (p.2 - p.1))).map fun i => D.int (i : Nat)))) ⟨_, _, _, _, rfl, rfl⟩ (fun _ _ _ _ => trivial) ?_ ?_
  · rintro i p δ μ' k hp ⟨a3, a4, a5, a6, rfl, rfl⟩ next
    obtain ⟨p1, p2⟩ := cls_le (List.mem_of_getElem? hp)
    have lv : ∀ p2 ∈ cls rk l, (lev (hAt ohN rk l) (List.range' p2.1 (p2.2 - p2.1))).length ≤ 4000 := fun p2 h2 => by
      have := (cls_le h2).2
      rw [(lev_perm fun a _ => hAt_le low_oh g l a).length_eq, List.length_range']
      omega
    have l1 := flatMap_len (f := fun p : Nat × Nat => lev (hAt ohN rk l) (List.range' p.1 (p.2 - p.1))) ((cls rk l).take i) 4000 fun p2 h2 => lv p2 (List.mem_of_mem_take h2)
    have l2 := lv p (List.mem_of_getElem? hp)
    have l3 : i < (cls rk l).length := (List.getElem?_eq_some_iff.mp hp).1
    have l4 : (cls rk l).length ≤ 4000 := Nat.le_trans (cls_len rk l) hl
    have l5 : ((cls rk l).take i).length * 4000 ≤ 3999 * 4000 := Nat.mul_le_mul_right _ (by rw [List.length_take]; omega)
    unfold prN
    obtain ⟨R, hR⟩ : ∃ R, List.range' p.1 (p.2 - p.1) = R := ⟨_, rfl⟩
    have rl : ∀ a ∈ R, a < l.length := fun a ha => by
      rw [← hR] at ha
      have := List.mem_range'_1.mp ha
      omega
    have Rlen : R.length ≤ 4000 := by rw [← hR, List.length_range']; omega
    have lvn : ∀ n, (levN (hAt ohN rk l) R n).length ≤ R.length := fun n => by rw [(levN_perm _ _ n).length_eq]; exact List.length_filter_le ..
    generalize hB : ((cls rk l).take i).flatMap (fun p => lev (hAt ohN rk l) (List.range' p.1 (p.2 - p.1))) = B at l1 ⊢
    walk_at "w"
    refine ⟨by omega, fun L2 hL2 => ?_⟩
    rw [show ((p.2 : Int) - (p.1 : Int)).toNat = p.2 - p.1 by omega, rngD_nat, hR]
    refine lcL_fil (fun a => .int (a : Nat)) (fun a => decide (hAt ohN rk l a = 0)) (fun a => .int (a : Nat)) yes_off R [] (by show 0 + R.length ≤ _; omega) (fun a ha μ' cc of hcc => ?_) ?_
    · obtain ⟨c, hc⟩ : ∃ c, l[a]? = some c := ⟨_, List.getElem?_eq_getElem (rl a ha)⟩
      rw [h_zero hc] at hcc
      walk_at "w"
      rw [atI_nat hc]
      walk_at "w"
      refine ⟨by omega, ?_⟩
      rw [show ((0 : Int)) = ((0 : Nat) : Int) from rfl, eq_rk]
      dsimp only
      cases hd : decide (rkOf rk c = some 0) <;> simp only [hd] at hcc ⊢ <;> exact hcc
    rw [List.nil_append, era_mup hL2, cel_ref mup_same, mup_mup]
    have f0 : R.filter (fun a => decide (hAt ohN rk l a = 0)) = levN (hAt ohN rk l) R 1 := by rw [levN_next]; rfl
    rw [f0]
    have n1 := lvn 1
    refine ⟨by rw [List.length_map, List.length_map]; omega, by unfold isC; simp only [mup_same], by omega, fun L3 hL3 => ?_⟩
    refine lcL_fil (fun a => .int (a : Nat)) (fun a => decide (hAt ohN rk l a = 1)) (fun a => .int (a : Nat)) yes_off R [] (by show 0 + R.length ≤ _; omega) (fun a ha μ' cc of hcc => ?_) ?_
    · obtain ⟨c, hc⟩ : ∃ c, l[a]? = some c := ⟨_, List.getElem?_eq_getElem (rl a ha)⟩
      rw [h_one hc] at hcc
      walk_at "w"
      rw [atI_nat hc]
      walk_at "w"
      refine ⟨by omega, ?_⟩
      cases hd : (lookA (rkL rk) (.inr (ofL [c]))).isSome <;> simp only [hd] at hcc ⊢ <;> exact hcc
    rw [List.nil_append, era_mup hL3, cel_ref mup_same, mup_mup, List.append_assoc, ← List.map_append, ← List.map_append]
    have f1 : levN (hAt ohN rk l) R 1 ++ R.filter (fun a => decide (hAt ohN rk l a = 1)) = levN (hAt ohN rk l) R 2 := by rw [levN_next _ _ 1]
    have n2 := lvn 2
    rw [f1]
    refine ⟨by rw [List.length_map, List.length_map, ← f0]; have := List.length_filter_le (fun a => decide (hAt ohN rk l a = 0)) R; have := List.length_filter_le (fun a => decide (hAt ohN rk l a = 1)) R; rw [f0] at *; rw [List.length_append]; omega, by decide, ?_⟩
    rw [show ((10 : Int) - 1).toNat = 9 from rfl, show (1 : Int) = ((1 : Nat) : Int) from rfl, rngD_nat]
    refine forL_of (List.range' 1 9) (fun r => .int (r : Nat)) (fun i2 δ μ' => ∃ a5 a6, δ = [some (dkD (rkL rk)), some (.str l), some (.ref L), some (.int (p.1 : Nat)), some (.int (p.2 : Nat)), a5, a6] ∧ μ' = mup μ L (.lst ((B ++ levN (hAt ohN rk l) R (i2 + 2)).map fun i => D.int (i : Nat)))) ⟨_, _, rfl, by rw [List.map_append]⟩ (fun _ _ _ _ => trivial) ?_ ?_
    · rintro i2 r δ μ' k2 hr ⟨a5, a6, rfl, rfl⟩ next2
      obtain ⟨hi2, er⟩ := List.getElem?_eq_some_iff.mp hr
      rw [List.length_range'] at hi2
      rw [List.getElem_range'] at er
      have er : r = i2 + 1 := by omega
      subst er
      have n3 := lvn (i2 + 2)
      walk_at "w"
      refine ⟨by omega, fun L4 hL4 => ?_⟩
      rw [show ((p.2 : Int) - (p.1 : Int)).toNat = p.2 - p.1 by omega, rngD_nat, hR]
      refine lcL_fil (fun a => .int (a : Nat)) (fun a => decide (hAt ohN rk l a = i2 + 2)) (fun a => .int (a : Nat)) yes_off R [] (by show 0 + R.length ≤ _; omega) (fun a ha μ' cc of hcc => ?_) ?_
      · obtain ⟨c, hc⟩ : ∃ c, l[a]? = some c := ⟨_, List.getElem?_eq_getElem (rl a ha)⟩
        rw [h_more hc (show 1 ≤ i2 + 1 by omega)] at hcc
        walk_at "w"
        rw [atI_nat hc]
        walk_at "w"
        refine ⟨by omega, ?_⟩
        rw [eq_rk]
        dsimp only
        cases hd : decide (rkOf rk c = some (i2 + 1)) <;> simp only [hd] at hcc ⊢ <;> exact hcc
      rw [List.nil_append, era_mup hL4, cel_ref mup_same, mup_mup, ← List.map_append, List.append_assoc, show levN (hAt ohN rk l) R (i2 + 2) ++ R.filter (fun a => decide (hAt ohN rk l a = i2 + 2)) = levN (hAt ohN rk l) R (i2 + 1 + 2) from (levN_next _ _ (i2 + 2)).symm]
      have n4 := List.length_filter_le (fun a => decide (hAt ohN rk l a = i2 + 2)) R
      refine ⟨by rw [List.length_map, List.length_map, List.length_append]; omega, next2 _ _ ⟨_, _, rfl, rfl⟩⟩
    · rintro δ μ' ⟨a5, a6, rfl, rfl⟩
      refine next _ _ ⟨_, _, _, _, rfl, ?_⟩
      rw [List.take_add_one, hp, List.flatMap_append, hB, List.length_range']
      simp only [Option.toList_some, List.flatMap_cons, List.flatMap_nil, List.append_nil]
      rw [hR]
      rfl
  · rintro δ μ' ⟨a3, a4, a5, a6, rfl, rfl⟩
    walk_at "w"
    rw [List.take_length, era_mup hL]
    exact q
theorem asB_yes {α : Type} (l : List α) : asB (l.map fun _ => D.bl true) = some (l.map fun _ => true) := by
  have := asB_mapf (fun _ => true) (l.map fun _ => D.non)
  rw [List.map_map, List.map_map] at this
  exact this
theorem isPs_nats : ∀ (n : Nat) (l : List Nat), isPs n (l.map fun i => D.int (i : Nat)) = true
  | _, [] => by unfold isPs; rfl
  | n, a :: l => by
    have ih := isPs_nats n l
    rw [List.map_cons]
    unfold isPs
    rw [ih]
    cases n <;> rfl
theorem isP_nats (l : List Nat) : isP 9 (.lst (l.map fun i => D.int (i : Nat))) = true := isPs_nats 8 l
theorem noB_nats (l : List Nat) : noB (.lst (l.map fun i => D.int (i : Nat))) = true := by
  show noBs _ = true
  rw [noBs_iff]
  intro x hx
  obtain ⟨i, _, rfl⟩ := List.mem_map.mp hx
  rfl
theorem sorted_rng {ns : List Int} {ps : List Nat} {n : Nat} (p : ns.Perm (ps.map fun i : Nat => (i : Int))) (s : ns.Pairwise (· ≤ ·)) (hp : ps.Perm (List.range n)) : ns.map D.int = (List.range n).map fun i => D.int (i : Nat) := by
  have e : ns = (List.range n).map fun i : Nat => (i : Int) := List.Perm.eq_of_pairwise (le := (· ≤ ·)) (fun a b _ _ h1 h2 => Int.le_antisymm h1 h2) s (List.pairwise_map.mpr (List.pairwise_lt_range.imp fun h => by omega)) (p.trans (hp.map _))
  rw [e, List.map_map]
  rfl
theorem rngD0 (n : Nat) : rngD 0 n = (List.range n).map fun i => D.int (i : Nat) := by rw [show (0 : Int) = ((0 : Nat) : Int) from rfl, rngD_nat, List.range_eq_range']
def spRight : DSp := fun ds μ Q _ => ∃ d l ps, ds = [.tup [.str (txt l ps), d], .str l, .lst (ps.map fun i => D.int (i : Nat))] ∧ rd μ d = .lst (ps.map fun i => D.int (i : Nat)) ∧ ps.Perm (List.range l.length) ∧ l.length ≤ 4000 ∧ Q (.bl true) μ
theorem ok_y_right (T : Env K mg base) : FnOk P w K mg base L2.CX0 6 T.f_y_right T.d_y_right ["_law_found", "_law_typed", "_law_due"] (lift K spRight) := by
  refine fn_n T.F_y_right sc_y_right (fun ds μ Q E h => ?len) (fun A outer s H E hr => ?_)
  case len =>
    first
    | (obtain ⟨rfl, _⟩ := h; rfl)
    | (obtain ⟨_, rfl, _⟩ := h; rfl)
    | (obtain ⟨_, _, rfl, _⟩ := h; rfl)
    | (obtain ⟨_, _, _, rfl, _⟩ := h; rfl)
    | (obtain ⟨_, _, _, _, rfl, _⟩ := h; rfl)
    | (obtain ⟨_, _, _, _, _, rfl, _⟩ := h; rfl)
    | (obtain ⟨_, _, _, _, _, _, rfl, _⟩ := h; rfl)
    | (obtain ⟨_, _, _, _, _, _, _, rfl, _⟩ := h; rfl)
    | (obtain ⟨_, _, _, _, _, _, _, _, rfl, _⟩ := h; rfl)
    | (obtain ⟨_, _, _, _, _, _, _, _, _, rfl, _⟩ := h; rfl)
    | (obtain ⟨_, _, _, _, _, _, _, _, _, _, rfl, _⟩ := h; rfl)
    | (obtain ⟨_, _, _, _, _, _, _, _, _, _, _, rfl, _⟩ := h; rfl)
    | (obtain ⟨_, _, _, _, _, _, _, _, _, _, _, _, rfl, _⟩ := h; rfl)
    | (obtain ⟨_, _, _, _, _, _, _, _, _, _, _, _, _, rfl, _⟩ := h; rfl)
    | (match ds, h with | [_, _, _], _ => rfl)
  have nd := sc_y_right.nd
  refine ⟨_, _, (dss_cons (ds_if (dw_dt (dw_or (dt_not (dt_val (de_callB c_isi (by rfl) T.z_isinstance boot_isinstance (da_cons (de_var (pv 0)) (da_cons (de_c (pe_bltn (v := .ty "tuple") (by rfl) T.z_tuple (by rfl) rfl) (fun _ _ => .ty _)) da_nil))))) (dw_or (dt_cmp o_ne (de_callB c_lenL (by rfl) T.z_len PySem.boot_len (da_cons (de_var (pv 0)) da_nil)) de_int (nomark _)) (dw_or1 (dt_not (dt_val (de_callB c_isi (by rfl) T.z_isinstance boot_isinstance (da_cons (de_ix x_tup (de_var (pv 0)) de_int (fun _ _ => rfl)) (da_cons (de_c (pe_bltn (v := .ty "str") (by rfl) T.z_str PyProof.Rows.boot_str rfl) (fun _ _ => .ty _)) da_nil)))))))))
        (dss_one (ds_ret de_bl))
        dss_nil) <|
      dss_cons (ds_if (dt_not (dt_val (de_callB c_isi (by rfl) T.z_isinstance boot_isinstance (da_cons (de_ix x_tup (de_var (pv 0)) de_int (fun _ _ => rfl)) (da_cons (de_c (pe_bltn (v := .ty "list") (by rfl) T.z_list (by rfl) rfl) (fun _ _ => .ty _)) da_nil)))))
        (dss_one (ds_ret de_bl))
        dss_nil) <|
      dss_cons (ds_if (dw_dt (dw_or (dt_not (dt_val (de_callB (c_all rfl) (by rfl) T.z_all (by rfl) (da_cons (de_lc (own := [("_law_at", 3)]) (by rfl) nd (di_list (de_ix x_tup (de_var (pv 0)) de_int (fun _ _ => rfl))) (blkOk_by (own := [("_law_at", 3)]) (N := n_y_right) (sc := defScope s_y_right) (by decide +kernel)) (fun _ _ _ _ _ => by exact (dgw_name (n := 3) nd rfl (.inl rfl) (by decide))) (fun _ _ _ _ _ => by exact dts_nil) (fun _ _ _ _ _ => by exact (de_call (ok_y_whole T) (hr.mono (by decide)) (by rfl) T.g_y_whole T.F_y_whole.kp T.b_y_whole .nil (fun _ _ => .nil) passN (da_cons (de_var (pv 3)) da_nil)))) da_nil)))) (dw_or1 (dt_cmp (o_neD hr.units) (de_callB (c_sortI rfl) (by rfl) T.z_sorted (by rfl) (da_cons (de_ix x_tup (de_var (pv 0)) de_int (fun _ _ => rfl)) da_nil)) (de_listRg (by rfl) (by rfl) T.z_list (by rfl) T.z_range (de_callB c_lenS (by rfl) T.z_len PySem.boot_len (da_cons (de_var (pv 1)) da_nil))) (nomark _)))))
        (dss_one (ds_ret de_bl))
        dss_nil) <|
      (dss_one (ds_ret (de_and (de_cmp (o_eqD hr.units) (de_ix x_tup (de_var (pv 0)) de_int (fun _ _ => rfl)) (de_var (pv 2)) (nomark _)) (de_one (de_cmp o_eq (de_ix x_tup (de_var (pv 0)) de_int (fun _ _ => rfl)) (de_m1 PySem.F.slot_str_join PySem.F.type_str_join m_join (de_str [] (by rfl)) (de_lc (own := [("_law_at", 3)]) (by rfl) nd (di_list (de_var (pv 2))) (blkOk_by (own := [("_law_at", 3)]) (N := n_y_right) (sc := defScope s_y_right) (by decide +kernel)) (fun _ _ _ _ _ => by exact (dgw_name (n := 3) nd rfl (.inl rfl) (by decide))) (fun _ _ _ _ _ => by exact dts_nil) (fun _ _ _ _ _ => by exact (de_ix x_str (de_var (pv 1)) (de_var (pv 3)) (fun _ _ => rfl))))) (nomark _))))))), ?_⟩
  rintro ds μ Q E ⟨d, l, ps, rfl, hd, hp, hl, q⟩
  have pl : ps.length = l.length := by rw [hp.length_eq, List.length_range]
  have plt : ∀ i ∈ ps, i < l.length := fun i hi => List.mem_range.mp (hp.mem_iff.mp hi)
  walk_at "w"
  rw [gLenL_tup]
  walk_at "w"
  rw [hd]
  walk_at "w"
  intro L hL
  refine lcL_of ps (fun i => .int (i : Nat)) (fun _ => .bl true) (by omega) (fun μ' o => keeps_off hd hL o) (fun j i μ' cc hi of hc => ?_) ?_
  · walk_at "w"
    exact ⟨_, rfl, hc⟩
  rw [asB_yes]
  dsimp only
  rw [List.all_eq_true.mpr (fun x hx => by obtain ⟨_, _, rfl⟩ := List.mem_map.mp hx; rfl), era_mup hL]
  walk_at "w"
  refine ⟨ps.map fun i : Nat => (i : Int), by rw [hd, List.map_map]; rfl, fun ns p1 p2 => ?_⟩
  rw [Int.toNat_natCast, rngD0, sorted_rng p1 p2 hp, hd, eqv_self (noB_nats _), eqv_self (noB_nats _)]
  refine ⟨by omega, by omega, by omega, isP_nats _, isP_nats _, ?_⟩
  walk_at "w"
  refine ⟨isP_nats _, isP_nats _, fun L2 hL2 => ?_⟩
  refine lcL_of ps (fun i => .int (i : Nat)) (fun i => enG l (fun c => .str [c]) i) (by omega) yes_off (fun j i μ' cc hi of hc => ?_) ?_
  · have hc2 := List.getElem?_eq_getElem (plt i (List.mem_of_getElem? hi))
    walk_at "w"
    rw [atI_nat hc2]
    rw [enG_at hc2] at hc
    exact ⟨by omega, hc⟩
  rw [txt_map plt, asS_signs]
  dsimp only
  have := txt_len l ps
  rw [sum_ones, joinN_one, era_mup hL2, decide_eq_true rfl]
  exact ⟨by omega, q⟩

/-! all places, each once -/
theorem flat_perm {α β : Type} {f g : α → List β} : ∀ (l : List α), (∀ a ∈ l, (f a).Perm (g a)) → (l.flatMap f).Perm (l.flatMap g)
  | [], _ => .refl _
  | a :: l, h => by
    rw [List.flatMap_cons, List.flatMap_cons]
    exact (h a List.mem_cons_self).append (flat_perm l fun b hb => h b (List.mem_cons_of_mem _ hb))
theorem flat_ends (rk : List (Nat × Nat)) (l : List Nat) : ∀ n, (endsZ (bgsN rk l n) n).flatMap (fun p => List.range' p.1 (p.2 - p.1)) = List.range n
  | 0 => rfl
  | n + 1 => by
    have ih := flat_ends rk l n
    rw [bgsN_next, List.range_succ]
    cases h : bsAt rk l n with
    | true =>
      rw [if_pos rfl, endsZ_next, List.flatMap_append, ih]
      simp
    | false =>
      rw [if_neg Bool.false_ne_true]
      have h0 : 0 < n := by
        cases n with
        | zero => cases h
        | succ n => exact Nat.succ_pos n
      obtain ⟨bs, b, eb⟩ := bgsN_pos (rk := rk) (l := l) h0
      have hb : b < n := by
        have : b ∈ bgsN rk l n := by rw [eb]; exact List.mem_append_right _ (List.mem_singleton.mpr rfl)
        exact List.mem_range.mp (List.mem_filter.mp this).1
      rw [eb, endsZ_next, List.flatMap_append] at ih ⊢
      rw [← ih, List.append_assoc]
      congr 1
      simp only [List.flatMap_cons, List.flatMap_nil, List.append_nil]
      rw [show n + 1 - b = (n - b) + 1 by omega, List.range'_concat, Nat.one_mul, show b + (n - b) = n by omega]
theorem plc_perm {h : Option Nat → Nat} (lo : Low h) {rk : List (Nat × Nat)} (g : GoodK rk) (l : List Nat) : (plc h rk l).Perm (List.range l.length) := by
  have := flat_perm (f := fun p : Nat × Nat => lev (hAt h rk l) (List.range' p.1 (p.2 - p.1))) (cls rk l) fun p _ => lev_perm fun a _ => hAt_le lo g l a
  rw [show cls rk l = endsZ (bgsN rk l l.length) l.length from rfl, flat_ends] at this
  exact this
theorem bgs0 (l : List Nat) : bgsN [] l l.length = List.range l.length := by
  unfold bgsN
  rw [List.filter_eq_self]
  intro i hi
  have hc := List.getElem?_eq_getElem (List.mem_range.mp hi)
  rw [bsAt_at hc]
  exact Bool.or_true _
theorem ends_rng : ∀ n, endsZ (List.range n) n = (List.range n).map fun i => (i, i + 1)
  | 0 => rfl
  | n + 1 => by
    rw [List.range_succ, endsZ_next, ends_rng n, List.map_append]
    rfl
theorem plc0 {h : Option Nat → Nat} (lo : Low h) (l : List Nat) : plc h [] l = List.range l.length := by
  unfold plc
  rw [show cls [] l = endsZ (bgsN [] l l.length) l.length from rfl, bgs0, ends_rng, List.flatMap_map]
  have : ∀ i, lev (hAt h [] l) (List.range' i (i + 1 - i)) = [i] := fun i => by
    rw [show i + 1 - i = 1 by omega]
    exact List.perm_singleton.mp (lev_perm (l := [i]) fun a _ => hAt_le lo goodK0 l a)
  simp only [this]
  simp
theorem txt_rng (l : List Nat) : txt l (List.range l.length) = l := by
  have h := txt_map (l := l) (ps := List.range l.length) fun i hi => List.mem_range.mp hi
  have h2 : (List.range l.length).map (fun i => enG l (fun c => D.str [c]) i) = l.map fun c => D.str [c] := by
    apply List.ext_getElem?
    intro i
    rw [List.getElem?_map, List.getElem?_map]
    by_cases hi : i < l.length
    · rw [List.getElem?_range hi, List.getElem?_eq_getElem hi, Option.map_some, enG_at (List.getElem?_eq_getElem hi)]
      rfl
    · rw [List.getElem?_eq_none (by rw [List.length_range]; omega), List.getElem?_eq_none (by omega)]
      rfl
  rw [h2] at h
  have inj : ∀ {a b : List Nat}, (a.map fun c => D.str [c]) = (b.map fun c => D.str [c]) → a = b := by
    intro a
    induction a with
    | nil => intro b h; cases b with
      | nil => rfl
      | cons y b => cases h
    | cons x a ih => intro b h; cases b with
      | nil => cases h
      | cons y b =>
        have h1 := (List.cons.inj h).1
        injection h1 with h1
        rw [(List.cons.inj h1).1, ih (List.cons.inj h).2]
  exact (inj h).symm

/-! the end, from the law by data -/
abbrev LCX : CXT := L2.CX0
theorem lcx0 {H : Hp} {s : Shared} {e : Value} {s' : Shared} (h : LCX [] H s (fun _ _ _ => False) e s') : False := h
def spLawD : DSp := fun ds μ Q _ => ∃ ns : List Int, ds = [.scr ns] ∧ ns.length ≤ 63 ∧ ∀ μ', Q (.bl true) μ'
def spLaw (K : PySem.W.Frag) (TL : List (Addr × Str)) : Sp := fun vs H Q _ => ∃ (a : Addr) (ns : List Int), vs = [.ref a] ∧ SqL K H a (ns.map V.int) ∧ ns.length ≤ 63 ∧ Tabs TL H ∧ ∀ H', Q (.bl true) H'
theorem law_of {f : Addr} {fd : FuncData} {k : Nat} {TL : List (Addr × Str)} (h : FnOk P w K mg base LCX k f fd ["_law_script"] (lift K spLawD)) : FnOk P w K mg base LCX k f fd ["_law_script"] (spLaw K TL) :=
  h.imp fun vs H Q E h => by
    obtain ⟨a, ns, rfl, ha, hl, _, q⟩ := h
    have cs : Cells K H (fun _ => none) := fun a d e => by cases e
    refine ⟨[.scr ns], fun _ => none, fun d _ => d = .bl true, fun _ _ _ _ => False, .one (.scr ?_), cs, ⟨ns, rfl, hl, fun _ => rfl⟩, fun H' μ' v d t r e => ?_, ?_⟩
    · exact ha.elim (fun h => .inl ⟨h, rfl⟩) .inr
    · subst e
      rw [r.bl_inv]
      exact q _
    · exact fun C fld y v a H' μ' t r h e => e.elim

/-! k14: the law -/
theorem script4 {ns : List Int} {x : D} {i : Nat} (h : (cutL (ns.map D.int ++ [D.int 0]) none (some 4))[i]? = some x) : ∃ c, x = .int c := by
  have e : cutL (ns.map D.int ++ [D.int 0]) none (some 4) = (ns.map D.int ++ [D.int 0]).take 4 := cutL_to _ 4
  rw [e] at h
  have := List.mem_of_mem_take (List.mem_of_getElem? h)
  rcases List.mem_append.mp this with h | h
  · obtain ⟨c, _, rfl⟩ := List.mem_map.mp h
    exact ⟨c, rfl⟩
  · exact ⟨0, List.mem_singleton.mp h⟩
theorem scr_en {ns : List Int} {i : Nat} {x : D} (h : (enumD (cutL (ns.map D.int ++ [.int 0]) none (some 4)))[i]? = some x) : ∃ c : Int, x = .tup [.int (i : Nat), .int c] := by
  rw [enumD_get] at h
  cases e : (cutL (ns.map D.int ++ [.int 0]) none (some 4))[i]? with
  | none => rw [e] at h; cases h
  | some y =>
    rw [e] at h
    obtain ⟨c, rfl⟩ := script4 e
    exact ⟨c, (Option.some.inj h).symm⟩
theorem wordU_yes {w : List Nat} (h : ∀ c ∈ w, c ∈ SG) (hl : w.length ≤ 1000000) : WordU (.str w) none := .inl ⟨w, rfl, hl, by rw [badAt_none.mpr h]; rfl⟩
theorem ord_good {C X : Addr} {μ : Mu} {Q : DK} {E : DX} {rk : List (Nat × Nat)} {w : List Nat} (g : GoodK rk) (hg : ∀ c ∈ w, c ∈ SG) (hl : w.length ≤ 1000) (q : ∀ p, μ p = none → Q (.tup [.str (txt w (plc ohN rk w)), .ref p]) (mup μ p (.lst ((plc ohN rk w).map fun i => D.int (i : Nat))))) : spOrd C X [cas C rk, .str w] μ Q E :=
  ⟨rk, _, none, rfl, g, wordU_yes hg (by omega), fun l e => by cases e; exact ⟨by omega, q⟩⟩
theorem rdN_nat (μ : Mu) : ∀ (n : Nat) (l : List Nat), (l.map fun i => D.int (i : Nat)).map (rdN n μ) = l.map fun i => D.int (i : Nat)
  | n, l => by
    rw [List.map_map]
    refine List.map_congr_left fun i _ => ?_
    show rdN n μ (.int (i : Nat)) = _
    cases n <;> rfl
theorem rdN_lst {μ : Mu} {n : Nat} (l : List Nat) : rdN (n + 1) μ (.lst (l.map fun i => D.int (i : Nat))) = .lst (l.map fun i => D.int (i : Nat)) := by
  show D.lst ((l.map fun i => D.int (i : Nat)).map (rdN n μ)) = _
  rw [rdN_nat]
theorem rdN_ref {μ : Mu} {n : Nat} {p : Addr} {l : List Nat} (h : μ p = some (.lst (l.map fun i => D.int (i : Nat)))) : rdN (n + 1) μ (.ref p) = .lst (l.map fun i => D.int (i : Nat)) := by
  unfold rdN
  rw [rd_ref h]
  show D.lst ((l.map fun i => D.int (i : Nat)).map (rdN n μ)) = _
  rw [rdN_nat]
theorem rdT_ref {μ : Mu} {p : Addr} {t l : List Nat} (h : μ p = some (.lst (l.map fun i => D.int (i : Nat)))) : rdN 3 μ (.tup [.str t, .ref p]) = .tup [.str t, .lst (l.map fun i => D.int (i : Nat))] := by
  show D.tup [rdN 2 μ (.str t), rdN 2 μ (.ref p)] = _
  rw [rdN_ref h]
  rfl
theorem rdT_lst {μ : Mu} {t l : List Nat} : rdN 3 μ (.tup [.str t, .lst (l.map fun i => D.int (i : Nat))]) = .tup [.str t, .lst (l.map fun i => D.int (i : Nat))] := by
  show D.tup [rdN 2 μ (.str t), rdN 2 μ (.lst _)] = _
  rw [rdN_lst]
  rfl
theorem isP_pair {t l : List Nat} (h : ∀ c ∈ t, c ∈ SG) : isP 9 (.tup [.str t, .lst (l.map fun i => D.int (i : Nat))]) = true := by
  show (isP 8 (.str t) && (isP 8 (.lst (l.map fun i => D.int (i : Nat))) && true)) = true
  rw [show isP 8 (.lst (l.map fun i => D.int (i : Nat))) = true from isPs_nats 7 l, Bool.and_true, Bool.and_true]
  show t.all (· < 0x110000) = true
  rw [List.all_eq_true]
  intro c hc
  exact decide_eq_true (Nat.lt_trans (sg_small c (h c hc)) (by decide))
theorem noB_pair {t l : List Nat} : noB (.tup [.str t, .lst (l.map fun i => D.int (i : Nat))]) = true := by
  show (noB (.str t) && (noB (.lst (l.map fun i => D.int (i : Nat))) && true)) = true
  rw [noB_nats]
  rfl
theorem okd_law (T : Env K mg base) : FnOk P w K mg base L2.CX0 21 T.f_y_law T.d_y_law ["_law_script"] (lift K spLawD) := by
  refine fn_n T.F_y_law sc_y_law (fun ds μ Q E h => ?len) (fun A outer s H E hr => ?_)
  case len =>
    first
    | (obtain ⟨rfl, _⟩ := h; rfl)
    | (obtain ⟨_, rfl, _⟩ := h; rfl)
    | (obtain ⟨_, _, rfl, _⟩ := h; rfl)
    | (obtain ⟨_, _, _, rfl, _⟩ := h; rfl)
    | (obtain ⟨_, _, _, _, rfl, _⟩ := h; rfl)
    | (obtain ⟨_, _, _, _, _, rfl, _⟩ := h; rfl)
    | (obtain ⟨_, _, _, _, _, _, rfl, _⟩ := h; rfl)
    | (obtain ⟨_, _, _, _, _, _, _, rfl, _⟩ := h; rfl)
    | (obtain ⟨_, _, _, _, _, _, _, _, rfl, _⟩ := h; rfl)
    | (obtain ⟨_, _, _, _, _, _, _, _, _, rfl, _⟩ := h; rfl)
    | (obtain ⟨_, _, _, _, _, _, _, _, _, _, rfl, _⟩ := h; rfl)
    | (obtain ⟨_, _, _, _, _, _, _, _, _, _, _, rfl, _⟩ := h; rfl)
    | (obtain ⟨_, _, _, _, _, _, _, _, _, _, _, _, rfl, _⟩ := h; rfl)
    | (obtain ⟨_, _, _, _, _, _, _, _, _, _, _, _, _, rfl, _⟩ := h; rfl)
    | (match ds, h with | [_], _ => rfl)
  have nd := sc_y_law.nd
  refine ⟨_, _, (dss_cons (ds_for PassesOwn.never rfl (di_enum (by rfl) T.z_enumerate (da_cons (de_slice l_list (de_op o_scr (de_var (pv 0)) (de_lst (da_cons de_int da_nil))) do_none (do_some de_int)) da_nil)) (dg_tup (n := 2) (K := K) rfl rfl (dgs_cons (dg_name (n := 1) nd rfl (by first | exact .inl rfl | exact .inr rfl)) (dgs_cons (dg_name (n := 2) nd rfl (by first | exact .inl rfl | exact .inr rfl)) dgs_nil)) (by rfl) (by rfl))
        (dss_cons (ds_set (n := 3) nd rfl (by first | exact .inl rfl | exact .inr rfl) (de_call (ok_y_well T) (hr.mono (by decide)) (by rfl) T.g_y_well T.F_y_well.kp T.b_y_well .nil (fun _ _ => .nil) passN (da_cons (de_var (pv 2)) da_nil))) <|
        dss_cons (ds_set (n := 4) nd rfl (by first | exact .inl rfl | exact .inr rfl) (de_call (ok_y_unlike T) (hr.mono (by decide)) (by rfl) T.g_y_unlike T.F_y_unlike.kp T.b_y_unlike .nil (fun _ _ => .nil) passN (da_cons (de_var (pv 3)) (da_cons de_int da_nil)))) <|
        dss_cons (ds_set (n := 5) nd rfl (by first | exact .inl rfl | exact .inr rfl) (de_fz (de_call (ok_y_ranks T) (hr.mono (by decide)) (by rfl) T.g_y_ranks T.F_y_ranks.kp T.b_y_ranks .nil (fun _ _ => .nil) passN (da_cons (de_var (pv 3)) (da_cons (de_slice l_str (de_var (pv 4)) do_none (do_some de_int)) da_nil))))) <|
        dss_cons (ds_set (n := 6) nd rfl (by first | exact .inl rfl | exact .inr rfl) (de_fz (de_makeK0 (is := [0, 5, 2, 3, 4]) (dvs := ([.non, .non, .non, .non] : List V)) (ks := ["ranks"]) T.M_Case (ok_Case_init T) (hr.mono (by decide)) (by rfl) T.g_Case T.kw_Case_init_1_ranks (fun _ _ => (.cons .non (.cons .non (.cons .non (.cons .non .nil))))) (passes_call (E := E0) L2.takes0 (fun _ _ _ _ h => h)) (dkw_cons (de_var (pv 5)) dkw_nil)))) <|
        dss_cons (ds_setLc (i := 7) (own := [("_law_k", 11)]) (by rfl) nd rfl rfl (sw_true rfl rfl rfl (by decide +kernel)) (di_range1 rfl T.z_range (da_cons de_int da_nil)) (blkOk_by (own := [("_law_k", 11)]) (N := n_y_law) (sc := defScope s_y_law) (by decide +kernel)) (fun _ _ _ _ _ => by exact (dgw_name (n := 11) nd rfl (.inl rfl) (by decide))) (fun _ _ _ _ _ => by exact dts_nil) (fun _ _ _ _ _ => by exact (de_call (ok_y_word T) (hr.mono (by decide)) (by rfl) T.g_y_word T.F_y_word.kp T.b_y_word .nil (fun _ _ => .nil) passN (da_cons (de_var (pv 3)) (da_cons (de_var (pv 4)) (da_cons de_int da_nil)))))) <|
        dss_cons (ds_if (dt_cmp o_eq (de_var (pv 1)) de_int (nomark _))
          (dss_one (ds_set (n := 7) nd rfl (by first | exact .inl rfl | exact .inr rfl) (de_op o_cat (de_lst (da_cons (de_call (ok_y_long T) (hr.mono (by decide)) (by rfl) T.g_y_long T.F_y_long.kp T.b_y_long .nil (fun _ _ => .nil) passN (da_cons (de_var (pv 3)) (da_cons (de_var (pv 4)) da_nil))) da_nil)) (de_slice l_list (de_var (pv 7)) do_none (do_some de_int)))))
          dss_nil) <|
        dss_cons (ds_for PassesOwn.never rfl (di_list (de_var (pv 7))) (dg_name (n := 8) nd rfl (by first | exact .inl rfl | exact .inr rfl))
          (dss_cons (ds_set (n := 9) nd rfl (by first | exact .inl rfl | exact .inr rfl) (de_call (ok_y_shown_places T) (hr.mono (by decide)) (by rfl) T.g_y_shown_places T.F_y_shown_places.kp T.b_y_shown_places .nil (fun _ _ => .nil) passN (da_cons (de_var (pv 5)) (da_cons (de_var (pv 8)) da_nil)))) <|
          dss_cons (ds_set (n := 10) nd rfl (by first | exact .inl rfl | exact .inr rfl) (de_call (ok_ordered T) (hr.mono (by decide)) (by rfl) T.g_ordered T.F_ordered.kp T.b_ordered .nil (fun _ _ => .nil) (passes_call (E := E0) L2.takes0 (fun _ _ _ _ h => h)) (da_cons (de_var (pv 6)) (da_cons (de_var (pv 8)) da_nil)))) <|
          dss_cons (ds_if (dt_not (dt_val (de_call (ok_y_right T) (hr.mono (by decide)) (by rfl) T.g_y_right T.F_y_right.kp T.b_y_right .nil (fun _ _ => .nil) passN (da_cons (de_var (pv 10)) (da_cons (de_var (pv 8)) (da_cons (de_var (pv 9)) da_nil))))))
            (dss_one (ds_ret de_bl))
            dss_nil) <|
          dss_cons (ds_expr (de_bm PySem.F.plainAttrs_list PySem.F.slot_list_append PySem.F.type_list_append m_append (de_ix x_tup (de_var (pv 10)) de_int (fun _ _ => rfl)) (da_cons de_int da_nil))) <|
          dss_cons (ds_if (dt_not (dt_val (de_call (ok_y_right T) (hr.mono (by decide)) (by rfl) T.g_y_right T.F_y_right.kp T.b_y_right .nil (fun _ _ => .nil) passN (da_cons (de_callK0 (is := [1, 0]) (dvs := ([] : List V)) (ks := ["word", "case"]) (ok_ordered T) (hr.mono (by decide)) (by rfl) T.g_ordered T.F_ordered.kp T.kw_ordered_0_word_case (fun _ _ => .nil) (passes_call (E := E0) L2.takes0 (fun _ _ _ _ h => h)) (dkw_cons (de_var (pv 8)) (dkw_cons (de_var (pv 6)) dkw_nil))) (da_cons (de_var (pv 8)) (da_cons (de_var (pv 9)) da_nil))))))
            (dss_one (ds_ret de_bl))
            dss_nil) <|
          (dss_one (ds_if (dt_cmp (o_neX hr.units) (de_call (ok_ordered T) (hr.mono (by decide)) (by rfl) T.g_ordered T.F_ordered.kp T.b_ordered .nil (fun _ _ => .nil) (passes_call (E := E0) L2.takes0 (fun _ _ _ _ h => h)) (da_cons (de_fz (de_make0 T.M_Case (ok_Case_init T) (hr.mono (by decide)) (by rfl) T.g_Case T.b1_Case_init.choose_spec.2 T.b1_Case_init.choose_spec.1 (fun _ _ => (.cons .non (.cons .non (.cons .non (.cons .non .nil))))) (passes_call (E := E0) L2.takes0 (fun _ _ _ _ h => h)))) (da_cons (de_var (pv 8)) da_nil))) (de_tup (da_cons (de_var (pv 8)) (da_cons (de_listRg (by rfl) (by rfl) T.z_list (by rfl) T.z_range (de_callB c_lenS (by rfl) T.z_len PySem.boot_len (da_cons (de_var (pv 8)) da_nil))) da_nil))) (nomark _))
            (dss_one (ds_ret de_bl))
            dss_nil)))) <|
        (dss_one (ds_if (dt_cmp (o_neX hr.units) (de_call (ok_ordered T) (hr.mono (by decide)) (by rfl) T.g_ordered T.F_ordered.kp T.b_ordered .nil (fun _ _ => .nil) (passes_call (E := E0) L2.takes0 (fun _ _ _ _ h => h)) (da_cons (de_var (pv 6)) (da_cons (de_str [] (by rfl)) da_nil))) (de_tup (da_cons (de_str [] (by rfl)) (da_cons (de_lst da_nil) da_nil))) (nomark _))
          (dss_one (ds_ret de_bl))
          dss_nil)))) <|
      (dss_one (ds_ret de_bl))), ?_⟩
  rintro ds μ Q E ⟨ns, rfl, hl, q⟩
  walk_at "w"
  refine ⟨by omega, by omega, ?_⟩
  refine forL_inv (fun i δ μ' => ∃ a1 a2 a3 a4 a5 a6 a7 a8 a9 a10 a11, δ = [some (.scr ns), a1, a2, a3, a4, a5, a6, a7, a8, a9, a10, a11]) ⟨_, _, _, _, _, _, _, _, _, _, _, rfl⟩ (fun _ _ _ _ => trivial) ?_ ?_
  · rintro i x δ μ0 k hx ⟨a1, a2, a3, a4, a5, a6, a7, a8, a9, a10, a11, rfl⟩ next
    obtain ⟨c, rfl⟩ := scr_en hx
    walk_at "w"
    refine ⟨c, rfl, fun s hs0 => ?_⟩
    have hs : mup μ0 s .src s = some .src := mup_same
    generalize mup μ0 s .src = μ1 at hs ⊢
    walk_at "w"
    refine ⟨s, 8, rfl, hs, by decide, by decide, fun sg lsg ndg ssg => ?_⟩
    walk_at "w"
    have l8 : sg.length = 8 := lsg
    refine ⟨by omega, s, _, rfl, hs, (ndg.sublist ?_), ?_, ?_, fun rk gk kk p hp => ?_⟩
    · rw [show cutL sg none (some 7) = sg.take 7 from cutL_to _ 7]; exact List.take_sublist ..
    · rw [show cutL sg none (some 7) = sg.take 7 from cutL_to _ 7]; exact fun c hc => ssg c (List.mem_of_mem_take hc)
    · rw [show cutL sg none (some 7) = sg.take 7 from cutL_to _ 7, List.length_take]; omega
    walk_at "w"
    rw [era_mup hp]
    intro p2 hp2
    refine ⟨p2, _, rk, rfl, mup_same, .inr rfl, gk, rfl, ?_⟩
    walk_at "w"
    rw [era_mup hp2]
    refine ⟨by decide, by decide, fun L hL => ?_⟩
    refine lcL_drawn (fun w => w.length ≤ 40 ∧ ∀ c ∈ w, c ∈ sg) (fun w => .str w) (by rw [rngD_len]; decide) yes_off (fun x hx μ' cc of hc => ?_) (fun ws lws hws => ?_)
    · have hs' := src_off hs hL of
      walk_at "w"
      refine ⟨s, sg, 40, rfl, hs', by omega, by omega, by decide, by decide, fun w lw sw => ?_⟩
      walk_at "w"
      exact hc _ ⟨by omega, sw⟩
    rw [rngD_len] at lws
    rw [era_mup hL]
    by_cases hi : (i : Int) = 0
    case' pos =>
      rw [decide_eq_true hi]
      walk_at "w"
      refine ⟨s, sg, rfl, hs, l8, fun w0 lw0 sw0 => ?_⟩
      walk_at "w"
      rw [show cutL (ws.map fun w => D.str w) none (some 2) = (ws.map fun w => D.str w).take 2 from cutL_to _ 2, ← List.map_take, show D.str w0 :: ((ws.take 2).map fun w => D.str w) = (w0 :: ws.take 2).map fun w => D.str w from rfl]
      have hu : ∀ w ∈ w0 :: ws.take 2, w.length ≤ 1000 ∧ ∀ c ∈ w, c ∈ SG := fun w hw => by
        rcases List.mem_cons.mp hw with rfl | hw
        · exact ⟨by omega, fun c hc => ssg c (sw0 c hc)⟩
        · have := hws w (List.mem_of_mem_take hw)
          exact ⟨by omega, fun c hc => ssg c (this.2 c hc)⟩
      generalize w0 :: ws.take 2 = us at hu
      have lw : ((ws.map fun w => D.str w).take 2).length ≤ 2 := by rw [List.length_take]; omega
      have lw2 : ((ws.take 2).map fun w => D.str w).length ≤ 2 := by rw [List.length_map, List.length_take]; omega
      refine ⟨by decide, by omega, ?_⟩
    case' neg =>
      rw [decide_eq_false hi]
      walk_at "w"
      have hu : ∀ w ∈ ws, w.length ≤ 1000 ∧ ∀ c ∈ w, c ∈ SG := fun w hw => by
        have := hws w hw
        exact ⟨by omega, fun c hc => ssg c (this.2 c hc)⟩
      generalize ws = us at hu
    all_goals
      refine forL_of us (fun w => D.str w) (fun i2 δ μ => ∃ b1 b2 b3 b4, δ = [some (.scr ns), some (.int (i : Nat)), some (.int c), some (.ref s), some (.str sg), some (rkD rk), some (cas T.C_Case rk), some (.lst (us.map fun w => D.str w)), b1, b2, b3, b4]) ⟨_, _, _, _, rfl⟩ (fun _ _ _ _ => trivial) ?_ ?_
      · rintro i2 w δ μ2 k2 hw ⟨b1, b2, b3, b4, rfl⟩ next2
        obtain ⟨hl, hg⟩ := hu w (List.mem_of_getElem? hw)
        have wu := wordU_yes hg (by omega)
        have pp := plc_perm low_oh gk w
        walk_at "w"
        refine ⟨rk, w, rfl, gk, by omega, ?_⟩
        walk_at "w"
        refine ord_good gk hg hl fun p hp => ?_
        walk_at "w"
        refine ⟨.ref p, w, plc ohN rk w, rfl, rd_ref mup_same, pp, by omega, ?_⟩
        walk_at "w"
        have lp : (plc ohN rk w).length ≤ 1000 := by rw [pp.length_eq, List.length_range]; exact hl
        refine ⟨by rw [List.length_map]; omega, ?_⟩
        generalize mup μ2 p (.lst ((plc ohN rk w).map (fun i => D.int (i : Nat)) ++ [.int 0])) = μ3
        refine ord_good gk hg hl fun p3 hp3 => ?_
        walk_at "w"
        refine ⟨.ref p3, w, plc ohN rk w, rfl, rd_ref mup_same, pp, by omega, ?_⟩
        walk_at "w"
        intro p4 hp4
        refine ⟨p4, .non, [], rfl, mup_same, .inl ⟨rfl, rfl⟩, goodK0, rfl, ?_⟩
        walk_at "w"
        rw [era_mup hp4]
        refine ord_good goodK0 hg hl fun p5 hp5 => ?_
        rw [plc0 low_oh, txt_rng]
        walk_at "w"
        rw [Int.toNat_natCast, rngD0, rdT_ref mup_same, rdT_lst, eqv_self noB_pair]
        refine ⟨by omega, by omega, by omega, by decide, isP_pair hg, isP_pair hg, ?_⟩
        walk_at "w"
        exact next2 _ _ ⟨_, _, _, _, rfl⟩
      · rintro δ μ2 ⟨b1, b2, b3, b4, rfl⟩
        walk_at "w"
        refine ord_good gk (fun _ h => nomatch h) (by decide) fun p5 hp5 => ?_
        walk_at "w"
        have e5 : plc ohN rk [] = [] := List.perm_nil.mp (plc_perm low_oh gk [])
        rw [e5, rdT_ref mup_same, show (D.lst [] : D) = .lst (([] : List Nat).map fun i => D.int (i : Nat)) from rfl, rdT_lst, show txt [] [] = [] from rfl, eqv_self noB_pair]
        refine ⟨by decide, by decide, isP_pair (fun _ h => nomatch h), isP_pair (fun _ h => nomatch h), ?_⟩
        walk_at "w"
        exact next _ _ ⟨_, _, _, _, _, _, _, _, _, _, _, rfl⟩
  · rintro δ μ' ⟨a1, a2, a3, a4, a5, a6, a7, a8, a9, a10, a11, rfl⟩
    walk_at "w"
    exact q _
abbrev lvl : Nat := 21
theorem ok_law (T : Env K mg base) : FnOk P w K mg base LCX lvl T.f_y_law T.d_y_law ["_law_script"] (spLaw K T.TL) := law_of (okd_law T)

theorem all_mk {l : PySem.W.OpenLaw} (el : l.prog = prg) {q : Program} (eq : ∀ x ∈ ([] : List Str), ((recsOf q).any fun e => e.name == x) = true) {w : World} {K : PySem.W.Frag} {h : Heap} {mg : Str → Option Value} {fa : Addr} (X : K.In h) (G : h.Ns mainGlobals mg) (hfa : mg "law" = some (.ref fa)) (own : OwnTabs K mg q h)
    {C_Case f0 cd0 f1 cd1 f2 cd2 f3 cd3 f4 cd4 f5 cd5 f6 cd6 f7 cd7 dt7 f8 cd8 f9 cd9 f10 cd10 f11 cd11 f12 cd12 f13 cd13 f14 cd14 f15 cd15 f16 cd16 f17 cd17 f18 cd18 f19 cd19 f20 cd20 f21 cd21 f22 cd22 f23 cd23 f24 cd24 f25 cd25 f26 cd26 f27 cd27 f28 cd28 f29 cd29 f30 cd30 f31 cd31 f32 cd32 dt32 f33 cd33 f34 cd34 f35 cd35 f36 cd36 f37 cd37 f38 cd38 C_NoWord I_NoWord C_NoRule I_NoRule C_NoCase I_NoCase C_SeamError : Addr}
    {od0 an0 od1 an1 od2 an2 od3 an3 od4 an4 od5 an5 od6 an6 od7 an7 td7 od8 an8 od9 an9 od10 an10 od11 an11 od12 an12 od13 an13 od14 an14 od15 an15 od16 an16 od17 an17 od18 an18 od19 an19 od20 an20 od21 an21 od22 an22 od23 an23 od24 an24 od25 an25 od26 an26 od27 an27 od28 an28 od29 an29 od30 an30 od31 an31 od32 an32 td32 od33 an33 od34 an34 od35 an35 od36 an36 od37 an37 od38 an38 : Option Addr}
    {sl0 sl1 sl2 sl3 sl4 sl5 sl6 sl7 ts7 sl8 sl9 sl10 sl11 sl12 sl13 sl14 sl15 sl16 sl17 sl18 sl19 sl20 sl21 sl22 sl23 sl24 sl25 sl26 sl27 sl28 sl29 sl30 sl31 sl32 ts32 sl33 sl34 sl35 sl36 sl37 sl38 : Array (Option Value)}
    {oc0 kV0 dc0 pm0 ct0 oc1 kV1 dc1 pm1 ct1 oc2 kV2 dc2 pm2 ct2 oc3 kV3 dc3 pm3 ct3 oc4 kV4 dc4 pm4 ct4 oc5 kV5 dc5 pm5 ct5 oc6 kV6 dc6 pm6 ct6 oc7 kV7 dc7 pm7 ct7 tc7 oc8 kV8 dc8 pm8 ct8 oc9 kV9 dc9 pm9 ct9 oc10 kV10 dc10 pm10 ct10 oc11 kV11 dc11 pm11 ct11 oc12 kV12 dc12 pm12 ct12 oc13 kV13 dc13 pm13 ct13 oc14 kV14 dc14 pm14 ct14 oc15 kV15 dc15 pm15 ct15 oc16 kV16 dc16 pm16 ct16 oc17 kV17 dc17 pm17 ct17 oc18 kV18 dc18 pm18 ct18 oc19 kV19 dc19 pm19 ct19 oc20 kV20 dc20 pm20 ct20 oc21 kV21 dc21 pm21 ct21 oc22 kV22 dc22 pm22 ct22 oc23 kV23 dc23 pm23 ct23 oc24 kV24 dc24 pm24 ct24 oc25 kV25 dc25 pm25 ct25 oc26 kV26 dc26 pm26 ct26 oc27 kV27 dc27 pm27 ct27 oc28 kV28 dc28 pm28 ct28 oc29 kV29 dc29 pm29 ct29 oc30 kV30 dc30 pm30 ct30 oc31 kV31 dc31 pm31 ct31 oc32 kV32 dc32 pm32 ct32 tc32 oc33 kV33 dc33 pm33 ct33 oc34 kV34 dc34 pm34 ct34 oc35 kV35 dc35 pm35 ct35 oc36 kV36 dc36 pm36 ct36 oc37 kV37 dc37 pm37 ct37 oc38 kV38 dc38 pm38 ct38 : Value}
    {tn7 tn32 : Nat}
    {tk_SIGNS tk_MOST_LETTERS tk_HIGHEST_RANK tk_WIDEST tk_USUAL_WIDTH tk_FARTHEST : Tok}
    (v_Case : PySem.W.nsIn K mainGlobals "Case" = some (some (.ref C_Case))) (pg_Case : PySem.W.plainGet K C_Case Str.empty = true) (hd_Case : PySem.W.hasDictIn K C_Case = true) (po_Case : PySem.W.plainOver K C_Case = true) (sa_Case : PySem.W.findIn K (.ref C_Case) "__setattr__" = some (some (.builtin "object.__setattr__"))) (mk_Case : PySem.W.makesIn K C_Case = true) (kc_Case : PySem.W.keepIn K (.ref C_Case) = true)
    (na_Case_ranks : PySem.W.findIn K (.ref C_Case) "_ranks" = some none)
    (na_Case_wide : PySem.W.findIn K (.ref C_Case) "_wide" = some none)
    (na_Case_feet : PySem.W.findIn K (.ref C_Case) "_feet" = some none)
    (na_Case_seats : PySem.W.findIn K (.ref C_Case) "_seats" = some none)
    (a0 : PySem.W.nsIn K mainGlobals "is_whole" = some (some (.ref f0))) (l0 : K.lookup f0 = some ⟨oc0, od0, .func (PySem.W.fnOf "is_whole" "is_whole" (defArgs s_is_whole) (defBody s_is_whole) (defScope s_is_whole) .none kV0 dc0 pm0 an0 (.ref cd0) ct0), sl0⟩) (c0 : PySem.W.codeIn K (.ref cd0) "is_whole" = true) (k0 : PySem.W.keepIn K (.ref f0) = true)
    (a1 : PySem.W.nsIn K mainGlobals "is_within" = some (some (.ref f1))) (l1 : K.lookup f1 = some ⟨oc1, od1, .func (PySem.W.fnOf "is_within" "is_within" (defArgs s_is_within) (defBody s_is_within) (defScope s_is_within) .none kV1 dc1 pm1 an1 (.ref cd1) ct1), sl1⟩) (c1 : PySem.W.codeIn K (.ref cd1) "is_within" = true) (k1 : PySem.W.keepIn K (.ref f1) = true)
    (a2 : PySem.W.nsIn K mainGlobals "is_sign" = some (some (.ref f2))) (l2 : K.lookup f2 = some ⟨oc2, od2, .func (PySem.W.fnOf "is_sign" "is_sign" (defArgs s_is_sign) (defBody s_is_sign) (defScope s_is_sign) .none kV2 dc2 pm2 an2 (.ref cd2) ct2), sl2⟩) (c2 : PySem.W.codeIn K (.ref cd2) "is_sign" = true) (k2 : PySem.W.keepIn K (.ref f2) = true)
    (a3 : PySem.W.nsIn K mainGlobals "is_text" = some (some (.ref f3))) (l3 : K.lookup f3 = some ⟨oc3, od3, .func (PySem.W.fnOf "is_text" "is_text" (defArgs s_is_text) (defBody s_is_text) (defScope s_is_text) .none kV3 dc3 pm3 an3 (.ref cd3) ct3), sl3⟩) (c3 : PySem.W.codeIn K (.ref cd3) "is_text" = true) (k3 : PySem.W.keepIn K (.ref f3) = true)
    (a4 : PySem.W.nsIn K mainGlobals "are_signs" = some (some (.ref f4))) (l4 : K.lookup f4 = some ⟨oc4, od4, .func (PySem.W.fnOf "are_signs" "are_signs" (defArgs s_are_signs) (defBody s_are_signs) (defScope s_are_signs) .none kV4 dc4 pm4 an4 (.ref cd4) ct4), sl4⟩) (c4 : PySem.W.codeIn K (.ref cd4) "are_signs" = true) (k4 : PySem.W.keepIn K (.ref f4) = true)
    (a5 : PySem.W.nsIn K mainGlobals "are_unlike_signs" = some (some (.ref f5))) (l5 : K.lookup f5 = some ⟨oc5, od5, .func (PySem.W.fnOf "are_unlike_signs" "are_unlike_signs" (defArgs s_are_unlike_signs) (defBody s_are_unlike_signs) (defScope s_are_unlike_signs) .none kV5 dc5 pm5 an5 (.ref cd5) ct5), sl5⟩) (c5 : PySem.W.codeIn K (.ref cd5) "are_unlike_signs" = true) (k5 : PySem.W.keepIn K (.ref f5) = true)
    (a6 : PySem.W.nsIn K mainGlobals "want_letters" = some (some (.ref f6))) (l6 : K.lookup f6 = some ⟨oc6, od6, .func (PySem.W.fnOf "want_letters" "want_letters" (defArgs s_want_letters) (defBody s_want_letters) (defScope s_want_letters) .none kV6 dc6 pm6 an6 (.ref cd6) ct6), sl6⟩) (c6 : PySem.W.codeIn K (.ref cd6) "want_letters" = true) (k6 : PySem.W.keepIn K (.ref f6) = true)
    (a7 : PySem.W.nsIn K mainGlobals "want_word" = some (some (.ref f7))) (l7 : K.lookup f7 = some ⟨oc7, od7, .func (PySem.W.fnOf "want_word" "want_word" (defArgs s_want_word) (defBody s_want_word) (defScope s_want_word) (.ref dt7) kV7 dc7 pm7 an7 (.ref cd7) ct7), sl7⟩) (c7 : PySem.W.codeIn K (.ref cd7) "want_word" = true) (k7 : PySem.W.keepIn K (.ref f7) = true)
    (t7 : K.lookup dt7 = some ⟨tc7, td7, .seq #[.none] tn7, ts7⟩)
    (a8 : PySem.W.nsIn K mainGlobals "pairs_of" = some (some (.ref f8))) (l8 : K.lookup f8 = some ⟨oc8, od8, .func (PySem.W.fnOf "pairs_of" "pairs_of" (defArgs s_pairs_of) (defBody s_pairs_of) (defScope s_pairs_of) .none kV8 dc8 pm8 an8 (.ref cd8) ct8), sl8⟩) (c8 : PySem.W.codeIn K (.ref cd8) "pairs_of" = true) (k8 : PySem.W.keepIn K (.ref f8) = true)
    (a9 : PySem.W.nsIn K mainGlobals "is_point" = some (some (.ref f9))) (l9 : K.lookup f9 = some ⟨oc9, od9, .func (PySem.W.fnOf "is_point" "is_point" (defArgs s_is_point) (defBody s_is_point) (defScope s_is_point) .none kV9 dc9 pm9 an9 (.ref cd9) ct9), sl9⟩) (c9 : PySem.W.codeIn K (.ref cd9) "is_point" = true) (k9 : PySem.W.keepIn K (.ref f9) = true)
    (a10 : PySem.W.nsIn K mainGlobals "is_hung_by" = some (some (.ref f10))) (l10 : K.lookup f10 = some ⟨oc10, od10, .func (PySem.W.fnOf "is_hung_by" "is_hung_by" (defArgs s_is_hung_by) (defBody s_is_hung_by) (defScope s_is_hung_by) .none kV10 dc10 pm10 an10 (.ref cd10) ct10), sl10⟩) (c10 : PySem.W.codeIn K (.ref cd10) "is_hung_by" = true) (k10 : PySem.W.keepIn K (.ref f10) = true)
    (a11 : PySem.W.nsIn K mainGlobals "is_seat_key" = some (some (.ref f11))) (l11 : K.lookup f11 = some ⟨oc11, od11, .func (PySem.W.fnOf "is_seat_key" "is_seat_key" (defArgs s_is_seat_key) (defBody s_is_seat_key) (defScope s_is_seat_key) .none kV11 dc11 pm11 an11 (.ref cd11) ct11), sl11⟩) (c11 : PySem.W.codeIn K (.ref cd11) "is_seat_key" = true) (k11 : PySem.W.keepIn K (.ref f11) = true)
    (a12 : PySem.W.nsIn K mainGlobals "kept_ranks" = some (some (.ref f12))) (l12 : K.lookup f12 = some ⟨oc12, od12, .func (PySem.W.fnOf "kept_ranks" "kept_ranks" (defArgs s_kept_ranks) (defBody s_kept_ranks) (defScope s_kept_ranks) .none kV12 dc12 pm12 an12 (.ref cd12) ct12), sl12⟩) (c12 : PySem.W.codeIn K (.ref cd12) "kept_ranks" = true) (k12 : PySem.W.keepIn K (.ref f12) = true)
    (a13 : PySem.W.nsIn K mainGlobals "kept_wide" = some (some (.ref f13))) (l13 : K.lookup f13 = some ⟨oc13, od13, .func (PySem.W.fnOf "kept_wide" "kept_wide" (defArgs s_kept_wide) (defBody s_kept_wide) (defScope s_kept_wide) .none kV13 dc13 pm13 an13 (.ref cd13) ct13), sl13⟩) (c13 : PySem.W.codeIn K (.ref cd13) "kept_wide" = true) (k13 : PySem.W.keepIn K (.ref f13) = true)
    (a14 : PySem.W.nsIn K mainGlobals "kept_feet" = some (some (.ref f14))) (l14 : K.lookup f14 = some ⟨oc14, od14, .func (PySem.W.fnOf "kept_feet" "kept_feet" (defArgs s_kept_feet) (defBody s_kept_feet) (defScope s_kept_feet) .none kV14 dc14 pm14 an14 (.ref cd14) ct14), sl14⟩) (c14 : PySem.W.codeIn K (.ref cd14) "kept_feet" = true) (k14 : PySem.W.keepIn K (.ref f14) = true)
    (a15 : PySem.W.nsIn K mainGlobals "kept_seats" = some (some (.ref f15))) (l15 : K.lookup f15 = some ⟨oc15, od15, .func (PySem.W.fnOf "kept_seats" "kept_seats" (defArgs s_kept_seats) (defBody s_kept_seats) (defScope s_kept_seats) .none kV15 dc15 pm15 an15 (.ref cd15) ct15), sl15⟩) (c15 : PySem.W.codeIn K (.ref cd15) "kept_seats" = true) (k15 : PySem.W.keepIn K (.ref f15) = true)
    (a16 : PySem.W.nsIn K mainGlobals "clusters" = some (some (.ref f16))) (l16 : K.lookup f16 = some ⟨oc16, od16, .func (PySem.W.fnOf "clusters" "clusters" (defArgs s_clusters) (defBody s_clusters) (defScope s_clusters) .none kV16 dc16 pm16 an16 (.ref cd16) ct16), sl16⟩) (c16 : PySem.W.codeIn K (.ref cd16) "clusters" = true) (k16 : PySem.W.keepIn K (.ref f16) = true)
    (a17 : PySem.W.nsIn K mainGlobals "ordered_height" = some (some (.ref f17))) (l17 : K.lookup f17 = some ⟨oc17, od17, .func (PySem.W.fnOf "ordered_height" "ordered_height" (defArgs s_ordered_height) (defBody s_ordered_height) (defScope s_ordered_height) .none kV17 dc17 pm17 an17 (.ref cd17) ct17), sl17⟩) (c17 : PySem.W.codeIn K (.ref cd17) "ordered_height" = true) (k17 : PySem.W.keepIn K (.ref f17) = true)
    (a18 : PySem.W.nsIn K mainGlobals "places_by" = some (some (.ref f18))) (l18 : K.lookup f18 = some ⟨oc18, od18, .func (PySem.W.fnOf "places_by" "places_by" (defArgs s_places_by) (defBody s_places_by) (defScope s_places_by) .none kV18 dc18 pm18 an18 (.ref cd18) ct18), sl18⟩) (c18 : PySem.W.codeIn K (.ref cd18) "places_by" = true) (k18 : PySem.W.keepIn K (.ref f18) = true)
    (a19 : PySem.W.nsIn K mainGlobals "text_at" = some (some (.ref f19))) (l19 : K.lookup f19 = some ⟨oc19, od19, .func (PySem.W.fnOf "text_at" "text_at" (defArgs s_text_at) (defBody s_text_at) (defScope s_text_at) .none kV19 dc19 pm19 an19 (.ref cd19) ct19), sl19⟩) (c19 : PySem.W.codeIn K (.ref cd19) "text_at" = true) (k19 : PySem.W.keepIn K (.ref f19) = true)
    (a20 : PySem.W.nsIn K mainGlobals "ordered" = some (some (.ref f20))) (l20 : K.lookup f20 = some ⟨oc20, od20, .func (PySem.W.fnOf "ordered" "ordered" (defArgs s_ordered) (defBody s_ordered) (defScope s_ordered) .none kV20 dc20 pm20 an20 (.ref cd20) ct20), sl20⟩) (c20 : PySem.W.codeIn K (.ref cd20) "ordered" = true) (k20 : PySem.W.keepIn K (.ref f20) = true)
    (a21 : PySem.W.nsIn K mainGlobals "_law_mixed" = some (some (.ref f21))) (l21 : K.lookup f21 = some ⟨oc21, od21, .func (PySem.W.fnOf "_law_mixed" "_law_mixed" (defArgs s_y_mixed) (defBody s_y_mixed) (defScope s_y_mixed) .none kV21 dc21 pm21 an21 (.ref cd21) ct21), sl21⟩) (c21 : PySem.W.codeIn K (.ref cd21) "_law_mixed" = true) (k21 : PySem.W.keepIn K (.ref f21) = true)
    (a22 : PySem.W.nsIn K mainGlobals "_law_well" = some (some (.ref f22))) (l22 : K.lookup f22 = some ⟨oc22, od22, .func (PySem.W.fnOf "_law_well" "_law_well" (defArgs s_y_well) (defBody s_y_well) (defScope s_y_well) .none kV22 dc22 pm22 an22 (.ref cd22) ct22), sl22⟩) (c22 : PySem.W.codeIn K (.ref cd22) "_law_well" = true) (k22 : PySem.W.keepIn K (.ref f22) = true)
    (a23 : PySem.W.nsIn K mainGlobals "_law_draw" = some (some (.ref f23))) (l23 : K.lookup f23 = some ⟨oc23, od23, .func (PySem.W.fnOf "_law_draw" "_law_draw" (defArgs s_y_draw) (defBody s_y_draw) (defScope s_y_draw) .none kV23 dc23 pm23 an23 (.ref cd23) ct23), sl23⟩) (c23 : PySem.W.codeIn K (.ref cd23) "_law_draw" = true) (k23 : PySem.W.keepIn K (.ref f23) = true)
    (a24 : PySem.W.nsIn K mainGlobals "_law_unlike" = some (some (.ref f24))) (l24 : K.lookup f24 = some ⟨oc24, od24, .func (PySem.W.fnOf "_law_unlike" "_law_unlike" (defArgs s_y_unlike) (defBody s_y_unlike) (defScope s_y_unlike) .none kV24 dc24 pm24 an24 (.ref cd24) ct24), sl24⟩) (c24 : PySem.W.codeIn K (.ref cd24) "_law_unlike" = true) (k24 : PySem.W.keepIn K (.ref f24) = true)
    (a25 : PySem.W.nsIn K mainGlobals "_law_ranks" = some (some (.ref f25))) (l25 : K.lookup f25 = some ⟨oc25, od25, .func (PySem.W.fnOf "_law_ranks" "_law_ranks" (defArgs s_y_ranks) (defBody s_y_ranks) (defScope s_y_ranks) .none kV25 dc25 pm25 an25 (.ref cd25) ct25), sl25⟩) (c25 : PySem.W.codeIn K (.ref cd25) "_law_ranks" = true) (k25 : PySem.W.keepIn K (.ref f25) = true)
    (a26 : PySem.W.nsIn K mainGlobals "_law_word" = some (some (.ref f26))) (l26 : K.lookup f26 = some ⟨oc26, od26, .func (PySem.W.fnOf "_law_word" "_law_word" (defArgs s_y_word) (defBody s_y_word) (defScope s_y_word) .none kV26 dc26 pm26 an26 (.ref cd26) ct26), sl26⟩) (c26 : PySem.W.codeIn K (.ref cd26) "_law_word" = true) (k26 : PySem.W.keepIn K (.ref f26) = true)
    (a27 : PySem.W.nsIn K mainGlobals "_law_clusters" = some (some (.ref f27))) (l27 : K.lookup f27 = some ⟨oc27, od27, .func (PySem.W.fnOf "_law_clusters" "_law_clusters" (defArgs s_y_clusters) (defBody s_y_clusters) (defScope s_y_clusters) .none kV27 dc27 pm27 an27 (.ref cd27) ct27), sl27⟩) (c27 : PySem.W.codeIn K (.ref cd27) "_law_clusters" = true) (k27 : PySem.W.keepIn K (.ref f27) = true)
    (a28 : PySem.W.nsIn K mainGlobals "_law_shown_places" = some (some (.ref f28))) (l28 : K.lookup f28 = some ⟨oc28, od28, .func (PySem.W.fnOf "_law_shown_places" "_law_shown_places" (defArgs s_y_shown_places) (defBody s_y_shown_places) (defScope s_y_shown_places) .none kV28 dc28 pm28 an28 (.ref cd28) ct28), sl28⟩) (c28 : PySem.W.codeIn K (.ref cd28) "_law_shown_places" = true) (k28 : PySem.W.keepIn K (.ref f28) = true)
    (a29 : PySem.W.nsIn K mainGlobals "_law_whole" = some (some (.ref f29))) (l29 : K.lookup f29 = some ⟨oc29, od29, .func (PySem.W.fnOf "_law_whole" "_law_whole" (defArgs s_y_whole) (defBody s_y_whole) (defScope s_y_whole) .none kV29 dc29 pm29 an29 (.ref cd29) ct29), sl29⟩) (c29 : PySem.W.codeIn K (.ref cd29) "_law_whole" = true) (k29 : PySem.W.keepIn K (.ref f29) = true)
    (a30 : PySem.W.nsIn K mainGlobals "_law_long" = some (some (.ref f30))) (l30 : K.lookup f30 = some ⟨oc30, od30, .func (PySem.W.fnOf "_law_long" "_law_long" (defArgs s_y_long) (defBody s_y_long) (defScope s_y_long) .none kV30 dc30 pm30 an30 (.ref cd30) ct30), sl30⟩) (c30 : PySem.W.codeIn K (.ref cd30) "_law_long" = true) (k30 : PySem.W.keepIn K (.ref f30) = true)
    (a31 : PySem.W.nsIn K mainGlobals "_law_right" = some (some (.ref f31))) (l31 : K.lookup f31 = some ⟨oc31, od31, .func (PySem.W.fnOf "_law_right" "_law_right" (defArgs s_y_right) (defBody s_y_right) (defScope s_y_right) .none kV31 dc31 pm31 an31 (.ref cd31) ct31), sl31⟩) (c31 : PySem.W.codeIn K (.ref cd31) "_law_right" = true) (k31 : PySem.W.keepIn K (.ref f31) = true)
    (a32 : PySem.W.findIn K (.ref C_Case) "__init__" = some (some (.ref f32))) (i32 : PySem.W.isFn K (.ref f32) = true) (l32 : K.lookup f32 = some ⟨oc32, od32, .func (PySem.W.fnOf "__init__" "Case.__init__" (defArgs s_Case_init) (defBody s_Case_init) (defScope s_Case_init) (.ref dt32) kV32 dc32 pm32 an32 (.ref cd32) ct32), sl32⟩) (c32 : PySem.W.codeIn K (.ref cd32) "Case.__init__" = true) (k32 : PySem.W.keepIn K (.ref f32) = true)
    (t32 : K.lookup dt32 = some ⟨tc32, td32, .seq #[.none, .none, .none, .none] tn32, ts32⟩)
    (a33 : PySem.W.findIn K (.ref C_Case) "rank_of" = some (some (.ref f33))) (i33 : PySem.W.isFn K (.ref f33) = true) (l33 : K.lookup f33 = some ⟨oc33, od33, .func (PySem.W.fnOf "rank_of" "Case.rank_of" (defArgs s_Case_rank_of) (defBody s_Case_rank_of) (defScope s_Case_rank_of) .none kV33 dc33 pm33 an33 (.ref cd33) ct33), sl33⟩) (c33 : PySem.W.codeIn K (.ref cd33) "Case.rank_of" = true) (k33 : PySem.W.keepIn K (.ref f33) = true)
    (a34 : PySem.W.findIn K (.ref C_Case) "is_base" = some (some (.ref f34))) (i34 : PySem.W.isFn K (.ref f34) = true) (l34 : K.lookup f34 = some ⟨oc34, od34, .func (PySem.W.fnOf "is_base" "Case.is_base" (defArgs s_Case_is_base) (defBody s_Case_is_base) (defScope s_Case_is_base) .none kV34 dc34 pm34 an34 (.ref cd34) ct34), sl34⟩) (c34 : PySem.W.codeIn K (.ref cd34) "Case.is_base" = true) (k34 : PySem.W.keepIn K (.ref f34) = true)
    (a35 : PySem.W.findIn K (.ref C_Case) "__len__" = some (some (.ref f35))) (i35 : PySem.W.isFn K (.ref f35) = true) (l35 : K.lookup f35 = some ⟨oc35, od35, .func (PySem.W.fnOf "__len__" "Case.__len__" (defArgs s_Case_len) (defBody s_Case_len) (defScope s_Case_len) .none kV35 dc35 pm35 an35 (.ref cd35) ct35), sl35⟩) (c35 : PySem.W.codeIn K (.ref cd35) "Case.__len__" = true) (k35 : PySem.W.keepIn K (.ref f35) = true)
    (a36 : PySem.W.findIn K (.ref C_Case) "__eq__" = some (some (.ref f36))) (i36 : PySem.W.isFn K (.ref f36) = true) (l36 : K.lookup f36 = some ⟨oc36, od36, .func (PySem.W.fnOf "__eq__" "Case.__eq__" (defArgs s_Case_eq) (defBody s_Case_eq) (defScope s_Case_eq) .none kV36 dc36 pm36 an36 (.ref cd36) ct36), sl36⟩) (c36 : PySem.W.codeIn K (.ref cd36) "Case.__eq__" = true) (k36 : PySem.W.keepIn K (.ref f36) = true)
    (a37 : PySem.W.findIn K (.ref C_Case) "__str__" = some (some (.ref f37))) (i37 : PySem.W.isFn K (.ref f37) = true) (l37 : K.lookup f37 = some ⟨oc37, od37, .func (PySem.W.fnOf "__str__" "Case.__str__" (defArgs s_Case_str) (defBody s_Case_str) (defScope s_Case_str) .none kV37 dc37 pm37 an37 (.ref cd37) ct37), sl37⟩) (c37 : PySem.W.codeIn K (.ref cd37) "Case.__str__" = true) (k37 : PySem.W.keepIn K (.ref f37) = true)
    (a38 : PySem.W.nsIn K mainGlobals "law" = some (some (.ref f38))) (l38 : K.lookup f38 = some ⟨oc38, od38, .func (PySem.W.fnOf "law" "law" (defArgs s_y_law) (defBody s_y_law) (defScope s_y_law) .none kV38 dc38 pm38 an38 (.ref cd38) ct38), sl38⟩) (c38 : PySem.W.codeIn K (.ref cd38) "law" = true) (k38 : PySem.W.keepIn K (.ref f38) = true)
    (v_SIGNS : PySem.W.nsIn K mainGlobals "SIGNS" = some (some (.str "ABCDEFGHIJKLMNOPQRSTUVWXYZabcdefghijklmnopqrstuvwxyz" tk_SIGNS)))
    (v_MOST_LETTERS : PySem.W.nsIn K mainGlobals "MOST_LETTERS" = some (some (.int 16 tk_MOST_LETTERS)))
    (v_HIGHEST_RANK : PySem.W.nsIn K mainGlobals "HIGHEST_RANK" = some (some (.int 9 tk_HIGHEST_RANK)))
    (v_WIDEST : PySem.W.nsIn K mainGlobals "WIDEST" = some (some (.int 1000 tk_WIDEST)))
    (v_USUAL_WIDTH : PySem.W.nsIn K mainGlobals "USUAL_WIDTH" = some (some (.int 500 tk_USUAL_WIDTH)))
    (v_FARTHEST : PySem.W.nsIn K mainGlobals "FARTHEST" = some (some (.int 1000 tk_FARTHEST)))
    (oc_Case : OwnC K C_Case)
    (x_NoWord : PySem.Sx.Txt prg K mg "NoWord" "at" C_NoWord I_NoWord)
    (x_NoRule : PySem.Sx.Txt prg K mg "NoRule" "what" C_NoRule I_NoRule)
    (x_NoCase : PySem.Sx.Txt prg K mg "NoCase" "what" C_NoCase I_NoCase)
    (v_SeamError : PySem.W.nsIn K mainGlobals "SeamError" = some (some (.ref C_SeamError)))
    (m_NoWord_SeamError : PySem.W.exmOne K (.ref C_NoWord) (.ref C_SeamError) = some true)
    (m_NoWord_NoRule : PySem.W.exmOne K (.ref C_NoWord) (.ref C_NoRule) = some false)
    (m_NoWord_NoCase : PySem.W.exmOne K (.ref C_NoWord) (.ref C_NoCase) = some false)
    (m_NoRule_SeamError : PySem.W.exmOne K (.ref C_NoRule) (.ref C_SeamError) = some true)
    (m_NoRule_NoWord : PySem.W.exmOne K (.ref C_NoRule) (.ref C_NoWord) = some false)
    (m_NoRule_NoCase : PySem.W.exmOne K (.ref C_NoRule) (.ref C_NoCase) = some false)
    (m_NoCase_SeamError : PySem.W.exmOne K (.ref C_NoCase) (.ref C_SeamError) = some true)
    (m_NoCase_NoWord : PySem.W.exmOne K (.ref C_NoCase) (.ref C_NoWord) = some false)
    (m_NoCase_NoRule : PySem.W.exmOne K (.ref C_NoCase) (.ref C_NoRule) = some false)
    (z_ValueError : PySem.W.nsIn K mainGlobals "ValueError" = some none)
    (z_all : PySem.W.nsIn K mainGlobals "all" = some none)
    (z_bool : PySem.W.nsIn K mainGlobals "bool" = some none)
    (z_dict : PySem.W.nsIn K mainGlobals "dict" = some none)
    (z_enumerate : PySem.W.nsIn K mainGlobals "enumerate" = some none)
    (z_int : PySem.W.nsIn K mainGlobals "int" = some none)
    (z_isinstance : PySem.W.nsIn K mainGlobals "isinstance" = some none)
    (z_len : PySem.W.nsIn K mainGlobals "len" = some none)
    (z_list : PySem.W.nsIn K mainGlobals "list" = some none)
    (z_range : PySem.W.nsIn K mainGlobals "range" = some none)
    (z_set : PySem.W.nsIn K mainGlobals "set" = some none)
    (z_sorted : PySem.W.nsIn K mainGlobals "sorted" = some none)
    (z_str : PySem.W.nsIn K mainGlobals "str" = some none)
    (z_tuple : PySem.W.nsIn K mainGlobals "tuple" = some none)
    (z_zip : PySem.W.nsIn K mainGlobals "zip" = some none) :
    LawAtS l w K LCX lvl 63 "_law_script" mg fa h := by
  have e := hfa.symm.trans (PySem.W.mg_of X G a38)
  cases e
  refine ⟨PySem.W.fnOf "law" "law" (defArgs s_y_law) (defBody s_y_law) (defScope s_y_law) .none kV38 dc38 pm38 an38 (.ref cd38) ct38, [], spLaw K [], (fun p hp => by cases hp),
    (fun p hp => by cases hp),
    (fun p hp => by cases hp),
    fun s v => .of_eq rfl, fun H a ns hl _ hH hS => ⟨a, ns, rfl, hS, hl, (fun p hp => by cases hp), fun _ => rfl⟩, fun base _ _ hT => ?_⟩
  rw [el]
  exact ok_law (T := {
    C_Case := _
    g_Case := PySem.W.mg_of X G v_Case
    cl_Case := ⟨pg_Case, hd_Case, po_Case, sa_Case⟩
    na_Case_ranks := na_Case_ranks
    na_Case_wide := na_Case_wide
    na_Case_feet := na_Case_feet
    na_Case_seats := na_Case_seats
    f_is_whole := _
    d_is_whole := _
    c_is_whole := _
    F_is_whole := (func_mk (st := s_is_whole) l0 c0 k0 (.inl ⟨rfl, rfl⟩))
    g_is_whole := PySem.W.mg_of X G a0
    b_is_whole := (func_mk (st := s_is_whole) l0 c0 k0 (.inl ⟨rfl, rfl⟩)).binds (ps := ["thing"]) fun _ _ _ _ _ us hl => match us, hl with | [_], _ => rfl
    f_is_within := _
    d_is_within := _
    c_is_within := _
    F_is_within := (func_mk (st := s_is_within) l1 c1 k1 (.inl ⟨rfl, rfl⟩))
    g_is_within := PySem.W.mg_of X G a1
    b_is_within := (func_mk (st := s_is_within) l1 c1 k1 (.inl ⟨rfl, rfl⟩)).binds (ps := ["thing", "least", "most"]) fun _ _ _ _ _ us hl => match us, hl with | [_, _, _], _ => rfl
    f_is_sign := _
    d_is_sign := _
    c_is_sign := _
    F_is_sign := (func_mk (st := s_is_sign) l2 c2 k2 (.inl ⟨rfl, rfl⟩))
    g_is_sign := PySem.W.mg_of X G a2
    b_is_sign := (func_mk (st := s_is_sign) l2 c2 k2 (.inl ⟨rfl, rfl⟩)).binds (ps := ["thing"]) fun _ _ _ _ _ us hl => match us, hl with | [_], _ => rfl
    f_is_text := _
    d_is_text := _
    c_is_text := _
    F_is_text := (func_mk (st := s_is_text) l3 c3 k3 (.inl ⟨rfl, rfl⟩))
    g_is_text := PySem.W.mg_of X G a3
    b_is_text := (func_mk (st := s_is_text) l3 c3 k3 (.inl ⟨rfl, rfl⟩)).binds (ps := ["thing"]) fun _ _ _ _ _ us hl => match us, hl with | [_], _ => rfl
    f_are_signs := _
    d_are_signs := _
    c_are_signs := _
    F_are_signs := (func_mk (st := s_are_signs) l4 c4 k4 (.inl ⟨rfl, rfl⟩))
    g_are_signs := PySem.W.mg_of X G a4
    b_are_signs := (func_mk (st := s_are_signs) l4 c4 k4 (.inl ⟨rfl, rfl⟩)).binds (ps := ["thing", "least", "most"]) fun _ _ _ _ _ us hl => match us, hl with | [_, _, _], _ => rfl
    f_are_unlike_signs := _
    d_are_unlike_signs := _
    c_are_unlike_signs := _
    F_are_unlike_signs := (func_mk (st := s_are_unlike_signs) l5 c5 k5 (.inl ⟨rfl, rfl⟩))
    g_are_unlike_signs := PySem.W.mg_of X G a5
    b_are_unlike_signs := (func_mk (st := s_are_unlike_signs) l5 c5 k5 (.inl ⟨rfl, rfl⟩)).binds (ps := ["thing", "most"]) fun _ _ _ _ _ us hl => match us, hl with | [_, _], _ => rfl
    f_want_letters := _
    d_want_letters := _
    c_want_letters := _
    F_want_letters := (func_mk (st := s_want_letters) l6 c6 k6 (.inl ⟨rfl, rfl⟩))
    g_want_letters := PySem.W.mg_of X G a6
    b_want_letters := (func_mk (st := s_want_letters) l6 c6 k6 (.inl ⟨rfl, rfl⟩)).binds (ps := ["letters"]) fun _ _ _ _ _ us hl => match us, hl with | [_], _ => rfl
    f_want_word := _
    d_want_word := _
    c_want_word := _
    F_want_word := (func_mk (st := s_want_word) l7 c7 k7 (dfl_one (v := .non) t7 rfl))
    g_want_word := PySem.W.mg_of X G a7
    b1_want_word := (func_mk (st := s_want_word) l7 c7 k7 (dfl_one (v := .non) t7 rfl)).toD.binds1 (ps := ["word", "letters"]) 1 0 (by simp) rfl fun _ _ _ _ _ _ _ us its h1 h2 => match us, h1, its, h2 with | [_], _, [_], _ => ⟨_, rfl, rfl⟩
    b2_want_word := (func_mk (st := s_want_word) l7 c7 k7 (dfl_one (v := .non) t7 rfl)).toD.binds1 (ps := ["word", "letters"]) 2 1 (by simp) rfl fun _ _ _ _ _ _ _ us its h1 h2 => match us, h1, its, h2 with | [_, _], _, [_], _ => ⟨_, rfl, rfl⟩
    f_pairs_of := _
    d_pairs_of := _
    c_pairs_of := _
    F_pairs_of := (func_mk (st := s_pairs_of) l8 c8 k8 (.inl ⟨rfl, rfl⟩))
    g_pairs_of := PySem.W.mg_of X G a8
    b_pairs_of := (func_mk (st := s_pairs_of) l8 c8 k8 (.inl ⟨rfl, rfl⟩)).binds (ps := ["table", "what"]) fun _ _ _ _ _ us hl => match us, hl with | [_, _], _ => rfl
    f_is_point := _
    d_is_point := _
    c_is_point := _
    F_is_point := (func_mk (st := s_is_point) l9 c9 k9 (.inl ⟨rfl, rfl⟩))
    g_is_point := PySem.W.mg_of X G a9
    b_is_point := (func_mk (st := s_is_point) l9 c9 k9 (.inl ⟨rfl, rfl⟩)).binds (ps := ["thing"]) fun _ _ _ _ _ us hl => match us, hl with | [_], _ => rfl
    f_is_hung_by := _
    d_is_hung_by := _
    c_is_hung_by := _
    F_is_hung_by := (func_mk (st := s_is_hung_by) l10 c10 k10 (.inl ⟨rfl, rfl⟩))
    g_is_hung_by := PySem.W.mg_of X G a10
    b_is_hung_by := (func_mk (st := s_is_hung_by) l10 c10 k10 (.inl ⟨rfl, rfl⟩)).binds (ps := ["sign", "ranks"]) fun _ _ _ _ _ us hl => match us, hl with | [_, _], _ => rfl
    f_is_seat_key := _
    d_is_seat_key := _
    c_is_seat_key := _
    F_is_seat_key := (func_mk (st := s_is_seat_key) l11 c11 k11 (.inl ⟨rfl, rfl⟩))
    g_is_seat_key := PySem.W.mg_of X G a11
    b_is_seat_key := (func_mk (st := s_is_seat_key) l11 c11 k11 (.inl ⟨rfl, rfl⟩)).binds (ps := ["thing"]) fun _ _ _ _ _ us hl => match us, hl with | [_], _ => rfl
    f_kept_ranks := _
    d_kept_ranks := _
    c_kept_ranks := _
    F_kept_ranks := (func_mk (st := s_kept_ranks) l12 c12 k12 (.inl ⟨rfl, rfl⟩))
    g_kept_ranks := PySem.W.mg_of X G a12
    b_kept_ranks := (func_mk (st := s_kept_ranks) l12 c12 k12 (.inl ⟨rfl, rfl⟩)).binds (ps := ["ranks"]) fun _ _ _ _ _ us hl => match us, hl with | [_], _ => rfl
    f_kept_wide := _
    d_kept_wide := _
    c_kept_wide := _
    F_kept_wide := (func_mk (st := s_kept_wide) l13 c13 k13 (.inl ⟨rfl, rfl⟩))
    g_kept_wide := PySem.W.mg_of X G a13
    b_kept_wide := (func_mk (st := s_kept_wide) l13 c13 k13 (.inl ⟨rfl, rfl⟩)).binds (ps := ["wide", "ranks"]) fun _ _ _ _ _ us hl => match us, hl with | [_, _], _ => rfl
    f_kept_feet := _
    d_kept_feet := _
    c_kept_feet := _
    F_kept_feet := (func_mk (st := s_kept_feet) l14 c14 k14 (.inl ⟨rfl, rfl⟩))
    g_kept_feet := PySem.W.mg_of X G a14
    b_kept_feet := (func_mk (st := s_kept_feet) l14 c14 k14 (.inl ⟨rfl, rfl⟩)).binds (ps := ["feet", "ranks"]) fun _ _ _ _ _ us hl => match us, hl with | [_, _], _ => rfl
    f_kept_seats := _
    d_kept_seats := _
    c_kept_seats := _
    F_kept_seats := (func_mk (st := s_kept_seats) l15 c15 k15 (.inl ⟨rfl, rfl⟩))
    g_kept_seats := PySem.W.mg_of X G a15
    b_kept_seats := (func_mk (st := s_kept_seats) l15 c15 k15 (.inl ⟨rfl, rfl⟩)).binds (ps := ["seats"]) fun _ _ _ _ _ us hl => match us, hl with | [_], _ => rfl
    f_clusters := _
    d_clusters := _
    c_clusters := _
    F_clusters := (func_mk (st := s_clusters) l16 c16 k16 (.inl ⟨rfl, rfl⟩))
    g_clusters := PySem.W.mg_of X G a16
    b_clusters := (func_mk (st := s_clusters) l16 c16 k16 (.inl ⟨rfl, rfl⟩)).binds (ps := ["case", "word"]) fun _ _ _ _ _ us hl => match us, hl with | [_, _], _ => rfl
    f_ordered_height := _
    d_ordered_height := _
    c_ordered_height := _
    F_ordered_height := (func_mk (st := s_ordered_height) l17 c17 k17 (.inl ⟨rfl, rfl⟩))
    g_ordered_height := PySem.W.mg_of X G a17
    b_ordered_height := (func_mk (st := s_ordered_height) l17 c17 k17 (.inl ⟨rfl, rfl⟩)).binds (ps := ["case", "sign"]) fun _ _ _ _ _ us hl => match us, hl with | [_, _], _ => rfl
    f_places_by := _
    d_places_by := _
    c_places_by := _
    F_places_by := (func_mk (st := s_places_by) l18 c18 k18 (.inl ⟨rfl, rfl⟩))
    g_places_by := PySem.W.mg_of X G a18
    b_places_by := (func_mk (st := s_places_by) l18 c18 k18 (.inl ⟨rfl, rfl⟩)).binds (ps := ["case", "word", "height"]) fun _ _ _ _ _ us hl => match us, hl with | [_, _, _], _ => rfl
    f_text_at := _
    d_text_at := _
    c_text_at := _
    F_text_at := (func_mk (st := s_text_at) l19 c19 k19 (.inl ⟨rfl, rfl⟩))
    g_text_at := PySem.W.mg_of X G a19
    b_text_at := (func_mk (st := s_text_at) l19 c19 k19 (.inl ⟨rfl, rfl⟩)).binds (ps := ["word", "places"]) fun _ _ _ _ _ us hl => match us, hl with | [_, _], _ => rfl
    f_ordered := _
    d_ordered := _
    c_ordered := _
    F_ordered := (func_mk (st := s_ordered) l20 c20 k20 (.inl ⟨rfl, rfl⟩))
    g_ordered := PySem.W.mg_of X G a20
    b_ordered := (func_mk (st := s_ordered) l20 c20 k20 (.inl ⟨rfl, rfl⟩)).binds (ps := ["case", "word"]) fun _ _ _ _ _ us hl => match us, hl with | [_, _], _ => rfl
    kw_ordered_0_word_case := kbN (ps := ["case", "word"]) (func_mk (st := s_ordered) l20 c20 k20 (.inl ⟨rfl, rfl⟩)).toD 0 ["word", "case"] [1, 0] fun _ _ _ _ _ _ us ws h1 h2 => match us, h1, ws, h2 with | [], _, [_, _], _ => rfl
    f_y_mixed := _
    d_y_mixed := _
    c_y_mixed := _
    F_y_mixed := (func_mk (st := s_y_mixed) l21 c21 k21 (.inl ⟨rfl, rfl⟩))
    g_y_mixed := PySem.W.mg_of X G a21
    b_y_mixed := (func_mk (st := s_y_mixed) l21 c21 k21 (.inl ⟨rfl, rfl⟩)).binds (ps := ["_law_cell", "_law_k"]) fun _ _ _ _ _ us hl => match us, hl with | [_, _], _ => rfl
    f_y_well := _
    d_y_well := _
    c_y_well := _
    F_y_well := (func_mk (st := s_y_well) l22 c22 k22 (.inl ⟨rfl, rfl⟩))
    g_y_well := PySem.W.mg_of X G a22
    b_y_well := (func_mk (st := s_y_well) l22 c22 k22 (.inl ⟨rfl, rfl⟩)).binds (ps := ["_law_cell"]) fun _ _ _ _ _ us hl => match us, hl with | [_], _ => rfl
    f_y_draw := _
    d_y_draw := _
    c_y_draw := _
    F_y_draw := (func_mk (st := s_y_draw) l23 c23 k23 (.inl ⟨rfl, rfl⟩))
    g_y_draw := PySem.W.mg_of X G a23
    b_y_draw := (func_mk (st := s_y_draw) l23 c23 k23 (.inl ⟨rfl, rfl⟩)).binds (ps := ["_law_well_here", "_law_many"]) fun _ _ _ _ _ us hl => match us, hl with | [_, _], _ => rfl
    f_y_unlike := _
    d_y_unlike := _
    c_y_unlike := _
    F_y_unlike := (func_mk (st := s_y_unlike) l24 c24 k24 (.inl ⟨rfl, rfl⟩))
    g_y_unlike := PySem.W.mg_of X G a24
    b_y_unlike := (func_mk (st := s_y_unlike) l24 c24 k24 (.inl ⟨rfl, rfl⟩)).binds (ps := ["_law_well_here", "_law_many"]) fun _ _ _ _ _ us hl => match us, hl with | [_, _], _ => rfl
    f_y_ranks := _
    d_y_ranks := _
    c_y_ranks := _
    F_y_ranks := (func_mk (st := s_y_ranks) l25 c25 k25 (.inl ⟨rfl, rfl⟩))
    g_y_ranks := PySem.W.mg_of X G a25
    b_y_ranks := (func_mk (st := s_y_ranks) l25 c25 k25 (.inl ⟨rfl, rfl⟩)).binds (ps := ["_law_well_here", "_law_signs"]) fun _ _ _ _ _ us hl => match us, hl with | [_, _], _ => rfl
    f_y_word := _
    d_y_word := _
    c_y_word := _
    F_y_word := (func_mk (st := s_y_word) l26 c26 k26 (.inl ⟨rfl, rfl⟩))
    g_y_word := PySem.W.mg_of X G a26
    b_y_word := (func_mk (st := s_y_word) l26 c26 k26 (.inl ⟨rfl, rfl⟩)).binds (ps := ["_law_well_here", "_law_signs", "_law_most"]) fun _ _ _ _ _ us hl => match us, hl with | [_, _, _], _ => rfl
    f_y_clusters := _
    d_y_clusters := _
    c_y_clusters := _
    F_y_clusters := (func_mk (st := s_y_clusters) l27 c27 k27 (.inl ⟨rfl, rfl⟩))
    g_y_clusters := PySem.W.mg_of X G a27
    b_y_clusters := (func_mk (st := s_y_clusters) l27 c27 k27 (.inl ⟨rfl, rfl⟩)).binds (ps := ["_law_marks", "_law_typed"]) fun _ _ _ _ _ us hl => match us, hl with | [_, _], _ => rfl
    f_y_shown_places := _
    d_y_shown_places := _
    c_y_shown_places := _
    F_y_shown_places := (func_mk (st := s_y_shown_places) l28 c28 k28 (.inl ⟨rfl, rfl⟩))
    g_y_shown_places := PySem.W.mg_of X G a28
    b_y_shown_places := (func_mk (st := s_y_shown_places) l28 c28 k28 (.inl ⟨rfl, rfl⟩)).binds (ps := ["_law_marks", "_law_typed"]) fun _ _ _ _ _ us hl => match us, hl with | [_, _], _ => rfl
    f_y_whole := _
    d_y_whole := _
    c_y_whole := _
    F_y_whole := (func_mk (st := s_y_whole) l29 c29 k29 (.inl ⟨rfl, rfl⟩))
    g_y_whole := PySem.W.mg_of X G a29
    b_y_whole := (func_mk (st := s_y_whole) l29 c29 k29 (.inl ⟨rfl, rfl⟩)).binds (ps := ["_law_found"]) fun _ _ _ _ _ us hl => match us, hl with | [_], _ => rfl
    f_y_long := _
    d_y_long := _
    c_y_long := _
    F_y_long := (func_mk (st := s_y_long) l30 c30 k30 (.inl ⟨rfl, rfl⟩))
    g_y_long := PySem.W.mg_of X G a30
    b_y_long := (func_mk (st := s_y_long) l30 c30 k30 (.inl ⟨rfl, rfl⟩)).binds (ps := ["_law_well_here", "_law_signs"]) fun _ _ _ _ _ us hl => match us, hl with | [_, _], _ => rfl
    f_y_right := _
    d_y_right := _
    c_y_right := _
    F_y_right := (func_mk (st := s_y_right) l31 c31 k31 (.inl ⟨rfl, rfl⟩))
    g_y_right := PySem.W.mg_of X G a31
    b_y_right := (func_mk (st := s_y_right) l31 c31 k31 (.inl ⟨rfl, rfl⟩)).binds (ps := ["_law_found", "_law_typed", "_law_due"]) fun _ _ _ _ _ us hl => match us, hl with | [_, _, _], _ => rfl
    f_Case_init := _
    d_Case_init := _
    c_Case_init := _
    F_Case_init := (func_mk (st := s_Case_init) l32 c32 k32 (Ms.dfl_four (v1 := .non) (v2 := .non) (v3 := .non) (v4 := .non) t32 rfl rfl rfl rfl))
    M_Case := ⟨mk_Case, a32, i32, kc_Case⟩
    b1_Case_init := (func_mk (st := s_Case_init) l32 c32 k32 (Ms.dfl_four (v1 := .non) (v2 := .non) (v3 := .non) (v4 := .non) t32 rfl rfl rfl rfl)).toD.binds1 (ps := ["self", "ranks", "wide", "feet", "seats"]) 1 0 (by simp) rfl fun _ _ _ _ _ _ _ us its h1 h2 => match us, h1, its, h2 with | [_], _, [_, _, _, _], _ => ⟨_, rfl, rfl⟩
    b2_Case_init := (func_mk (st := s_Case_init) l32 c32 k32 (Ms.dfl_four (v1 := .non) (v2 := .non) (v3 := .non) (v4 := .non) t32 rfl rfl rfl rfl)).toD.binds1 (ps := ["self", "ranks", "wide", "feet", "seats"]) 2 1 (by simp) rfl fun _ _ _ _ _ _ _ us its h1 h2 => match us, h1, its, h2 with | [_, _], _, [_, _, _, _], _ => ⟨_, rfl, rfl⟩
    b3_Case_init := (func_mk (st := s_Case_init) l32 c32 k32 (Ms.dfl_four (v1 := .non) (v2 := .non) (v3 := .non) (v4 := .non) t32 rfl rfl rfl rfl)).toD.binds1 (ps := ["self", "ranks", "wide", "feet", "seats"]) 3 2 (by simp) rfl fun _ _ _ _ _ _ _ us its h1 h2 => match us, h1, its, h2 with | [_, _, _], _, [_, _, _, _], _ => ⟨_, rfl, rfl⟩
    b4_Case_init := (func_mk (st := s_Case_init) l32 c32 k32 (Ms.dfl_four (v1 := .non) (v2 := .non) (v3 := .non) (v4 := .non) t32 rfl rfl rfl rfl)).toD.binds1 (ps := ["self", "ranks", "wide", "feet", "seats"]) 4 3 (by simp) rfl fun _ _ _ _ _ _ _ us its h1 h2 => match us, h1, its, h2 with | [_, _, _, _], _, [_, _, _, _], _ => ⟨_, rfl, rfl⟩
    b5_Case_init := (func_mk (st := s_Case_init) l32 c32 k32 (Ms.dfl_four (v1 := .non) (v2 := .non) (v3 := .non) (v4 := .non) t32 rfl rfl rfl rfl)).toD.binds1 (ps := ["self", "ranks", "wide", "feet", "seats"]) 5 4 (by simp) rfl fun _ _ _ _ _ _ _ us its h1 h2 => match us, h1, its, h2 with | [_, _, _, _, _], _, [_, _, _, _], _ => ⟨_, rfl, rfl⟩
    kw_Case_init_1_ranks := kbD (ps := ["self", "ranks", "wide", "feet", "seats"]) (func_mk (st := s_Case_init) l32 c32 k32 (Ms.dfl_four (v1 := .non) (v2 := .non) (v3 := .non) (v4 := .non) t32 rfl rfl rfl rfl)).toD 1 ["ranks"] [0, 5, 2, 3, 4] (by simp) fun _ _ _ _ _ _ _ us its ws h1 h2 h3 => match us, h1, its, h2, ws, h3 with | [_], _, [_, _, _, _], _, [_], _ => ⟨_, rfl, rfl⟩
    f_Case_rank_of := _
    d_Case_rank_of := _
    c_Case_rank_of := _
    F_Case_rank_of := (func_mk (st := s_Case_rank_of) l33 c33 k33 (.inl ⟨rfl, rfl⟩))
    m_Case_rank_of := ⟨a33, i33, k33⟩
    b_Case_rank_of := (func_mk (st := s_Case_rank_of) l33 c33 k33 (.inl ⟨rfl, rfl⟩)).binds (ps := ["self", "sign"]) fun _ _ _ _ _ us hl => match us, hl with | [_, _], _ => rfl
    f_Case_is_base := _
    d_Case_is_base := _
    c_Case_is_base := _
    F_Case_is_base := (func_mk (st := s_Case_is_base) l34 c34 k34 (.inl ⟨rfl, rfl⟩))
    m_Case_is_base := ⟨a34, i34, k34⟩
    b_Case_is_base := (func_mk (st := s_Case_is_base) l34 c34 k34 (.inl ⟨rfl, rfl⟩)).binds (ps := ["self", "sign"]) fun _ _ _ _ _ us hl => match us, hl with | [_, _], _ => rfl
    f_Case_len := _
    d_Case_len := _
    c_Case_len := _
    F_Case_len := (func_mk (st := s_Case_len) l35 c35 k35 (.inl ⟨rfl, rfl⟩))
    m_Case_len := ⟨a35, i35, k35⟩
    b_Case_len := (func_mk (st := s_Case_len) l35 c35 k35 (.inl ⟨rfl, rfl⟩)).binds (ps := ["self"]) fun _ _ _ _ _ us hl => match us, hl with | [_], _ => rfl
    f_Case_eq := _
    d_Case_eq := _
    c_Case_eq := _
    F_Case_eq := (func_mk (st := s_Case_eq) l36 c36 k36 (.inl ⟨rfl, rfl⟩))
    m_Case_eq := ⟨a36, i36, k36⟩
    b_Case_eq := (func_mk (st := s_Case_eq) l36 c36 k36 (.inl ⟨rfl, rfl⟩)).binds (ps := ["self", "other"]) fun _ _ _ _ _ us hl => match us, hl with | [_, _], _ => rfl
    f_Case_str := _
    d_Case_str := _
    c_Case_str := _
    F_Case_str := (func_mk (st := s_Case_str) l37 c37 k37 (.inl ⟨rfl, rfl⟩))
    m_Case_str := ⟨a37, i37, k37⟩
    b_Case_str := (func_mk (st := s_Case_str) l37 c37 k37 (.inl ⟨rfl, rfl⟩)).binds (ps := ["self"]) fun _ _ _ _ _ us hl => match us, hl with | [_], _ => rfl
    f_y_law := _
    d_y_law := _
    c_y_law := _
    F_y_law := (func_mk (st := s_y_law) l38 c38 k38 (.inl ⟨rfl, rfl⟩))
    g_y_law := PySem.W.mg_of X G a38
    b_y_law := (func_mk (st := s_y_law) l38 c38 k38 (.inl ⟨rfl, rfl⟩)).binds (ps := ["_law_script"]) fun _ _ _ _ _ us hl => match us, hl with | [_], _ => rfl
    t_SIGNS := _
    v_SIGNS := PySem.W.mg_of X G v_SIGNS
    t_MOST_LETTERS := _
    v_MOST_LETTERS := PySem.W.mg_of X G v_MOST_LETTERS
    t_HIGHEST_RANK := _
    v_HIGHEST_RANK := PySem.W.mg_of X G v_HIGHEST_RANK
    t_WIDEST := _
    v_WIDEST := PySem.W.mg_of X G v_WIDEST
    t_USUAL_WIDTH := _
    v_USUAL_WIDTH := PySem.W.mg_of X G v_USUAL_WIDTH
    t_FARTHEST := _
    v_FARTHEST := PySem.W.mg_of X G v_FARTHEST
    oc_Case := oc_Case
    C_NoWord := _
    I_NoWord := _
    X_NoWord := x_NoWord
    C_NoRule := _
    I_NoRule := _
    X_NoRule := x_NoRule
    C_NoCase := _
    I_NoCase := _
    X_NoCase := x_NoCase
    C_SeamError := _
    v_SeamError := PySem.W.mg_of X G v_SeamError
    m_NoWord_SeamError := m_NoWord_SeamError
    m_NoWord_NoRule := m_NoWord_NoRule
    m_NoWord_NoCase := m_NoWord_NoCase
    m_NoRule_SeamError := m_NoRule_SeamError
    m_NoRule_NoWord := m_NoRule_NoWord
    m_NoRule_NoCase := m_NoRule_NoCase
    m_NoCase_SeamError := m_NoCase_SeamError
    m_NoCase_NoWord := m_NoCase_NoWord
    m_NoCase_NoRule := m_NoCase_NoRule
    z_ValueError := PySem.W.mg_none_of X G z_ValueError
    z_all := PySem.W.mg_none_of X G z_all
    z_bool := PySem.W.mg_none_of X G z_bool
    z_dict := PySem.W.mg_none_of X G z_dict
    z_enumerate := PySem.W.mg_none_of X G z_enumerate
    z_int := PySem.W.mg_none_of X G z_int
    z_isinstance := PySem.W.mg_none_of X G z_isinstance
    z_len := PySem.W.mg_none_of X G z_len
    z_list := PySem.W.mg_none_of X G z_list
    z_range := PySem.W.mg_none_of X G z_range
    z_set := PySem.W.mg_none_of X G z_set
    z_sorted := PySem.W.mg_none_of X G z_sorted
    z_str := PySem.W.mg_none_of X G z_str
    z_tuple := PySem.W.mg_none_of X G z_tuple
    z_zip := PySem.W.mg_none_of X G z_zip })
end Dl.M
open PySem PySem.W PyProof.Rows
set_option maxRecDepth 100000 in
set_option maxHeartbeats 0 in
theorem PySem.Challenge.cw_markseam_k14_marks_in_order_holds : PySem.Challenge.rw_markseam_k14_marks_in_order.Holds := by
  w_on; o_law; k_head; (case hw => w_witness2)
  k_fill
  refine Ms.walk_tabs (l := PySem.Challenge.rw_markseam_k14_marks_in_order) (n := 63) (k := Dl.M.lvl) (x := "_law_script") (CX := fun _ => Dl.M.LCX) rfl (by decide) rfl ⟨rfl, by decide, by decide⟩ (fun w h Y => by first | exact PySem.W.kIn_of Y | exact PySem.W.km_in_of Y) ?F (fun _ _ _ _ _ h => Dl.M.lcx0 h)
  case F =>
    intro w mg fa h KX G hmg own
    refine' Dl.M.all_mk rfl (by decide +kernel) KX G hmg own ?v_Case ?pg_Case ?hd_Case ?po_Case ?sa_Case ?mk_Case ?kc_Case ?na_Case_ranks ?na_Case_wide ?na_Case_feet ?na_Case_seats ?a0 ?l0 ?c0 ?k0 ?a1 ?l1 ?c1 ?k1 ?a2 ?l2 ?c2 ?k2 ?a3 ?l3 ?c3 ?k3 ?a4 ?l4 ?c4 ?k4 ?a5 ?l5 ?c5 ?k5 ?a6 ?l6 ?c6 ?k6 ?a7 ?l7 ?c7 ?k7 ?t7 ?a8 ?l8 ?c8 ?k8 ?a9 ?l9 ?c9 ?k9 ?a10 ?l10 ?c10 ?k10 ?a11 ?l11 ?c11 ?k11 ?a12 ?l12 ?c12 ?k12 ?a13 ?l13 ?c13 ?k13 ?a14 ?l14 ?c14 ?k14 ?a15 ?l15 ?c15 ?k15 ?a16 ?l16 ?c16 ?k16 ?a17 ?l17 ?c17 ?k17 ?a18 ?l18 ?c18 ?k18 ?a19 ?l19 ?c19 ?k19 ?a20 ?l20 ?c20 ?k20 ?a21 ?l21 ?c21 ?k21 ?a22 ?l22 ?c22 ?k22 ?a23 ?l23 ?c23 ?k23 ?a24 ?l24 ?c24 ?k24 ?a25 ?l25 ?c25 ?k25 ?a26 ?l26 ?c26 ?k26 ?a27 ?l27 ?c27 ?k27 ?a28 ?l28 ?c28 ?k28 ?a29 ?l29 ?c29 ?k29 ?a30 ?l30 ?c30 ?k30 ?a31 ?l31 ?c31 ?k31 ?a32 ?i32 ?l32 ?c32 ?k32 ?t32 ?a33 ?i33 ?l33 ?c33 ?k33 ?a34 ?i34 ?l34 ?c34 ?k34 ?a35 ?i35 ?l35 ?c35 ?k35 ?a36 ?i36 ?l36 ?c36 ?k36 ?a37 ?i37 ?l37 ?c37 ?k37 ?a38 ?l38 ?c38 ?k38 ?v_SIGNS ?v_MOST_LETTERS ?v_HIGHEST_RANK ?v_WIDEST ?v_USUAL_WIDTH ?v_FARTHEST ?oc_Case ?x_NoWord ?x_NoRule ?x_NoCase ?v_SeamError ?m_NoWord_SeamError ?m_NoWord_NoRule ?m_NoWord_NoCase ?m_NoRule_SeamError ?m_NoRule_NoWord ?m_NoRule_NoCase ?m_NoCase_SeamError ?m_NoCase_NoWord ?m_NoCase_NoRule ?z_ValueError ?z_all ?z_bool ?z_dict ?z_enumerate ?z_int ?z_isinstance ?z_len ?z_list ?z_range ?z_set ?z_sorted ?z_str ?z_tuple ?z_zip
    (case v_Case => k_is)
    (case pg_Case => k_is)
    (case hd_Case => k_is)
    (case po_Case => k_is)
    (case sa_Case => k_is)
    (case mk_Case => k_is)
    (case kc_Case => k_is)
    (case na_Case_ranks => k_is)
    (case na_Case_wide => k_is)
    (case na_Case_feet => k_is)
    (case na_Case_seats => k_is)
    (case a0 => k_is)
    (case l0 => k_is)
    (case c0 => k_is)
    (case k0 => k_is)
    (case a1 => k_is)
    (case l1 => k_is)
    (case c1 => k_is)
    (case k1 => k_is)
    (case a2 => k_is)
    (case l2 => k_is)
    (case c2 => k_is)
    (case k2 => k_is)
    (case a3 => k_is)
    (case l3 => k_is)
    (case c3 => k_is)
    (case k3 => k_is)
    (case a4 => k_is)
    (case l4 => k_is)
    (case c4 => k_is)
    (case k4 => k_is)
    (case a5 => k_is)
    (case l5 => k_is)
    (case c5 => k_is)
    (case k5 => k_is)
    (case a6 => k_is)
    (case l6 => k_is)
    (case c6 => k_is)
    (case k6 => k_is)
    (case a7 => k_is)
    (case l7 => k_is)
    (case c7 => k_is)
    (case k7 => k_is)
    (case t7 => k_is)
    (case a8 => k_is)
    (case l8 => k_is)
    (case c8 => k_is)
    (case k8 => k_is)
    (case a9 => k_is)
    (case l9 => k_is)
    (case c9 => k_is)
    (case k9 => k_is)
    (case a10 => k_is)
    (case l10 => k_is)
    (case c10 => k_is)
    (case k10 => k_is)
    (case a11 => k_is)
    (case l11 => k_is)
    (case c11 => k_is)
    (case k11 => k_is)
    (case a12 => k_is)
    (case l12 => k_is)
    (case c12 => k_is)
    (case k12 => k_is)
    (case a13 => k_is)
    (case l13 => k_is)
    (case c13 => k_is)
    (case k13 => k_is)
    (case a14 => k_is)
    (case l14 => k_is)
    (case c14 => k_is)
    (case k14 => k_is)
    (case a15 => k_is)
    (case l15 => k_is)
    (case c15 => k_is)
    (case k15 => k_is)
    (case a16 => k_is)
    (case l16 => k_is)
    (case c16 => k_is)
    (case k16 => k_is)
    (case a17 => k_is)
    (case l17 => k_is)
    (case c17 => k_is)
    (case k17 => k_is)
    (case a18 => k_is)
    (case l18 => k_is)
    (case c18 => k_is)
    (case k18 => k_is)
    (case a19 => k_is)
    (case l19 => k_is)
    (case c19 => k_is)
    (case k19 => k_is)
    (case a20 => k_is)
    (case l20 => k_is)
    (case c20 => k_is)
    (case k20 => k_is)
    (case a21 => k_is)
    (case l21 => k_is)
    (case c21 => k_is)
    (case k21 => k_is)
    (case a22 => k_is)
    (case l22 => k_is)
    (case c22 => k_is)
    (case k22 => k_is)
    (case a23 => k_is)
    (case l23 => k_is)
    (case c23 => k_is)
    (case k23 => k_is)
    (case a24 => k_is)
    (case l24 => k_is)
    (case c24 => k_is)
    (case k24 => k_is)
    (case a25 => k_is)
    (case l25 => k_is)
    (case c25 => k_is)
    (case k25 => k_is)
    (case a26 => k_is)
    (case l26 => k_is)
    (case c26 => k_is)
    (case k26 => k_is)
    (case a27 => k_is)
    (case l27 => k_is)
    (case c27 => k_is)
    (case k27 => k_is)
    (case a28 => k_is)
    (case l28 => k_is)
    (case c28 => k_is)
    (case k28 => k_is)
    (case a29 => k_is)
    (case l29 => k_is)
    (case c29 => k_is)
    (case k29 => k_is)
    (case a30 => k_is)
    (case l30 => k_is)
    (case c30 => k_is)
    (case k30 => k_is)
    (case a31 => k_is)
    (case l31 => k_is)
    (case c31 => k_is)
    (case k31 => k_is)
    (case a32 => k_is)
    (case i32 => k_is)
    (case l32 => k_is)
    (case c32 => k_is)
    (case k32 => k_is)
    (case t32 => k_is)
    (case a33 => k_is)
    (case i33 => k_is)
    (case l33 => k_is)
    (case c33 => k_is)
    (case k33 => k_is)
    (case a34 => k_is)
    (case i34 => k_is)
    (case l34 => k_is)
    (case c34 => k_is)
    (case k34 => k_is)
    (case a35 => k_is)
    (case i35 => k_is)
    (case l35 => k_is)
    (case c35 => k_is)
    (case k35 => k_is)
    (case a36 => k_is)
    (case i36 => k_is)
    (case l36 => k_is)
    (case c36 => k_is)
    (case k36 => k_is)
    (case a37 => k_is)
    (case i37 => k_is)
    (case l37 => k_is)
    (case c37 => k_is)
    (case k37 => k_is)
    (case a38 => k_is)
    (case l38 => k_is)
    (case c38 => k_is)
    (case k38 => k_is)
    (case v_SIGNS => k_is)
    (case v_MOST_LETTERS => k_is)
    (case v_HIGHEST_RANK => k_is)
    (case v_WIDEST => k_is)
    (case v_USUAL_WIDTH => k_is)
    (case v_FARTHEST => k_is)
    (case oc_Case => constructor <;> first | k_is | rfl | decide +kernel)
    (case x_NoWord => 
      refine' PySem.Sx.Txt.of (nm := "NoWord") (fld := "at") KX G ?gC ?cls1 ?cls2 ?cls3 ?sa ?ga ?gg ?noN ?iC ?tC ?kC ?exC ?vaC ?meC ?tyC ?isC ?hdC ?opq ?sup ?l1 ?l2 ?l3 ?l4 ?l5 ?l6 ?top ?fne ?fks ?fkc ?fdb ?te ?bnd ?ev
      (case gC => k_is)
      (case cls1 => k_is)
      (case cls2 => first | rfl | decide +kernel)
      (case cls3 => first | rfl | with_unfolding_all rfl | decide +kernel)
      (case sa => k_is)
      (case ga => k_is)
      (case gg => k_is)
      (case noN => k_is)
      (case iC => k_is)
      (case tC => k_is)
      (case kC => k_is)
      (case exC => k_is)
      (case vaC => k_is)
      (case meC => k_is)
      (case tyC => k_is)
      (case isC => k_is)
      (case hdC => k_is)
      (case opq => k_is)
      (case sup => k_is)
      (case l1 => k_is)
      (case l2 => k_is)
      (case l3 => k_is)
      (case l4 => first | rfl | k_is)
      (case l5 => first | rfl | decide +kernel)
      (case l6 => k_is)
      (case top => first | rfl | decide +kernel)
      (case fne => first | rfl | decide +kernel)
      (case fks => first | rfl | decide +kernel)
      (case fkc => first | rfl | decide +kernel)
      (case fdb => first | rfl | decide +kernel)
      (case te => first | k_is | rfl | decide +kernel)
      (case bnd => exact fun s x v => .of_eq rfl)
      (case ev => exact ⟨_, fun L => rfl⟩))
    (case x_NoRule => 
      refine' PySem.Sx.Txt.of (nm := "NoRule") (fld := "what") KX G ?gC ?cls1 ?cls2 ?cls3 ?sa ?ga ?gg ?noN ?iC ?tC ?kC ?exC ?vaC ?meC ?tyC ?isC ?hdC ?opq ?sup ?l1 ?l2 ?l3 ?l4 ?l5 ?l6 ?top ?fne ?fks ?fkc ?fdb ?te ?bnd ?ev
      (case gC => k_is)
      (case cls1 => k_is)
      (case cls2 => first | rfl | decide +kernel)
      (case cls3 => first | rfl | with_unfolding_all rfl | decide +kernel)
      (case sa => k_is)
      (case ga => k_is)
      (case gg => k_is)
      (case noN => k_is)
      (case iC => k_is)
      (case tC => k_is)
      (case kC => k_is)
      (case exC => k_is)
      (case vaC => k_is)
      (case meC => k_is)
      (case tyC => k_is)
      (case isC => k_is)
      (case hdC => k_is)
      (case opq => k_is)
      (case sup => k_is)
      (case l1 => k_is)
      (case l2 => k_is)
      (case l3 => k_is)
      (case l4 => first | rfl | k_is)
      (case l5 => first | rfl | decide +kernel)
      (case l6 => k_is)
      (case top => first | rfl | decide +kernel)
      (case fne => first | rfl | decide +kernel)
      (case fks => first | rfl | decide +kernel)
      (case fkc => first | rfl | decide +kernel)
      (case fdb => first | rfl | decide +kernel)
      (case te => first | k_is | rfl | decide +kernel)
      (case bnd => exact fun s x v => .of_eq rfl)
      (case ev => exact ⟨_, fun L => rfl⟩))
    (case x_NoCase => 
      refine' PySem.Sx.Txt.of (nm := "NoCase") (fld := "what") KX G ?gC ?cls1 ?cls2 ?cls3 ?sa ?ga ?gg ?noN ?iC ?tC ?kC ?exC ?vaC ?meC ?tyC ?isC ?hdC ?opq ?sup ?l1 ?l2 ?l3 ?l4 ?l5 ?l6 ?top ?fne ?fks ?fkc ?fdb ?te ?bnd ?ev
      (case gC => k_is)
      (case cls1 => k_is)
      (case cls2 => first | rfl | decide +kernel)
      (case cls3 => first | rfl | with_unfolding_all rfl | decide +kernel)
      (case sa => k_is)
      (case ga => k_is)
      (case gg => k_is)
      (case noN => k_is)
      (case iC => k_is)
      (case tC => k_is)
      (case kC => k_is)
      (case exC => k_is)
      (case vaC => k_is)
      (case meC => k_is)
      (case tyC => k_is)
      (case isC => k_is)
      (case hdC => k_is)
      (case opq => k_is)
      (case sup => k_is)
      (case l1 => k_is)
      (case l2 => k_is)
      (case l3 => k_is)
      (case l4 => first | rfl | k_is)
      (case l5 => first | rfl | decide +kernel)
      (case l6 => k_is)
      (case top => first | rfl | decide +kernel)
      (case fne => first | rfl | decide +kernel)
      (case fks => first | rfl | decide +kernel)
      (case fkc => first | rfl | decide +kernel)
      (case fdb => first | rfl | decide +kernel)
      (case te => first | k_is | rfl | decide +kernel)
      (case bnd => exact fun s x v => .of_eq rfl)
      (case ev => exact ⟨_, fun L => rfl⟩))
    (case v_SeamError => k_is)
    (case m_NoWord_SeamError => first | k_is | rfl | decide +kernel)
    (case m_NoWord_NoRule => first | k_is | rfl | decide +kernel)
    (case m_NoWord_NoCase => first | k_is | rfl | decide +kernel)
    (case m_NoRule_SeamError => first | k_is | rfl | decide +kernel)
    (case m_NoRule_NoWord => first | k_is | rfl | decide +kernel)
    (case m_NoRule_NoCase => first | k_is | rfl | decide +kernel)
    (case m_NoCase_SeamError => first | k_is | rfl | decide +kernel)
    (case m_NoCase_NoWord => first | k_is | rfl | decide +kernel)
    (case m_NoCase_NoRule => first | k_is | rfl | decide +kernel)
    (case z_ValueError => k_is)
    (case z_all => k_is)
    (case z_bool => k_is)
    (case z_dict => k_is)
    (case z_enumerate => k_is)
    (case z_int => k_is)
    (case z_isinstance => k_is)
    (case z_len => k_is)
    (case z_list => k_is)
    (case z_range => k_is)
    (case z_set => k_is)
    (case z_sorted => k_is)
    (case z_str => k_is)
    (case z_tuple => k_is)
    (case z_zip => k_is)
#print axioms PySem.Challenge.cw_markseam_k14_marks_in_order_holds

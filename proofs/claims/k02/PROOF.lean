import PyProof.Rows.All
import Wide.All
import OpenK.AllK
import Wide.FinOn
import HandS.ForMost
import HandS.Walk
import HandS.Wide
import HandS.IsInst
import KE.GoesMore
import KE.GoesEnum
import HandS.Codes
import PySem.Challenge.RW_markseam_k02_the_common_start
set_option Elab.async false
set_option linter.all false
set_option maxRecDepth 100000
set_option maxHeartbeats 4000000
set_option Elab.async false
set_option linter.all false
set_option maxRecDepth 100000
/-! Own rules: zip of two texts, of a text and a list; enumerate of a text. -/
namespace Ms
open PySem PySem.Spec PyProof.Rows L2
/-- the five new cells of a zip, over two one-cell iterators -/
theorem five {c n : Nat} (h : c ∈ [n + 4, n + 2, n + 3, n, n + 1]) : n ≤ c := by
  have q : c = n + 4 ∨ c = n + 2 ∨ c = n + 3 ∨ c = n ∨ c = n + 1 := by simpa using h
  omega
/-- signs of two texts in new pairs -/
def Jss (x y : Str) : It :=
  ⟨fun i _ => i < x.cps.size ∧ i < y.cps.size,
   fun i H v H' => ∃ T c d, v = .ref T ∧ H T = none ∧ H' = upd H T (.tup [.str ⟨#[c]⟩, .str ⟨#[d]⟩]) ∧ x.cps[i]? = some c ∧ y.cps[i]? = some d,
   fun i _ => i ≤ x.cps.size ∧ i ≤ y.cps.size ∧ (i = x.cps.size ∨ i = y.cps.size)⟩
theorem ltn {a n : Nat} (h : a < n) (i : Nat) : a ≠ n + i := by omega
/-- how the cells of such a zip lie -/
structure Apt (z TI TO i1 i2 : Addr) : Prop where
  e1 : TI ≠ z
  e2 : TO ≠ z
  e3 : i1 ≠ z
  e4 : i2 ≠ z
  e5 : TI ≠ TO
  e6 : TI ≠ i1
  e7 : TI ≠ i2
  e8 : TO ≠ i1
  e9 : TO ≠ i2
  e0 : i1 ≠ i2
theorem apt (n : Nat) : Apt (n + 4) (n + 2) (n + 3) n (n + 1) := by constructor <;> (show ¬ (@Eq Nat _ _); omega)
theorem Apt.ss {z TI TO i1 i2 : Addr} (D : Apt z TI TO i1 i2) : ZipSep2 z TI TO i1 i2 [i1] [i2] where
  TIz := D.e1
  TOz := D.e2
  TITO := D.e5
  TIi1 := D.e6
  mem1 := List.mem_singleton.mpr rfl
  zf1 := fun h => D.e3 (List.mem_singleton.mp h).symm
  Tf1 := fun h => D.e8 (List.mem_singleton.mp h)
  TIi2 := D.e7
  mem2 := List.mem_singleton.mpr rfl
  zf2 := fun h => D.e4 (List.mem_singleton.mp h).symm
  Tf2 := fun h => D.e9 (List.mem_singleton.mp h)
  sep1_2 := fun h => D.e0 (List.mem_singleton.mp h)
  sep2_1 := fun h => D.e0 (List.mem_singleton.mp h).symm
theorem Apt.sl {z TI TO i1 i2 l : Addr} (D : Apt z TI TO i1 i2) (h1 : l ≠ z) (h2 : l ≠ TO) (h3 : l ≠ i1) : ZipSep2 z TI TO i1 i2 [i1] [i2, l] where
  TIz := D.e1
  TOz := D.e2
  TITO := D.e5
  TIi1 := D.e6
  mem1 := List.mem_singleton.mpr rfl
  zf1 := fun h => D.e3 (List.mem_singleton.mp h).symm
  Tf1 := fun h => D.e8 (List.mem_singleton.mp h)
  TIi2 := D.e7
  mem2 := List.mem_cons_self ..
  zf2 := fun h => (List.mem_cons.mp h).elim (fun q => D.e4 q.symm) fun q => h1 (List.mem_singleton.mp q).symm
  Tf2 := fun h => (List.mem_cons.mp h).elim D.e9 fun q => h2 (List.mem_singleton.mp q).symm
  sep1_2 := fun h => (List.mem_cons.mp h).elim D.e0 fun q => h3 (List.mem_singleton.mp q).symm
  sep2_1 := fun h => D.e0 (List.mem_singleton.mp h).symm
theorem lt5 {h : Heap} {z TI TO i1 i2 : Addr} (l1 : ∃ o, h.get? z = some o) (l2 : ∃ o, h.get? TI = some o) (l3 : ∃ o, h.get? TO = some o) (l4 : ∃ o, h.get? i1 = some o) (l5 : ∃ o, h.get? i2 = some o) :
    ∀ c ∈ [z, TI, TO, i1, i2], c < h.objs.size := fun c hc => by
  have q : c = z ∨ c = TI ∨ c = TO ∨ c = i1 ∨ c = i2 := by simpa using hc
  have lt : ∀ {a : Addr}, (∃ o, h.get? a = some o) → a < h.objs.size := fun ⟨_, e⟩ => Heap.lt_size e
  rcases q with q | q | q | q | q
  all_goals rw [q]
  · exact lt l1
  · exact lt l2
  · exact lt l3
  · exact lt l4
  · exact lt l5
theorem turn_ss {P : Program} {w : World} {K : PySem.W.Frag} {elts : List Expr} {kk : Nat} {tpos : Pos} {x y : Str} {t u : Tok} {z TI TO i1 i2 : Addr} (D : Apt z TI TO i1 i2) :
    Turn P w K (.Tuple elts kk tpos) (Jss x y) [z, TI, TO, i1, i2] z
      (fun i h => IsZip h z TI TO .none ∧ IsTupOf2 h TI (.ref i1) (.ref i2) ∧ (∃ a b, IsTupOf2 h TO a b) ∧ h.IsStrIter i1 (strIterType x) x t i ∧ h.IsStrIter i2 (strIterType y) y u i) where
  mem := by simp
  obj := fun i h st c hc => by
    obtain ⟨hz, hTI, ⟨a, b, hTO⟩, ⟨o1, m1, _, d1⟩, ⟨o2, m2, _, d2⟩⟩ := st
    have q : c = z ∨ c = TI ∨ c = TO ∨ c = i1 ∨ c = i2 := by simpa using hc
    rcases q with q | q | q | q | q
    all_goals rw [q]
    · exact ⟨_, hz, fun v q => nomatch q⟩
    · exact ⟨_, hTI, fun v q => nomatch q⟩
    · exact ⟨_, hTO, fun v q => nomatch q⟩
    · exact ⟨o1, m1, fun v q => by rw [d1] at q; cases q⟩
    · exact ⟨o2, m2, fun v q => by rw [d2] at q; cases q⟩
  keep := fun i h h' st k => by
    obtain ⟨hz, hTI, ⟨a, b, hTO⟩, ⟨o1, m1, r1⟩, ⟨o2, m2, r2⟩⟩ := st
    exact ⟨k z (by simp) _ hz, k TI (by simp) _ hTI, ⟨a, b, k TO (by simp) _ hTO⟩, ⟨o1, k i1 (by simp) _ m1, r1⟩, ⟨o2, k i2 (by simp) _ m2, r2⟩⟩
  item := by
    intro X hP hw hK hc i pins s σ H E I hf st hg
    subst hP hw hK
    obtain ⟨hz, hTI, ⟨a0, b0, hTO⟩, h1, h2⟩ := st
    obtain ⟨g1, g2⟩ := hg
    have lv := lt5 ⟨_, hz⟩ ⟨_, hTI⟩ ⟨_, hTO⟩ (let ⟨o, e, _⟩ := h1; ⟨o, e⟩) (let ⟨o, e, _⟩ := h2; ⟨o, e⟩)
    have hh : X.A.in1.handled = none := I.ok.hd hc
    refine wpAny_pyNext_zipD2_item D.ss (Draws.text hh i1 x t) (Draws.text hh i2 y u) hz hTI hTO h1 h2 g1 g2 fun v1 v2 h' tk y1 y2 z' TO' h1' h2' hT hsz hk => ?_
    obtain ⟨c, u1, ec, rfl⟩ := y1
    obtain ⟨d, u2, ed, rfl⟩ := y2
    refine ⟨_, rfl, wpAny_letOwnedTupleGo_zip (s := { s with heap := h', toks := tk }) z' fun h'' z'' sb => ?_⟩
    have nz : z ≠ s.heap.objs.size := Nat.ne_of_lt (lv z (by simp))
    have hT2 : h''.get? s.heap.objs.size = some { cls := .type "tuple", data := .seq #[.str ⟨#[c]⟩ u1, .str ⟨#[d]⟩ u2] } := (sb.2 _ nz.symm).trans hT
    have new : ObjOk X.prog X.w (upd H s.heap.objs.size (.tup [.str ⟨#[c]⟩, .str ⟨#[d]⟩])) h'' s.heap.objs.size (.tup [.str ⟨#[c]⟩, .str ⟨#[d]⟩]) :=
      ⟨by show 2 ≤ sizeLine; decide, _, .cons ⟨u1, rfl⟩ (.cons ⟨u2, rfl⟩ .nil), ⟨_, hT2, rfl, _, rfl⟩⟩
    have I1 : Inv X pins σ (upd H s.heap.objs.size (.tup [.str ⟨#[c]⟩, .str ⟨#[d]⟩])) { s with heap := h'', toks := tk } :=
      I.turnedNew (ch := [z, TI, TO, i1, i2]) (fun b o hb q => (sb.2 b fun e => hb (by simp [e])).trans (hk b o (fun e => hb (by simp [e])) (fun e => hb (by simp [e])) (fun e => hb (by simp [e])) (fun e => hb (by simp [e])) q)) hf (Nat.le_refl _) new
    refine ⟨.ref s.heap.objs.size, _, I1, rfl, ⟨_, c, d, rfl, I.hok.fresh (Nat.le_refl _), rfl, ec, ed⟩, ⟨z'', ?_, ⟨_, _, (sb.2 _ D.e2).trans TO'⟩, ?_, ?_⟩, fun b hb => ?_⟩
    · exact (sb.2 _ D.e1).trans (hk _ _ D.e1 D.e5 D.e6 D.e7 hTI)
    · obtain ⟨o, e, r⟩ := h1'
      exact ⟨o, (sb.2 _ D.e3).trans e, r⟩
    · obtain ⟨o, e, r⟩ := h2'
      exact ⟨o, (sb.2 _ D.e4).trans e, r⟩
    · rw [upd_ne (Nat.ne_of_lt (lv b hb))]
      exact (hf b hb).1
  done := by
    intro X hP hw hK hc i pins s σ H E I hf st hg
    subst hP hw hK
    obtain ⟨hz, hTI, ⟨a0, b0, hTO⟩, h1, h2⟩ := st
    have hh : X.A.in1.handled = none := I.ok.hd hc
    exact wpAny_pyNext_zipD2_end D.ss (Draws.text hh i1 x t) (Draws.text hh i2 y u) hz hTI hTO h1 h2 hg.1 hg.2.1 hg.2.2 fun h' tk hk => ⟨rfl, I.turnedL (t' := tk) (ch := [z, TI, TO, i1, i2]) (fun b o hb q =>
      hk b o (fun e => hb (by simp [e])) (fun e => hb (by simp [e])) (fun e => hb (by simp [e])) (fun e => hb (by simp [e])) q) hf⟩
  self := fun A i s Q E st h => wpAny_pyIter_zip st.1 h
/-- signs of a text, items of the list at a as it stands at each turn, in new pairs -/
def Jsl (K : PySem.W.Frag) (x : Str) (a : Addr) : It :=
  ⟨fun i H => i < x.cps.size ∧ ∃ ys v, SqL K H a ys ∧ ys[i]? = some v,
   fun i H v H' => ∃ T c y, v = .ref T ∧ H T = none ∧ H' = upd H T (.tup [.str ⟨#[c]⟩, y]) ∧ x.cps[i]? = some c ∧ ∀ ys, SqL K H a ys → ys[i]? = some y,
   fun i H => ∃ ys, SqL K H a ys ∧ i ≤ x.cps.size ∧ i ≤ ys.length ∧ (i = x.cps.size ∨ i = ys.length)⟩
theorem turn_sl {P : Program} {w : World} {K : PySem.W.Frag} {elts : List Expr} {kk : Nat} {tpos : Pos} {x : Str} {a : Addr} {t : Tok} {z TI TO i1 i2 : Addr} (D : Apt z TI TO i1 i2) (n1 : a ≠ z) (n2 : a ≠ TO) (n3 : a ≠ i1) (n4 : a ≠ i2) :
    Turn P w K (.Tuple elts kk tpos) (Jsl K x a) [z, TI, TO, i1, i2] z
      (fun i h => IsZip h z TI TO .none ∧ IsTupOf2 h TI (.ref i1) (.ref i2) ∧ (∃ a b, IsTupOf2 h TO a b) ∧ h.IsStrIter i1 (strIterType x) x t i ∧ h.IsListIter i2 a i) where
  mem := by simp
  obj := fun i h st c hc => by
    obtain ⟨hz, hTI, ⟨a, b, hTO⟩, ⟨o1, m1, _, d1⟩, ⟨o2, m2, _, d2⟩⟩ := st
    have q : c = z ∨ c = TI ∨ c = TO ∨ c = i1 ∨ c = i2 := by simpa using hc
    rcases q with q | q | q | q | q
    all_goals rw [q]
    · exact ⟨_, hz, fun v q => nomatch q⟩
    · exact ⟨_, hTI, fun v q => nomatch q⟩
    · exact ⟨_, hTO, fun v q => nomatch q⟩
    · exact ⟨o1, m1, fun v q => by rw [d1] at q; cases q⟩
    · exact ⟨o2, m2, fun v q => by rw [d2] at q; cases q⟩
  keep := fun i h h' st k => by
    obtain ⟨hz, hTI, ⟨a, b, hTO⟩, ⟨o1, m1, r1⟩, ⟨o2, m2, r2⟩⟩ := st
    exact ⟨k z (by simp) _ hz, k TI (by simp) _ hTI, ⟨a, b, k TO (by simp) _ hTO⟩, ⟨o1, k i1 (by simp) _ m1, r1⟩, ⟨o2, k i2 (by simp) _ m2, r2⟩⟩
  item := by
    intro X hP hw hK hc i pins s σ H E I hf st hg
    subst hP hw hK
    obtain ⟨hz, hTI, ⟨a0, b0, hTO⟩, h1, h2⟩ := st
    obtain ⟨g1, ys, v, hys, hv⟩ := hg
    obtain ⟨its, rv, p, _⟩ := I.list hys
    obtain ⟨uv, huv, ruv⟩ := rv.get hv
    have lv := lt5 ⟨_, hz⟩ ⟨_, hTI⟩ ⟨_, hTO⟩ (let ⟨o, e, _⟩ := h1; ⟨o, e⟩) (let ⟨o, e, _⟩ := h2; ⟨o, e⟩)
    have hh : X.A.in1.handled = none := I.ok.hd hc
    have g2 : i < its.toArray.size := by
      have q := (List.getElem?_eq_some_iff.mp huv).1
      simpa using q
    refine wpAny_pyNext_zipD2_item (D.sl n1 n2 n3) (Draws.text hh i1 x t) (Draws.list hh i2 a n4 its.toArray) hz hTI hTO h1 ⟨h2, p.isList⟩ g1 g2 fun v1 v2 h' tk y1 y2 z' TO' h1' h2' hT hsz hk => ?_
    obtain ⟨c, u1, ec, rfl⟩ := y1
    have ev : v2 = uv := by
      have q : its[i]? = some v2 := by simpa using y2
      rw [huv] at q
      exact (Option.some.inj q).symm
    subst ev
    refine ⟨_, rfl, wpAny_letOwnedTupleGo_zip (s := { s with heap := h', toks := tk }) z' fun h'' z'' sb => ?_⟩
    have nz : z ≠ s.heap.objs.size := Nat.ne_of_lt (lv z (by simp))
    have hT2 : h''.get? s.heap.objs.size = some { cls := .type "tuple", data := .seq #[.str ⟨#[c]⟩ u1, v2] } := (sb.2 _ nz.symm).trans hT
    have new : ObjOk X.prog X.w (upd H s.heap.objs.size (.tup [.str ⟨#[c]⟩, v])) h'' s.heap.objs.size (.tup [.str ⟨#[c]⟩, v]) :=
      ⟨by show 2 ≤ sizeLine; decide, _, .cons ⟨u1, rfl⟩ (.cons ruv .nil), ⟨_, hT2, rfl, _, rfl⟩⟩
    have I1 : Inv X pins σ (upd H s.heap.objs.size (.tup [.str ⟨#[c]⟩, v])) { s with heap := h'', toks := tk } :=
      I.turnedNew (ch := [z, TI, TO, i1, i2]) (fun b o hb q => (sb.2 b fun e => hb (by simp [e])).trans (hk b o (fun e => hb (by simp [e])) (fun e => hb (by simp [e])) (fun e => hb (by simp [e])) (fun e => hb (by simp [e])) q)) hf (Nat.le_refl _) new
    refine ⟨.ref s.heap.objs.size, _, I1, rfl, ⟨_, c, v, rfl, I.hok.fresh (Nat.le_refl _), rfl, ec, fun l hl => by rw [I.list_inj hl hys]; exact hv⟩, ⟨z'', ?_, ⟨_, _, (sb.2 _ D.e2).trans TO'⟩, ?_, ?_⟩, fun b hb => ?_⟩
    · exact (sb.2 _ D.e1).trans (hk _ _ D.e1 D.e5 D.e6 D.e7 hTI)
    · obtain ⟨o, e, r⟩ := h1'
      exact ⟨o, (sb.2 _ D.e3).trans e, r⟩
    · obtain ⟨⟨o, e, r⟩, _⟩ := h2'
      exact ⟨o, (sb.2 _ D.e4).trans e, r⟩
    · rw [upd_ne (Nat.ne_of_lt (lv b hb))]
      exact (hf b hb).1
  done := by
    intro X hP hw hK hc i pins s σ H E I hf st hg
    subst hP hw hK
    obtain ⟨hz, hTI, ⟨a0, b0, hTO⟩, h1, h2⟩ := st
    obtain ⟨ys, hys, g1, g2, g3⟩ := hg
    obtain ⟨its, rv, p, _⟩ := I.list hys
    have hl := rv.length
    have hh : X.A.in1.handled = none := I.ok.hd hc
    exact wpAny_pyNext_zipD2_end (D.sl n1 n2 n3) (Draws.text hh i1 x t) (Draws.list hh i2 a n4 its.toArray) hz hTI hTO h1 ⟨h2, p.isList⟩ g1 (by simp; omega) (by simp; omega) fun h' tk hk => ⟨rfl, I.turnedL (t' := tk) (ch := [z, TI, TO, i1, i2]) (fun b o hb q =>
      hk b o (fun e => hb (by simp [e])) (fun e => hb (by simp [e])) (fun e => hb (by simp [e])) (fun e => hb (by simp [e])) q) hf⟩
  self := fun A i s Q E st h => wpAny_pyIter_zip st.1 h
/-- zip(text, text | list) -/
def iZs (K : PySem.W.Frag) (ta : TA) : TI := fun σ H R => ta σ H fun vs H1 => ∃ (x : Str) (v : V), vs = [.str x, v] ∧ ((∃ y, v = .str y ∧ R (Jss x y) H1) ∨ ∃ a ys, v = .ref a ∧ SqL K H1 a ys ∧ R (Jsl K x a) H1)
theorem pi_zs {X : Cx} {e e2 : Expr} {ta : TA} {p pos tpos : Pos} {elts : List Expr} {kk : Nat} (hg : Gl X "zip") (hm : X.mg "zip" = none) (ha : PA X [e, e2] ta)
    (hs : starEach [e, e2] X.env = (false, eval e X.env) :: starEach [e2] X.env := by rfl) (hpl : (backTo pos (starEach [e2] X.env)).any (·.1) = false := by rfl) :
    PI X (.Tuple elts kk tpos) (.Call (.Name "zip" p) [e, e2] [] pos) (iZs X.K ta) := by
  refine ⟨fun pins s σ H R I h => Call_ (ld_blt I hg hm PyProof.Rows.boot_zip (PyProof.Rows.callWith_type1 (thn (ha.run pos pins s σ H _ I h) fun us s1 ⟨vs, H1, I1, r1, q1⟩ => ?_) hs hpl))⟩
  obtain ⟨x, v, rfl, q1⟩ := q1
  cases r1 with
  | cons r rr =>
    cases rr with
    | cons r' rr =>
      cases rr
      obtain ⟨t, rfl⟩ := r
      rcases q1 with ⟨y, rfl, q⟩ | ⟨a, ys, rfl, hq, q⟩
      · obtain ⟨u, rfl⟩ := r'
        refine zip_begins2 (begins_text x t) (begins_text y u) trivial trivial fun h' hz hTI hTO h1 h2 hsz hk => wpAny_pyIter_zip hz ?_
        have I2 : Inv X pins σ H1 { s1 with heap := h' } := I1.kept (t' := s1.toks) hk
        exact ⟨s1.heap.objs.size + 4, [s1.heap.objs.size + 4, s1.heap.objs.size + 2, s1.heap.objs.size + 3, s1.heap.objs.size, s1.heap.objs.size + 1], _, _, H1, rfl, I2, turn_ss (t := t) (u := u) (apt _), ⟨hz, hTI, ⟨_, _, hTO⟩, ⟨_, h1, rfl, rfl⟩, ⟨_, h2, rfl, rfl⟩⟩,
          fun c hc => I1.fpOk (five hc) (I1.hok.fresh (five hc)), q⟩
      · obtain rfl : _ = Value.ref a := r'
        obtain ⟨its, rv, p1, _⟩ := I1.list hq
        have la : a < s1.heap.objs.size := p1.lt
        refine zip_begins2 (begins_text x t) (begins_list a its.toArray) trivial p1.isList fun h' hz hTI hTO h1 h2 hsz hk => wpAny_pyIter_zip hz ?_
        have I2 : Inv X pins σ H1 { s1 with heap := h' } := I1.kept (t' := s1.toks) hk
        exact ⟨s1.heap.objs.size + 4, [s1.heap.objs.size + 4, s1.heap.objs.size + 2, s1.heap.objs.size + 3, s1.heap.objs.size, s1.heap.objs.size + 1], _, _, H1, rfl, I2,
          turn_sl (t := t) (apt _) (ltn la 4) (ltn la 3) (ltn la 0) (ltn la 1), ⟨hz, hTI, ⟨_, _, hTO⟩, ⟨_, h1, rfl, rfl⟩, ⟨_, h2, rfl, rfl⟩⟩,
          fun c hc => I1.fpOk (five hc) (I1.hok.fresh (five hc)), q⟩
/-- enumerate(text): each sign with its place in a new pair -/
def Jes (x : Str) : It :=
  ⟨fun i _ => i < x.cps.size, fun i H v H' => ∃ T c, v = .ref T ∧ H T = none ∧ H' = upd H T (.tup [.int (i : Nat), .str ⟨#[c]⟩]) ∧ x.cps[i]? = some c, fun i _ => i = x.cps.size⟩
theorem turn_es {P : Program} {w : World} {K : PySem.W.Frag} {elts : List Expr} {kk : Nat} {tpos : Pos} (x : Str) (t : Tok) (e it : Addr) (hne : e ≠ it) :
    Turn P w K (.Tuple elts kk tpos) (Jes x) [e, it] e (fun i h => (∃ old, IsEnum h e it ((i : Nat) : Int) old) ∧ h.IsStrIter it (strIterType x) x t i) where
  mem := by simp
  obj := fun i h st b hb => by
    obtain ⟨⟨old, he⟩, ⟨o, ho, hc, hd⟩⟩ := st
    have q : b = e ∨ b = it := by simpa using hb
    rcases q with q | q
    all_goals rw [q]
    · exact ⟨_, he, fun v q => nomatch q⟩
    · exact ⟨o, ho, fun v q => by rw [hd] at q; cases q⟩
  keep := fun i h h' st k => let ⟨⟨old, he⟩, ⟨o, ho, r⟩⟩ := st; ⟨⟨old, k e (by simp) _ he⟩, ⟨o, k it (by simp) _ ho, r⟩⟩
  item := by
    intro X hP hw hK hc i pins s σ H E I hf st hg
    subst hP hw hK
    obtain ⟨⟨old, he⟩, hit⟩ := st
    have hel : e < s.heap.objs.size := Heap.lt_size he
    have hil : it < s.heap.objs.size := by obtain ⟨_, q, _⟩ := hit; exact Heap.lt_size q
    have hh : X.A.in1.handled = none := I.ok.hd hc
    refine wpAny_pyNext_enum_itemD (Draws.text hh it x t) he hit hg hne (fun q => hne (List.mem_singleton.mp q)) fun v h' tk hv ho hit' hT hsz hk => ?_
    obtain ⟨c, u, ec, rfl⟩ := hv
    refine ⟨_, rfl, wpAny_letOwnedTupleGo_enum (s := { s with heap := h', toks := tk + 1 }) ho fun h'' he' sb => ?_⟩
    have hT2 : h''.get? s.heap.objs.size = some { cls := .type "tuple", data := .seq #[.int i tk, .str ⟨#[c]⟩ u] } := (sb.2 _ (Nat.ne_of_gt hel)).trans hT
    have new : ObjOk X.prog X.w (upd H s.heap.objs.size (.tup [.int (i : Nat), .str ⟨#[c]⟩])) h'' s.heap.objs.size (.tup [.int (i : Nat), .str ⟨#[c]⟩]) :=
      ⟨by show 2 ≤ sizeLine; decide, _, .cons ⟨tk, rfl⟩ (.cons ⟨u, rfl⟩ .nil), ⟨_, hT2, rfl, _, rfl⟩⟩
    have I1 : Inv X pins σ (upd H s.heap.objs.size (.tup [.int (i : Nat), .str ⟨#[c]⟩])) { s with heap := h'', toks := tk + 1 } :=
      I.turnedNew (ch := [e, it]) (fun b ob hb q => (sb.2 b fun z => hb (by simp [z])).trans (hk b ob (fun z => hb (by simp [z])) (fun z => hb (by simp [z])) q)) hf (Nat.le_refl _) new
    refine ⟨.ref s.heap.objs.size, _, I1, rfl, ⟨_, c, rfl, I.hok.fresh (Nat.le_refl _), rfl, ec⟩, ⟨⟨.str ⟨#[c]⟩ u, ?_⟩, ?_⟩, fun b hb => ?_⟩
    · have e1 : ((i + 1 : Nat) : Int) = (i : Int) + 1 := by omega
      rw [e1]; exact he'
    · obtain ⟨o, q, r⟩ := hit'
      exact ⟨o, (sb.2 it hne.symm).trans q, r⟩
    · have hb' : b < s.heap.objs.size := by
        have q : b = e ∨ b = it := by simpa using hb
        rcases q with q | q <;> (rw [q]; assumption)
      rw [upd_ne (Nat.ne_of_lt hb')]
      exact (hf b hb).1
  done := by
    intro X hP hw hK hc i pins s σ H E I hf st hg
    subst hP hw hK
    obtain ⟨⟨old, he⟩, hit⟩ := st
    obtain ⟨f0, f1, f2, f3, f4, f5⟩ := hf it (by simp)
    have hh : X.A.in1.handled = none := I.ok.hd hc
    have hi : i = x.cps.size := hg
    subst hi
    exact wpAny_pyNext_enum_endD (Draws.text hh it x t) he hit fun h' eb => ⟨rfl, I.turned (t' := s.toks) (fun b o hb q => eb b o hb q) f0 f1 f3 f4 f5⟩
  self := fun A i s Q E st h => let ⟨⟨_, he⟩, _⟩ := st; wpAny_pyIter_enum he h
def iEs (ta : TA) : TI := fun σ H R => ta σ H fun vs H1 => ∃ x, vs = [.str x] ∧ R (Jes x) H1
theorem pi_es {X : Cx} {e : Expr} {ta : TA} {p pos tpos : Pos} {elts : List Expr} {kk : Nat} (hg : Gl X "enumerate") (hm : X.mg "enumerate" = none) (ha : PA X [e] ta) (hs : starEach [e] X.env = [(false, eval e X.env)] := by rfl) :
    PI X (.Tuple elts kk tpos) (.Call (.Name "enumerate" p) [e] [] pos) (iEs ta) := by
  refine ⟨fun pins s σ H R I h => Call_ (ld_blt I hg hm boot_enumerate (PyProof.Rows.callWith_type1 (thn (ha.run pos pins s σ H _ I h) fun us s1 ⟨vs, H1, I1, r1, q1⟩ => ?_) hs rfl))⟩
  obtain ⟨x, rfl, q⟩ := q1
  cases r1 with
  | cons r rr =>
    cases rr
    obtain ⟨t, rfl⟩ := r
    refine call_enumerate_str fun h' he hit hsz hk => wpAny_pyIter_enum he ?_
    have I2 : Inv X pins σ H1 { s1 with heap := h' } := I1.kept (t' := s1.toks) hk
    refine ⟨s1.heap.objs.size + 1, [s1.heap.objs.size + 1, s1.heap.objs.size], _, _, H1, rfl, I2, turn_es x t (s1.heap.objs.size + 1) s1.heap.objs.size (Nat.succ_ne_self _), ⟨⟨.none, he⟩, hit⟩, fun b hb => ?_, q⟩
    have hle : s1.heap.objs.size ≤ b := by
      have q : b = s1.heap.objs.size + 1 ∨ b = s1.heap.objs.size := by simpa using hb
      rcases q with q | q
      · rw [q]; exact Nat.le_succ _
      · rw [q]; exact Nat.le_refl _
    exact I1.fpOk hle (I1.hok.fresh hle)
/-- list + list, wherever they stand -/
theorem op_catS {X : Cx} : OpR X (binaryOp .Add) (fun x y H Q => ∃ l b xs zs, x = .ref l ∧ y = .ref b ∧ SqL X.K H l xs ∧ SqL X.K H b zs ∧ xs.length + zs.length ≤ sizeLine ∧ ∀ p, H p = none → Q (.ref p) (upd H p (.lst (xs ++ zs)))) := by
  intro pins s σ H x y v u Q I rx ry h
  obtain ⟨l, b, xs, zs, rfl, rfl, hH, hB, hz, q⟩ := h
  cases rx
  cases ry
  obtain ⟨i1, r1, p1, _⟩ := I.list hH
  obtain ⟨i2, r2, p2, _⟩ := I.list hB
  obtain ⟨⟨c1, a1, t1, s1⟩, ho1, hc1, n1, hd1⟩ := p1.isList
  obtain ⟨⟨c2, a2, t2, s2⟩, ho2, hc2, n2, hd2⟩ := p2.isList
  simp only at hc1 hd1 hc2 hd2
  subst hc1 hd1 hc2 hd2
  have l1 := r1.length
  have l2 := r2.length
  refine concat_meets ⟨_, ho1, rfl⟩ ⟨_, ho2, rfl⟩ noFill_list_add seq_list_add PySem.F.slot_list_add PySem.F.entry_list_add (PySem.F.args_list_add_2 _ _) (list_addW l b i1.toArray i2.toArray n1 n2 a1 a2 s1 s2 (by simp; omega)) ⟨ho1, ho2, ?_⟩
  rw [show i1.toArray ++ i2.toArray = (i1 ++ i2).toArray by simp]
  exact ⟨.ref _, _, I.lnew (t' := s.toks) (r1.append r2) (by rw [List.length_append]; omega), rfl, q _ I.fresh⟩
/-! ### their walks -/
theorem walk_ss {x y : Str} : Walk (Jss x y) (min x.cps.size y.cps.size) (fun _ => True)
    (fun i H v H' => ∃ T c d, v = .ref T ∧ H T = none ∧ H' = upd H T (.tup [.str ⟨#[c]⟩, .str ⟨#[d]⟩]) ∧ x.cps[i]? = some c ∧ y.cps[i]? = some d) :=
  ⟨fun i _ hi _ => ⟨by omega, by omega⟩, fun _ _ => ⟨by omega, by omega, by omega⟩, fun _ _ _ _ _ _ y => y⟩
theorem walk_sl {K : PySem.W.Frag} {x : Str} {a : Addr} {ys : List V} : Walk (Jsl K x a) (min x.cps.size ys.length) (fun H => SqL K H a ys)
    (fun i H v H' => ∃ T c y, v = .ref T ∧ H T = none ∧ H' = upd H T (.tup [.str ⟨#[c]⟩, y]) ∧ x.cps[i]? = some c ∧ ys[i]? = some y) := by
  refine ⟨fun i H hi q => ⟨by omega, ys, ys[i]'(by omega), q, by simp [show i < ys.length by omega]⟩, fun H q => ⟨ys, q, by omega, by omega, by omega⟩, fun i H v H' hi q y => ?_⟩
  obtain ⟨T, c, y, h1, h2, h3, h4, h5⟩ := y
  exact ⟨T, c, y, h1, h2, h3, h4, h5 ys q⟩
theorem walk_es {x : Str} : Walk (Jes x) x.cps.size (fun _ => True) (fun i H v H' => ∃ T c, v = .ref T ∧ H T = none ∧ H' = upd H T (.tup [.int (i : Nat), .str ⟨#[c]⟩]) ∧ x.cps[i]? = some c) :=
  ⟨fun _ _ hi _ => hi, fun _ _ => rfl, fun _ _ _ _ _ _ y => y⟩
end Ms

/-! Own words for heaps and numbers that all laws share. -/
namespace Ms
open PySem PySem.Spec PyProof.Rows L2
/-- all that was tracked is as it was, but at a -/
def But (a : Addr) (H H' : Hp) : Prop := ∀ b o, b ≠ a → H b = some o → H' b = some o
theorem But.refl (a : Addr) (H : Hp) : But a H H := fun _ _ _ h => h
theorem But.trans {a : Addr} {H H1 H2 : Hp} (x : But a H H1) (y : But a H1 H2) : But a H H2 := fun b o n h => y b o n (x b o n h)
theorem But.upd {a : Addr} {H : Hp} {o : HO} : But a H (upd H a o) := fun b u n h => by rw [upd_ne n]; exact h
theorem Same.but {a : Addr} {H H' : Hp} (x : Same H H') : But a H H' := fun b o _ h => x b o h
theorem same_upd {H : Hp} {p : Addr} {o : HO} (h : H p = none) : Same H (upd H p o) := fun b x e => by
  rw [upd_ne (ne_of_none e h)]
  exact e
theorem But.free {a p : Addr} {H H' : Hp} (x : But a H H') (n : p ≠ a) (h : H' p = none) : H p = none := by
  cases e : H p with
  | none => rfl
  | some o => rw [x p o n e] at h; cases h
/-- the draws' list at a -/
def Src (H : Hp) (a : Addr) : Prop := ∃ x c n : Int, H a = some (.lst [.int x, .int c, .int n])
theorem Src.same {H H' : Hp} {a : Addr} (h : Src H a) (s : Same H H') : Src H' a := let ⟨x, c, n, e⟩ := h; ⟨x, c, n, s _ _ e⟩
theorem Src.ne {H : Hp} {a p : Addr} (h : Src H a) (n : H p = none) : a ≠ p := let ⟨_, _, _, e⟩ := h; ne_of_none e n
theorem fm (a : Int) {b : Int} (h : 0 < b) : 0 ≤ a.fmod b ∧ a.fmod b < b := by
  rw [Int.fmod_eq_emod_of_nonneg a (by omega)]
  exact ⟨Int.emod_nonneg a (by omega), Int.emod_lt_of_pos a h⟩
theorem ne0 {b : Int} (h : 0 < b) : b ≠ 0 := by omega
theorem fd (a : Int) {b : Int} (h : 0 < b) : a.fdiv b = a / b := Int.fdiv_eq_ediv_of_nonneg a (by omega)
theorem bnd0 (a : Int) {b : Int} (h : 0 < b) (h2 : b < 2 ^ 64) : -(2 ^ 64) < a.fmod b ∧ a.fmod b < 2 ^ 64 := by
  have := fm a h
  omega
theorem bnd1 (a : Int) {b : Int} (h : 0 < b) (h2 : b < 2 ^ 63) : -(2 ^ 64) < a.fmod b + 1 ∧ a.fmod b + 1 < 2 ^ 64 := by
  have := fm a h
  omega
/-- the cells that a law goes over -/
theorem cells (ns : List Int) (k : Int) : ∃ cs : List Int, cutV (ns.map V.int ++ [.int 0]) none (some k) = cs.map V.int := by
  refine ⟨((ns ++ [0]).drop (HT.sIx (ns ++ [0]).length 0 none)).take (HT.sIx (ns ++ [0]).length (ns ++ [0]).length (some k) - HT.sIx (ns ++ [0]).length 0 none), ?_⟩
  have e : ns.map V.int ++ [.int 0] = (ns ++ [0]).map V.int := by rw [List.map_append]; rfl
  rw [e]
  unfold cutV
  rw [List.length_map, List.map_take, List.map_drop]
theorem cell_at {cs : List Int} {i : Nat} {v : V} (h : (cs.map V.int)[i]? = some v) : ∃ c, v = .int c := by
  rw [List.getElem?_map] at h
  cases e : cs[i]? with
  | none => rw [e] at h; cases h
  | some c => rw [e] at h; exact ⟨c, (Option.some.inj h).symm⟩
/-! texts as lists of signs -/
abbrev sg (x : Str) : List Nat := x.cps.toList
def ofL (l : List Nat) : Str := ⟨l.toArray⟩
theorem ofL_sg (x : Str) : ofL (sg x) = x := rfl
theorem sg_ofL (l : List Nat) : sg (ofL l) = l := rfl
theorem sg_len (x : Str) : x.length = (sg x).length := by simp [sg, Str.length]
theorem ext_sg {x y : Str} (h : sg x = sg y) : x = y := Str.ext' (Array.toList_inj.mp h)
theorem ofL_len (l : List Nat) : (ofL l).length = l.length := by rw [sg_len, sg_ofL]
theorem sg_app (x y : Str) : sg (x ++ y) = sg x ++ sg y := by
  show (x ++ y).cps.toList = _
  rw [Str.cps_append, Array.toList_append]
theorem cps_get (x : Str) (i : Nat) : x.cps[i]? = (sg x)[i]? := by simp [sg]
theorem size_sg (x : Str) : x.cps.size = (sg x).length := by simp [sg]
theorem join_one : ∀ l : List Nat, Str.join (ofL []) (l.map fun c => ofL [c]) = ofL l
  | [] => rfl
  | [_] => rfl
  | a :: b :: r => by
    have ih := join_one (b :: r)
    refine ext_sg ?_
    show sg (ofL [a] ++ ofL [] ++ Str.join (ofL []) (ofL [b] :: r.map fun c => ofL [c])) = _
    rw [sg_app, sg_app, show Str.join (ofL []) (ofL [b] :: r.map fun c => ofL [c]) = ofL (b :: r) from ih]
    rfl
theorem txt_join (l : List Nat) : Txt.join (ofL []) (l.map fun c => ofL [c]) = ofL l := (TL.join_eq _ _).trans (join_one l)
theorem sum_one : ∀ l : List Nat, ((l.map fun c => ofL [c]).map (·.length)).sum = l.length
  | [] => rfl
  | _ :: r => by
    rw [List.map_cons, List.map_cons, List.sum_cons, sum_one r, List.length_cons, ofL_len, List.length_singleton]
    omega
theorem cut_to (x : Str) (n : Nat) : cutS x none (some (n : Int)) = ofL ((sg x).take n) := by
  refine ext_sg ?_
  show ((x.cps.toList.drop (HT.sIx x.length 0 none)).take (HT.sIx x.length x.length (some (n : Int)) - HT.sIx x.length 0 none)) = (sg x).take n
  rw [HT.sIx_none, HT.sIx_nat, List.drop_zero, Nat.sub_zero, sg_len, ← List.take_eq_take_min]
theorem cut_from (x : Str) (n : Nat) : cutS x (some (n : Int)) none = ofL ((sg x).drop n) := by
  refine ext_sg ?_
  show ((x.cps.toList.drop (HT.sIx x.length 0 (some (n : Int)))).take (HT.sIx x.length x.length none - HT.sIx x.length 0 (some (n : Int)))) = (sg x).drop n
  rw [HT.sIx_none, HT.sIx_nat, sg_len]
  by_cases h : n ≤ (sg x).length
  · rw [Nat.min_eq_left h, ← List.length_drop, List.take_length]
  · have e : (sg x).length ≤ n := by omega
    rw [Nat.min_eq_right e, Nat.sub_self, List.take_zero, List.drop_eq_nil_of_le e]
end Ms

namespace M
open PySem PySem.Spec PyProof.Rows L2 Ms

def topS (i : Nat) : Stmt := PySem.Challenge.pw_markseam_k02_the_common_start.main.body.getD i (.Pass ⟨0, 0, 0, 0⟩)
abbrev s_common_start : Stmt := topS 1
abbrev n_common_start : List Str := ["one", "other", "many", "sign", "said"]
theorem sc_common_start : FnScope n_common_start ["one", "other"] (defScope s_common_start) := ⟨rfl, rfl, rfl, by decide +kernel, rfl, by decide +kernel, by decide +kernel⟩
abbrev s_y_mixed : Stmt := topS 3
abbrev n_y_mixed : List Str := ["_law_cell", "_law_k", "_law_number"]
theorem sc_y_mixed : FnScope n_y_mixed ["_law_cell", "_law_k"] (defScope s_y_mixed) := ⟨rfl, rfl, rfl, by decide +kernel, rfl, by decide +kernel, by decide +kernel⟩
abbrev s_y_source : Stmt := topS 4
abbrev n_y_source : List Str := ["_law_cell"]
theorem sc_y_source : FnScope n_y_source ["_law_cell"] (defScope s_y_source) := ⟨rfl, rfl, rfl, by decide +kernel, rfl, by decide +kernel, by decide +kernel⟩
abbrev s_y_take : Stmt := topS 5
abbrev n_y_take : List Str := ["_law_source_here", "_law_many", "_law_found"]
theorem sc_y_take : FnScope n_y_take ["_law_source_here", "_law_many"] (defScope s_y_take) := ⟨rfl, rfl, rfl, by decide +kernel, rfl, by decide +kernel, by decide +kernel⟩
abbrev s_y_text : Stmt := topS 6
abbrev n_y_text : List Str := ["_law_source_here", "_law_signs", "_law_most", "_law_k"]
theorem sc_y_text : FnScope n_y_text ["_law_source_here", "_law_signs", "_law_most"] (defScope s_y_text) := ⟨rfl, rfl, rfl, by decide +kernel, rfl, by decide +kernel, by decide +kernel⟩
abbrev s_y_right : Stmt := topS 7
abbrev n_y_right : List Str := ["_law_one", "_law_other", "_law_found", "_law_many"]
theorem sc_y_right : FnScope n_y_right ["_law_one", "_law_other"] (defScope s_y_right) := ⟨rfl, rfl, rfl, by decide +kernel, rfl, by decide +kernel, by decide +kernel⟩
abbrev s_y_law : Stmt := topS 8
abbrev n_y_law : List Str := ["_law_script", "_law_cell", "_law_source_here", "_law_signs", "_law_way", "_law_begin", "_law_one", "_law_other"]
theorem sc_y_law : FnScope n_y_law ["_law_script"] (defScope s_y_law) := ⟨rfl, rfl, rfl, by decide +kernel, rfl, by decide +kernel, by decide +kernel⟩
structure Env (K : PySem.W.Frag) (mg : Str → Option Value) : Type where
  f_common_start : Addr
  d_common_start : FuncData
  F_common_start : Fun K "common_start" "common_start" s_common_start f_common_start d_common_start
  g_common_start : mg "common_start" = some (.ref f_common_start)
  b_common_start : Binds K d_common_start ["one", "other"] []
  f_y_mixed : Addr
  d_y_mixed : FuncData
  F_y_mixed : Fun K "_law_mixed" "_law_mixed" s_y_mixed f_y_mixed d_y_mixed
  g_y_mixed : mg "_law_mixed" = some (.ref f_y_mixed)
  b_y_mixed : Binds K d_y_mixed ["_law_cell", "_law_k"] []
  f_y_source : Addr
  d_y_source : FuncData
  F_y_source : Fun K "_law_source" "_law_source" s_y_source f_y_source d_y_source
  g_y_source : mg "_law_source" = some (.ref f_y_source)
  b_y_source : Binds K d_y_source ["_law_cell"] []
  f_y_take : Addr
  d_y_take : FuncData
  F_y_take : Fun K "_law_take" "_law_take" s_y_take f_y_take d_y_take
  g_y_take : mg "_law_take" = some (.ref f_y_take)
  b_y_take : Binds K d_y_take ["_law_source_here", "_law_many"] []
  f_y_text : Addr
  d_y_text : FuncData
  F_y_text : Fun K "_law_text" "_law_text" s_y_text f_y_text d_y_text
  g_y_text : mg "_law_text" = some (.ref f_y_text)
  b_y_text : Binds K d_y_text ["_law_source_here", "_law_signs", "_law_most"] []
  f_y_right : Addr
  d_y_right : FuncData
  F_y_right : Fun K "_law_right" "_law_right" s_y_right f_y_right d_y_right
  g_y_right : mg "_law_right" = some (.ref f_y_right)
  b_y_right : Binds K d_y_right ["_law_one", "_law_other"] []
  f_y_law : Addr
  d_y_law : FuncData
  F_y_law : Fun K "law" "law" s_y_law f_y_law d_y_law
  g_y_law : mg "law" = some (.ref f_y_law)
  b_y_law : Binds K d_y_law ["_law_script"] []
  z_isinstance : mg "isinstance" = none
  z_len : mg "len" = none
  z_range : mg "range" = none
  z_str : mg "str" = none
  z_zip : mg "zip" = none
variable {P : Program} {w : World} {K : PySem.W.Frag} {mg : Str → Option Value} {base : Heap}

/-! The draws. -/
def spMixed : Sp := fun vs H Q _ => ∃ c k : Int, vs = [.int c, .int k] ∧ ∀ r : Int, 0 ≤ r → r < 2147483646 → Q (.int r) H
theorem ok_mixed (T : Env K mg) : FnOk P w K mg base CX0 1 T.f_y_mixed T.d_y_mixed ["_law_cell", "_law_k"] spMixed := by
  refine T.F_y_mixed.ok sc_y_mixed (fun vs H Q E h => ?_) (fun cdv A outer s H vs Q E hr h => ?_)
  · obtain ⟨c, k, rfl, _⟩ := h
    rfl
  · obtain ⟨c, k, rfl, q⟩ := h
    have nd := sc_y_mixed.nd
    refine ⟨_, pss_cons (ps_set (i := 2) nd rfl (.inl rfl) (pe_op op_modN (pe_op op_mul (pe_op op_add (pe_op op_modN (pv 0) pe_int) pe_int) (pe_op op_add (pe_op op_mul (pv 1) pe_int) pe_int)) pe_int))
      (pss_cons (ps_set (i := 2) nd rfl (.inl rfl) (pe_op op_modN (pe_op op_mul (pe_op op_add (pv 2) (pe_op op_mul (pe_op op_modN (pe_op op_fdivW (pv 0) pe_int) pe_int) (pe_op op_add (pv 1) pe_int))) pe_int) pe_int))
      (pss_cons (ps_set (i := 2) nd rfl (.inl rfl) (pe_op op_modN (pe_op op_mul (pv 2) (pe_op op_add (pe_op op_add (pe_op op_fdivN (pv 2) pe_int) pe_int) (pv 1))) pe_int))
      (pss_one (ps_ret (pe_op op_modN (pe_op op_mul (pv 2) (pe_op op_add (pe_op op_fdivN (pv 2) pe_int) pe_int)) pe_int))))), ?_⟩
    refine ⟨_, rfl, _, _, rfl, rfl, (by show (_ : Int) ≠ 0; decide), _, _, rfl, rfl, _, rfl, _, _, rfl, rfl, .inr ⟨by decide, by decide⟩, _, _, rfl, rfl, _, _, rfl, rfl, .inl ?b1, _, _, rfl, rfl, (by show (_ : Int) ≠ 0; decide), ?_⟩
    case b1 =>
      refine bnd1 c ?_ ?_ <;> decide
    refine ⟨_, rfl, _, rfl, _, _, rfl, rfl, ⟨by decide, by decide⟩, _, _, rfl, rfl, (by show (_ : Int) ≠ 0; decide), _, rfl, _, _, rfl, rfl, _, _, rfl, rfl, .inl ?b2, _, _, rfl, rfl, _, _, rfl, rfl, .inr ⟨by decide, by decide⟩, _, _, rfl, rfl, (by show (_ : Int) ≠ 0; decide), ?_⟩
    case b2 =>
      refine bnd0 _ ?_ ?_ <;> decide
    refine ⟨_, rfl, _, rfl, _, _, rfl, rfl, ⟨by decide, by decide⟩, _, _, rfl, rfl, _, rfl, _, _, rfl, rfl, _, _, rfl, rfl, .inl ?b3, _, _, rfl, rfl, (by show (_ : Int) ≠ 0; decide), ?_⟩
    case b3 =>
      refine bnd0 _ ?_ ?_ <;> decide
    refine ⟨_, rfl, _, rfl, _, _, rfl, rfl, ⟨by decide, by decide⟩, _, _, rfl, rfl, _, _, rfl, rfl, .inl ?b4, _, _, rfl, rfl, (by show (_ : Int) ≠ 0; decide), ?_⟩
    case b4 =>
      refine bnd0 _ ?_ ?_ <;> decide
    refine q _ (fm _ (by decide)).1 (Int.lt_of_lt_of_le (fm _ (by decide)).2 (by decide))
def spSource : Sp := fun vs H Q _ => ∃ c : Int, vs = [.int c] ∧ ∀ p, H p = none → ∀ H', Same H H' → Src H' p → Q (.ref p) H'
theorem ok_source (T : Env K mg) : FnOk P w K mg base CX0 1 T.f_y_source T.d_y_source ["_law_cell"] spSource := by
  refine T.F_y_source.ok sc_y_source (fun vs H Q E h => ?_) (fun cdv A outer s H vs Q E hr h => ?_)
  · obtain ⟨c, rfl, _⟩ := h
    rfl
  · obtain ⟨c, rfl, q⟩ := h
    refine ⟨_, pss_one (ps_ret (pe_lst (pa_cons (pv 0) (pa_cons (pv 0) (pa_cons pe_int pa_nil))))), ?_⟩
    refine ⟨_, rfl, _, rfl, by show 3 ≤ sizeLine; decide, fun p hp => ?_⟩
    exact q p hp _ (same_upd hp) ⟨_, _, _, upd_same⟩
def spTake : Sp := fun vs H Q _ => ∃ (a : Addr) (m : Int), vs = [.ref a, .int m] ∧ Src H a ∧ 0 < m ∧ m < 1073741824 ∧ ∀ (r : Int) H', 0 ≤ r → r < m → Src H' a → But a H H' → Q (.int r) H'
theorem ok_take (T : Env K mg) : FnOk P w K mg base CX0 2 T.f_y_take T.d_y_take ["_law_source_here", "_law_many"] spTake := by
  refine T.F_y_take.ok sc_y_take (fun vs H Q E h => ?_) (fun cdv A outer s H vs Q E hr h => ?_)
  · obtain ⟨a, m, rfl, _⟩ := h
    rfl
  · obtain ⟨a, m, rfl, ⟨x, c, n, ha⟩, m0, m1, q⟩ := h
    have nd := sc_y_take.nd
    have mz : m ≠ 0 := by omega
    refine ⟨_, pss_cons (ps_if (pt_cmpR op_ge (pe_ix ix_list (pv 0) pe_int (fun _ _ => rfl)) (pe_op op_pow pe_int pe_int) (nomark _))
        (pss_cons (ps_set (i := 2) nd rfl (.inl rfl) (pe_op op_modN (pe_ix ix_list (pv 0) pe_int (fun _ _ => rfl)) (pv 1)))
          (pss_cons (ps_asg (pe_op op_fdivN (pe_ix ix_list (pv 0) pe_int (fun _ _ => rfl)) (pv 1)) (pg_sub (pv 0) pe_int set_list)) (pss_one (ps_ret (pv 2))))) pss_nil)
      (pss_cons (ps_asg (pe_op op_add (pe_ix ix_list (pv 0) pe_int (fun _ _ => rfl)) pe_int) (pg_sub (pv 0) pe_int set_list))
      (pss_one (ps_ret (pe_op op_modN (pe_call (ok_mixed T) hr (by rfl) T.g_y_mixed T.F_y_mixed.kp T.b_y_mixed .nil pass0 (pa_cons (pe_ix ix_list (pv 0) pe_int (fun _ _ => rfl)) (pa_cons (pe_ix ix_list (pv 0) pe_int (fun _ _ => rfl)) pa_nil))) (pv 1))))), ?_⟩
    refine ⟨_, rfl, a, _, _, _, rfl, rfl, SqL.of ha, atI_nat (j := 0) rfl, _, _, rfl, rfl, ⟨by decide, by decide, by decide⟩, _, _, rfl, rfl, _, rfl, ite2 (fun _ => ?_) (fun _ => ?_)⟩
    · refine ⟨_, rfl, a, _, _, _, rfl, rfl, SqL.of ha, atI_nat (j := 0) rfl, _, rfl, _, _, rfl, rfl, mz, ?_⟩
      refine ⟨_, rfl, a, _, _, _, rfl, rfl, SqL.of ha, atI_nat (j := 0) rfl, _, rfl, _, _, rfl, rfl, ⟨mz, by omega⟩, _, rfl, a, _, _, 0, rfl, rfl, ha, rfl, ?_⟩
      refine ⟨_, rfl, ?_⟩
      exact q _ _ (fm _ m0).1 (fm _ m0).2 ⟨_, _, _, upd_same⟩ But.upd
    · refine ⟨_, rfl, a, _, _, _, rfl, rfl, SqL.of ha, atI_nat (j := 2) rfl, _, _, rfl, rfl, _, rfl, a, _, _, 2, rfl, rfl, ha, rfl, ?_⟩
      refine ⟨_, rfl, a, _, _, _, rfl, rfl, SqL.of upd_same, atI_nat (j := 1) rfl, _, rfl, a, _, _, _, rfl, rfl, SqL.of upd_same, atI_nat (j := 2) rfl, ?_⟩
      refine ⟨_, _, rfl, fun r _ _ => ⟨_, rfl, _, _, rfl, rfl, mz, ?_⟩⟩
      exact q _ _ (fm _ m0).1 (fm _ m0).2 ⟨_, _, _, upd_same⟩ But.upd

/-! texts of drawn signs -/
def spText : Sp := fun vs H Q _ => ∃ (a : Addr) (z : List Nat) (m : Int), vs = [.ref a, .str (ofL z), .int m] ∧ Src H a ∧ 0 < z.length ∧ z.length ≤ 1000 ∧ 0 ≤ m ∧ m ≤ 1000 ∧
  ∀ (l : List Nat) H', (l.length : Int) ≤ m → (∀ c ∈ l, c ∈ z) → Src H' a → But a H H' → Q (.str (ofL l)) H'
theorem ok_text (T : Env K mg) : FnOk P w K mg base CX0 3 T.f_y_text T.d_y_text ["_law_source_here", "_law_signs", "_law_most"] spText := by
  refine T.F_y_text.ok sc_y_text (fun vs H Q E h => ?_) (fun cdv A outer s H vs Q E hr h => ?_)
  · obtain ⟨a, z, m, rfl, _⟩ := h
    rfl
  · obtain ⟨a, z, m, rfl, hS, z0, z1, m0, m1, q⟩ := h
    have nd := sc_y_text.nd
    refine ⟨_, pss_one (ps_ret (pe_join pe_str (pe_lc (own := [("_law_k", 3)]) (g := gName 3) (tt := tYes) (by rfl) nd
      (pi_range1 rfl T.z_range (pa_cons (pe_call (ok_take T) hr (by rfl) T.g_y_take T.F_y_take.kp T.b_y_take .nil pass0 (pa_cons (pv 0) (pa_cons (pe_op op_add (pv 2) pe_int) pa_nil))) pa_nil))
      (blkOk_by (own := [("_law_k", 3)]) (N := n_y_text) (sc := defScope s_y_text) (by decide +kernel)) (fun _ _ _ _ _ => pg_name (i := 3) nd rfl (Or.inl rfl)) (fun _ _ _ _ _ => pts_nil)
      (fun _ _ _ _ _ => pe_item_str (pv 1) (pe_call (ok_take T) hr (by rfl) T.g_y_take T.F_y_take.kp T.b_y_take .nil pass0 (pa_cons (pv 0) (pa_cons (pe_callB call_len_str (by rfl) T.z_len PySem.boot_len (pa_cons (pv 1) pa_nil)) pa_nil))) (fun _ _ => rfl))))), ?_⟩
    refine ⟨⟨_, rfl⟩, _, rfl, _, rfl, _, _, rfl, rfl, a, _, rfl, hS, by omega, by omega, fun r H1 r0 r1 hS1 b1 => ?_⟩
    refine ⟨r, rfl, by omega, by omega, fun D hD => ?_⟩
    have naD : a ≠ D := hS1.ne hD
    refine lc_range (lo := 0) (n := r.toNat) (fun i H' => ∃ l : List Nat, l.length = i ∧ (∀ c ∈ l, c ∈ z) ∧ H' D = some (.lst (l.map fun c => V.str (ofL [c]))) ∧ Src H' a ∧ ∀ b o, b ≠ a → b ≠ D → H1 b = some o → H' b = some o)
      ⟨[], rfl, fun _ h => (nomatch h), upd_same, hS1.same (same_upd hD), fun b o _ n e => by rw [upd_ne n]; exact e⟩ (fun i H2 hi hP => ?_) (fun H2 hP => ?_)
    · obtain ⟨l, el, hl, hd, hS2, k2⟩ := hP
      refine ⟨rfl, ?_⟩
      refine ⟨_, rfl, _, rfl, _, rfl, _, rfl, by rw [ofL_len, sizeLine_eq]; omega, a, _, rfl, hS2, by rw [ofL_len]; omega, by rw [ofL_len]; omega, fun r' H3 q0 q1 hS3 b3 => ?_⟩
      rw [ofL_len] at q1
      have hr' : r'.toNat < z.length := by omega
      refine ⟨ofL z, r', z[r'.toNat], rfl, rfl, q0, by omega, by rw [ofL_len]; exact q1, ?_, _, b3 D _ (Ne.symm naD) hd, by rw [List.length_map, sizeLine_eq]; omega, l ++ [z[r'.toNat]], ?_, ?_, ?_, ?_, ?_⟩
      · rw [cps_get, sg_ofL, List.getElem?_eq_getElem hr']
      · rw [List.length_append, el]; rfl
      · intro c hc
        rcases List.mem_append.mp hc with hc | hc
        · exact hl c hc
        · rw [List.mem_singleton.mp hc]; exact List.getElem_mem _
      · rw [upd_same, List.map_append]; rfl
      · obtain ⟨x, c, n, e⟩ := hS3
        exact ⟨x, c, n, by rw [upd_ne naD]; exact e⟩
      · intro b o n1 n2 e
        rw [upd_ne n2]
        exact b3 b o n1 (k2 b o n1 n2 e)
    · obtain ⟨l, el, hl, hd, hS2, k2⟩ := hP
      refine ⟨ofL [], D, l.map fun c => ofL [c], rfl, rfl, .inl (SqL.of (by rw [hd, List.map_map]; rfl)), ?_, ?_⟩
      · rw [sum_one]
        show l.length + _ * 0 ≤ _
        omega
      · show Q (.str (Txt.join (ofL []) (l.map fun c => ofL [c]))) H2
        rw [txt_join]
        refine q l H2 (by omega) hl hS2 (fun b o n e => ?_)
        have n2 : b ≠ D := ne_of_none (b1 b o n e) hD
        exact k2 b o n n2 (b1 b o n e)

/-! the common start -/
/-- n signs are the common start of x and y -/
def Com (x y : List Nat) (n : Nat) : Prop := n ≤ x.length ∧ n ≤ y.length ∧ x.take n = y.take n ∧ ∀ c d, x[n]? = some c → y[n]? = some d → c ≠ d
theorem Com.symm {x y : List Nat} {n : Nat} (h : Com x y n) : Com y x n := ⟨h.2.1, h.1, h.2.2.1.symm, fun c d a b e => h.2.2.2 d c b a e.symm⟩
theorem take_get {x y : List Nat} {n m : Nat} (h : x.take n = y.take n) (hm : m < n) : x[m]? = y[m]? := by
  have e : (x.take n)[m]? = (y.take n)[m]? := by rw [h]
  rwa [List.getElem?_take_of_lt hm, List.getElem?_take_of_lt hm] at e
theorem Com.le {x y : List Nat} {n m : Nat} (h : Com x y n) (k : Com x y m) : m ≤ n := by
  refine Nat.le_of_not_lt fun q => ?_
  have hx : n < x.length := Nat.lt_of_lt_of_le q k.1
  have e := take_get k.2.2.1 q
  have ex : x[n]? = some x[n] := List.getElem?_eq_getElem hx
  exact h.2.2.2 _ _ ex (e.symm.trans ex) rfl
theorem Com.uniq {x y : List Nat} {n m : Nat} (h : Com x y n) (k : Com x y m) : n = m := Nat.le_antisymm (k.le h) (h.le k)
def spCommon : Sp := fun vs H Q _ => ∃ x y : List Nat, vs = [.str (ofL x), .str (ofL y)] ∧ x.length ≤ 1000 ∧ y.length ≤ 1000 ∧ ∀ n H', Com x y n → Same H H' → Q (.str (ofL (x.take n))) H'
theorem ok_common (T : Env K mg) : FnOk P w K mg base CX0 1 T.f_common_start T.d_common_start ["one", "other"] spCommon := by
  refine T.F_common_start.ok sc_common_start (fun vs H Q E h => ?_) (fun cdv A outer s H vs Q E hr h => ?_)
  · obtain ⟨x, y, rfl, _⟩ := h
    rfl
  · obtain ⟨x, y, rfl, lx, ly, q⟩ := h
    have nd := sc_common_start.nd
    refine ⟨_, pss_cons (ps_set (i := 2) nd rfl (.inl rfl) pe_int)
      (pss_cons (ps_for PassesOwn.never rfl (pi_zs (by rfl) T.z_zip (pa_cons (pv 0) (pa_cons (pv 1) pa_nil))) (pg_tup rfl (pgs_cons (pg_name (i := 3) nd rfl (.inl rfl)) (pgs_cons (pg_name (i := 4) nd rfl (.inl rfl)) pgs_nil)))
        (pss_cons (ps_if (pt_cmpR op_ne (pv 3) (pv 4) (nomark _)) (pss_one ps_break) pss_nil) (pss_one (ps_aug (i := 2) nd rfl (.inl rfl) pe_int ip_add))))
      (pss_one (ps_ret (pe_slice sl_str (pv 0) po_none (po_some (pv 2)))))), ?_⟩
    refine ⟨_, rfl, _, rfl, ofL x, _, rfl, .inl ⟨_, rfl, ?_⟩⟩
    -- what follows the loop, from a place
    have fin : ∀ (n : Nat) (u v : Option V) H', Com x y n → Same H H' → (tRet (tSl rSlS (tVar 0) (fun σ H Q => Q none H) (fun σ H Q => tVar 2 σ H fun v H1 => ∃ i, v = .int i ∧ Q (some i) H1))) { nx := fun _ H' => Q .non H', rt := Q } [some (.str (ofL x)), some (.str (ofL y)), some (.int (n : Int)), u, v] H' := fun n u v H' hc hs => by
      refine ⟨_, rfl, _, rfl, _, rfl, ofL x, rfl, by rw [ofL_len, sizeLine_eq]; omega, ?_⟩
      rw [cut_to, sg_ofL]
      exact q n H' hc hs
    refine for_it walk_ss (fun i σ H' => ∃ u v, σ = [some (.str (ofL x)), some (.str (ofL y)), some (.int (i : Int)), u, v] ∧ Same H H' ∧ x.take i = y.take i) ⟨none, none, rfl, Same.refl _, rfl⟩ (fun _ _ _ _ _ => trivial) ?_ ?_
    · rintro i v σ H1 H2 hi ⟨u, v', rfl, hs, et⟩ ⟨t, c, d, rfl, ht, rfl, ec, ed⟩
      rw [cps_get, sg_ofL] at ec ed
      have hs2 := hs.trans (same_upd ht (o := .tup [.str ⟨#[c]⟩, .str ⟨#[d]⟩]))
      refine ⟨t, _, rfl, SqT.of upd_same, rfl, _, _, rfl, _, _, rfl, rfl, ?_⟩
      refine ⟨_, rfl, _, rfl, rfl, _, rfl, ?_⟩
      have hx : i < x.length := (List.getElem?_eq_some_iff.mp ec).1
      have hy : i < y.length := (List.getElem?_eq_some_iff.mp ed).1
      by_cases e : c = d
      · subst e
        rw [decide_eq_true rfl]
        refine iteF ?_
        refine ⟨_, rfl, _, _, rfl, rfl, _, _, rfl, hs2, ?_⟩
        rw [List.take_add_one, List.take_add_one, et, ec, ed]
      · have hne : (V.str ⟨#[c]⟩ : V) ≠ V.str ⟨#[d]⟩ := fun h => e (by simpa using h)
        rw [decide_eq_false hne]
        refine iteT ?_
        exact fin i _ _ _ ⟨Nat.le_of_lt hx, Nat.le_of_lt hy, et, fun c' d' a b z => e (by rw [ec] at a; rw [ed] at b; cases a; cases b; exact z)⟩ hs2
    · rintro σ H1 ⟨u, v, rfl, hs, et⟩
      rw [size_sg, size_sg, sg_ofL, sg_ofL] at et ⊢
      refine fin _ _ _ _ ⟨Nat.min_le_left _ _, Nat.min_le_right _ _, et, fun c d a b => ?_⟩ hs
      have h1 := (List.getElem?_eq_some_iff.mp a).1
      have h2 := (List.getElem?_eq_some_iff.mp b).1
      omega

/-! what the law looks at -/
def spRight : Sp := fun vs H Q _ => ∃ x y : List Nat, vs = [.str (ofL x), .str (ofL y)] ∧ x.length ≤ 1000 ∧ y.length ≤ 1000 ∧ ∀ H', Same H H' → Q (.bl true) H'
theorem ofL_inj {x y : List Nat} (h : ofL x = ofL y) : x = y := by
  have e := congrArg sg h
  rwa [sg_ofL, sg_ofL] at e
theorem ok_right (T : Env K mg) : FnOk P w K mg base CX0 2 T.f_y_right T.d_y_right ["_law_one", "_law_other"] spRight := by
  refine T.F_y_right.ok sc_y_right (fun vs H Q E h => ?_) (fun cdv A outer s H vs Q E hr h => ?_)
  · obtain ⟨x, y, rfl, _⟩ := h
    rfl
  · obtain ⟨x, y, rfl, lx, ly, q⟩ := h
    have nd := sc_y_right.nd
    refine ⟨_, pss_cons (ps_set (i := 2) nd rfl (.inl rfl) (pe_call (ok_common T) hr (by rfl) T.g_common_start T.F_common_start.kp T.b_common_start .nil pass0 (pa_cons (pv 0) (pa_cons (pv 1) pa_nil))))
      (pss_cons (ps_if (pt_not (pt_val (pe_callB call_isi (by rfl) T.z_isinstance boot_isinstance (pa_cons (pv 2) (pa_cons (pe_bltn (v := .ty "str") (by rfl) T.z_str PyProof.Rows.boot_str rfl) pa_nil))))) (pss_one (ps_ret pe_bl)) pss_nil)
      (pss_cons (ps_set (i := 3) nd rfl (.inl rfl) (pe_callB call_len_str (by rfl) T.z_len PySem.boot_len (pa_cons (pv 2) pa_nil)))
      (pss_cons (ps_if (PW.pt (pw_or (pt_cmpR op_ne (pe_slice sl_str (pv 0) po_none (po_some (pv 3))) (pv 2) (nomark _)) (pw_or1 (pt_cmpR op_ne (pe_slice sl_str (pv 1) po_none (po_some (pv 3))) (pv 2) (nomark _))))) (pss_one (ps_ret pe_bl)) pss_nil)
      (pss_cons (ps_if (PW.pt (pw_and (pt_cmpR op_lt (pv 3) (pe_callB call_len_str (by rfl) T.z_len PySem.boot_len (pa_cons (pv 0) pa_nil)) (nomark _)) (pw_and (pt_cmpR op_lt (pv 3) (pe_callB call_len_str (by rfl) T.z_len PySem.boot_len (pa_cons (pv 1) pa_nil)) (nomark _))
          (pw_and1 (pt_cmpR op_eq (pe_item_str (pv 0) (pv 3) (fun _ _ => rfl)) (pe_item_str (pv 1) (pv 3) (fun _ _ => rfl)) (nomark _)))))) (pss_one (ps_ret pe_bl)) pss_nil)
      (pss_one (ps_ret (pe_and (pe_cmpR op_eq (pe_call (ok_common T) hr (by rfl) T.g_common_start T.F_common_start.kp T.b_common_start .nil pass0 (pa_cons (pv 1) (pa_cons (pv 0) pa_nil))) (pv 2) (nomark _))
        (pe_one (pe_cmpR op_eq (pe_call (ok_common T) hr (by rfl) T.g_common_start T.F_common_start.kp T.b_common_start .nil pass0 (pa_cons (pv 0) (pa_cons (pv 0) pa_nil))) (pv 0) (nomark _)))))))))), ?_⟩
    refine ⟨_, rfl, _, rfl, x, y, rfl, lx, ly, fun n H1 hc s1 => ?_⟩
    have ln : (x.take n).length = n := by rw [List.length_take]; exact Nat.min_eq_left hc.1
    refine ⟨_, rfl, _, _, _, _, _, rfl, .ty "str", .base (.str _), rfl, true, rfl, ?_⟩
    refine ⟨_, rfl, _, rfl, by rw [ofL_len, ln, sizeLine_eq]; have := hc.1; omega, ?_⟩
    rw [ofL_len, ln]
    refine ⟨_, rfl, _, rfl, _, rfl, ofL x, rfl, by rw [ofL_len, sizeLine_eq]; omega, _, rfl, rfl, _, rfl, ?_⟩
    rw [cut_to, sg_ofL, decide_eq_true rfl]
    refine iteF ?_
    refine ⟨_, rfl, _, rfl, _, rfl, ofL y, rfl, by rw [ofL_len, sizeLine_eq]; omega, _, rfl, rfl, _, rfl, ?_⟩
    rw [cut_to, sg_ofL, ← hc.2.2.1, decide_eq_true rfl]
    refine iteF ?_
    have rest : (tRet (tAndV (tOp rEq (tCall spCommon [] E0 (tCons (tVar 1) (tCons (tVar 0) tNil))) (tVar 2)) (tOp rEq (tCall spCommon [] E0 (tCons (tVar 0) (tCons (tVar 0) tNil))) (tVar 0)))) { nx := fun _ H' => Q .non H', rt := Q } [some (.str (ofL x)), some (.str (ofL y)), some (.str (ofL (x.take n))), some (.int (n : Int))] H1 := by
      refine ⟨_, rfl, _, rfl, y, x, rfl, ly, lx, fun n2 H2 h2 s2 => ⟨_, rfl, rfl, true, ?_, ?_⟩⟩
      · rw [hc.symm.uniq h2, h2.2.2.1, decide_eq_true rfl]
      · refine iteT ?_
        refine ⟨_, rfl, _, rfl, x, x, rfl, lx, lx, fun n3 H3 h3 s3 => ⟨_, rfl, rfl, ?_⟩⟩
        have e3 : n3 = x.length := h3.uniq ⟨Nat.le_refl _, Nat.le_refl _, rfl, fun c d a _ => absurd (List.getElem?_eq_some_iff.mp a).1 (Nat.lt_irrefl _)⟩
        rw [e3, List.take_length, decide_eq_true rfl]
        exact q H3 ((s1.trans s2).trans s3)
    refine ⟨_, rfl, _, rfl, _, rfl, by rw [ofL_len, sizeLine_eq]; omega, _, _, rfl, rfl, _, rfl, ?_⟩
    rw [ofL_len]
    refine ite2 (fun e1 => ?_) (fun _ => iteF rest)
    refine ⟨_, rfl, _, rfl, _, rfl, by rw [ofL_len, sizeLine_eq]; omega, _, _, rfl, rfl, _, rfl, ?_⟩
    rw [ofL_len]
    refine ite2 (fun e2 => ?_) (fun _ => iteF rest)
    have g1 : n < x.length := by have := of_decide_eq_true e1; omega
    have g2 : n < y.length := by have := of_decide_eq_true e2; omega
    have a1 : (sg (ofL x))[n]? = some x[n] := List.getElem?_eq_getElem g1
    have a2 : (sg (ofL y))[n]? = some y[n] := List.getElem?_eq_getElem g2
    refine ⟨_, rfl, _, rfl, ofL x, n, x[n], rfl, rfl, by omega, by omega, by rw [ofL_len]; omega, by rw [cps_get]; exact a1, ?_⟩
    refine ⟨_, rfl, _, rfl, ofL y, n, y[n], rfl, rfl, by omega, by omega, by rw [ofL_len]; omega, by rw [cps_get]; exact a2, rfl, _, rfl, ?_⟩
    have hne : (V.str ⟨#[x[n]]⟩ : V) ≠ V.str ⟨#[y[n]]⟩ := fun h => hc.2.2.2 _ _ a1 a2 (by simpa using h)
    rw [decide_eq_false hne]
    exact iteF rest

/-! the law -/
abbrev LCX : CXT := CX0
abbrev lvl : Nat := 4
theorem lcx0 {H : Hp} {s : Shared} {e : Value} {s' : Shared} (h : LCX [] H s (fun _ _ _ => False) e s') : False := h
def spLaw (K : PySem.W.Frag) : Sp := fun vs H Q _ => ∃ (a : Addr) (ns : List Int), vs = [.ref a] ∧ SqL K H a (ns.map V.int) ∧ ns.length ≤ 63 ∧ ∀ H', Q (.bl true) H'
theorem both : ∀ (r : Int), 0 ≤ r → r < 2 → ∃ z : List Nat, 0 < z.length ∧ z.length ≤ 1000 ∧ atI [V.str (Str.ofString "ABCDEFGHIJKLMNOPQRSTUVWXYZabcdefghijklmnopqrstuvwxyz"), V.str (Str.ofString "kQ")] r = some (.str (ofL z)) := by
  intro r h0 h1
  have h : r = ((0 : Nat) : Int) ∨ r = ((1 : Nat) : Int) := by omega
  rcases h with rfl | rfl
  · exact ⟨sg (Str.ofString "ABCDEFGHIJKLMNOPQRSTUVWXYZabcdefghijklmnopqrstuvwxyz"), by decide +kernel, by decide +kernel, atI_nat (j := 0) rfl⟩
  · exact ⟨sg (Str.ofString "kQ"), by decide +kernel, by decide +kernel, atI_nat (j := 1) rfl⟩
theorem S_app (x y : List Nat) : ofL x ++ ofL y = ofL (x ++ y) := ext_sg (sg_app _ _)
/-- between the ways: two short texts -/
def Mid (H0 : Hp) (a s : Addr) (z b : List Nat) (way : Int) (σ : L2.St) (H : Hp) : Prop :=
  ∃ (c : V) (x y : List Nat), σ = [some (.ref a), some c, some (.ref s), some (.str (ofL z)), some (.int way), some (.str (ofL b)), some (.str (ofL x)), some (.str (ofL y))] ∧ x.length ≤ 100 ∧ y.length ≤ 100 ∧ Same H0 H
theorem ok_law (T : Env K mg) : FnOk P w K mg base LCX lvl T.f_y_law T.d_y_law ["_law_script"] (spLaw K) := by
  refine T.F_y_law.ok sc_y_law (fun vs H Q E h => ?_) (fun cdv A outer s H vs Q E hr h => ?_)
  · obtain ⟨a, ns, rfl, _⟩ := h
    rfl
  · obtain ⟨a, ns, rfl, hS, hlen, q⟩ := h
    have nd := sc_y_law.nd
    refine ⟨_, pss_cons (ps_for PassesOwn.never rfl (pi_list (pe_slice sl_list (pe_op op_catS (pv 0) (pe_lst (pa_cons pe_int pa_nil))) po_none (po_some pe_int))) (pg_name (i := 1) nd rfl (.inl rfl)) (
        pss_cons (ps_set (i := 2) nd rfl (.inl rfl) (pe_call (ok_source T) (hr.mono (by decide)) (by rfl) T.g_y_source T.F_y_source.kp T.b_y_source .nil pass0 (pa_cons (pv 1) pa_nil))) <|
        pss_cons (ps_set (i := 3) nd rfl (.inl rfl) (pe_ix ix_list (pe_lst (pa_cons pe_str (pa_cons pe_str pa_nil))) (pe_call (ok_take T) (hr.mono (by decide)) (by rfl) T.g_y_take T.F_y_take.kp T.b_y_take .nil pass0 (pa_cons (pv 2) (pa_cons pe_int pa_nil))) (fun _ _ => rfl))) <|
        pss_cons (ps_set (i := 4) nd rfl (.inl rfl) (pe_call (ok_take T) (hr.mono (by decide)) (by rfl) T.g_y_take T.F_y_take.kp T.b_y_take .nil pass0 (pa_cons (pv 2) (pa_cons pe_int pa_nil)))) <|
        pss_cons (ps_set (i := 5) nd rfl (.inl rfl) (pe_call (ok_text T) (hr.mono (by decide)) (by rfl) T.g_y_text T.F_y_text.kp T.b_y_text .nil pass0 (pa_cons (pv 2) (pa_cons (pv 3) (pa_cons pe_int pa_nil))))) <|
        pss_cons (ps_set (i := 6) nd rfl (.inl rfl) (pe_op op_add_str (pv 5) (pe_call (ok_text T) (hr.mono (by decide)) (by rfl) T.g_y_text T.F_y_text.kp T.b_y_text .nil pass0 (pa_cons (pv 2) (pa_cons (pv 3) (pa_cons pe_int pa_nil)))))) <|
        C8.pss_cut (ps_set (i := 7) nd rfl (.inl rfl) (pe_op op_add_str (pv 5) (pe_call (ok_text T) (hr.mono (by decide)) (by rfl) T.g_y_text T.F_y_text.kp T.b_y_text .nil pass0 (pa_cons (pv 2) (pa_cons (pv 3) (pa_cons pe_int pa_nil)))))) <|
        C8.pss_cut (ps_if (pt_cmpR op_eq (pv 4) pe_int (nomark _)) (pss_one (ps_set (i := 7) nd rfl (.inl rfl) (pv 5))) pss_nil) <|
        C8.pss_cut (ps_if (pt_cmpR op_eq (pv 4) pe_int (nomark _)) (pss_one (ps_set (i := 7) nd rfl (.inl rfl) (pv 6))) pss_nil) <|
        C8.pss_cut (ps_if (pt_cmpR op_eq (pv 4) pe_int (nomark _)) (pss_one (ps_set (i := 6) nd rfl (.inl rfl) pe_str)) pss_nil) <|
        pss_one (ps_if (PW.pt (
            pw_or (pt_not (pt_val (pe_call (ok_right T) (hr.mono (by decide)) (by rfl) T.g_y_right T.F_y_right.kp T.b_y_right .nil pass0 (pa_cons (pv 6) (pa_cons (pv 7) pa_nil))))) <|
            pw_or (pt_not (pt_val (pe_call (ok_right T) (hr.mono (by decide)) (by rfl) T.g_y_right T.F_y_right.kp T.b_y_right .nil pass0 (pa_cons (pe_op op_add_str (pv 6) (pv 7)) (pa_cons (pv 6) pa_nil))))) <|
            pw_or1 (pt_not (pt_val (pe_call (ok_right T) (hr.mono (by decide)) (by rfl) T.g_y_right T.F_y_right.kp T.b_y_right .nil pass0 (pa_cons (pe_op op_add_str (pv 6) pe_str) (pa_cons (pe_op op_add_str (pv 6) pe_str) pa_nil)))))))
          (pss_one (ps_ret pe_bl)) pss_nil))) <|
      pss_one (ps_ret pe_bl), ?_⟩
    refine ⟨_, rfl, by show 1 ≤ sizeLine; decide, fun l hl => ?_⟩
    have s1 := same_upd (H := H) (o := .lst [.int 0]) hl
    refine ⟨a, l, _, _, rfl, rfl, s1.seq hS, SqL.of upd_same, ?_, fun p hp => ?_⟩
    · rw [List.length_map, sizeLine_eq]
      show ns.length + 1 ≤ _
      omega
    have s2 := s1.trans (same_upd (o := .lst (ns.map V.int ++ [.int 0])) hp)
    refine ⟨_, rfl, p, _, rfl, SqL.of upd_same, fun p2 hp2 => ?_⟩
    obtain ⟨cs, ec⟩ := cells ns 3
    rw [ec]
    refine ⟨p2, rfl, ⟨_, SqL.of upd_same⟩, ?_⟩
    generalize hH1 : upd (upd (upd H l (.lst [.int 0])) p (.lst (ns.map V.int ++ [.int 0]))) p2 (.lst (cs.map V.int)) = H1
    have hp1 : H1 p2 = some (.lst (cs.map V.int)) := by rw [← hH1, upd_same]
    refine for_list (xs := cs.map V.int) (fun i σ H' => ∃ y1 y2 y3 y4 y5 y6 y7, σ = [some (.ref a), y1, y2, y3, y4, y5, y6, y7] ∧ Same H1 H') ⟨_, _, _, _, _, _, _, rfl, Same.refl _⟩ (fun i σ H' _ ⟨_, _, _, _, _, _, _, _, hs⟩ => SqL.of (hs _ _ hp1)) ?_ (fun σ H' ⟨_, _, _, _, _, _, _, e, hs⟩ => q _)
    rintro i v σ H2 hi ⟨y1, y2, y3, y4, y5, y6, y7, rfl, hs⟩
    obtain ⟨c, rfl⟩ := cell_at hi
    -- the draws' list
    refine ⟨_, rfl, c, rfl, fun s hs0 H3 hs3 src3 => ?_⟩
    have keep : ∀ {H' : Hp}, But s H3 H' → Same H1 H' := fun {H'} b x o e => b x o (ne_of_none (hs _ _ e) hs0) (hs3 _ _ (hs _ _ e))
    refine ⟨by show 2 ≤ sizeLine; decide, fun d hd => ?_⟩
    have nsd : s ≠ d := src3.ne hd
    refine ⟨_, rfl, s, 2, rfl, src3.same (same_upd hd), by decide, by decide, fun r H4 r0 r1 src4 b4 => ?_⟩
    obtain ⟨z, z0, z1, ez⟩ := both r r0 r1
    refine ⟨d, _, r, _, rfl, rfl, SqL.of (b4 d _ nsd.symm upd_same), ez, ?_⟩
    have k4 : But s H3 H4 := (Same.but (same_upd hd)).trans b4
    -- the way
    refine ⟨_, rfl, s, 5, rfl, src4, by decide, by decide, fun way H5 w0 w1 src5 b5 => ?_⟩
    -- the begin
    refine ⟨_, rfl, _, rfl, s, z, 24, rfl, src5, z0, z1, by decide, by decide, fun b H6 lb _ src6 b6 => ?_⟩
    -- one, other
    refine ⟨_, rfl, _, rfl, _, rfl, s, z, 8, rfl, src6, z0, z1, by decide, by decide, fun x H7 lx _ src7 b7 => ⟨_, _, rfl, rfl, by rw [ofL_len, ofL_len, sizeLine_eq]; omega, ?_⟩⟩
    rw [S_app]
    refine ⟨Mid H1 a s z b way, ⟨_, rfl, _, rfl, _, rfl, s, z, 8, rfl, src7, z0, z1, by decide, by decide, fun y H8 ly _ src8 b8 => ⟨_, _, rfl, rfl, by rw [ofL_len, ofL_len, sizeLine_eq]; omega, ?_⟩⟩, ?_⟩
    · rw [S_app]
      refine ⟨.int c, b ++ x, b ++ y, rfl, by rw [List.length_append]; omega, by rw [List.length_append]; omega, keep ((((k4.trans b5).trans b6).trans b7).trans b8)⟩
    rintro σ H8 ⟨c, x, y, rfl, lx, ly, hs8⟩
    refine ⟨Mid H1 a s z b way, ⟨_, rfl, rfl, _, rfl, ite2 (fun _ => ?_) (fun _ => ?_)⟩, ?_⟩
    · exact ⟨_, rfl, c, x, b, rfl, lx, by omega, hs8⟩
    · exact ⟨c, x, y, rfl, lx, ly, hs8⟩
    rintro σ H9 ⟨c, x, y, rfl, lx, ly, hs9⟩
    refine ⟨Mid H1 a s z b way, ⟨_, rfl, rfl, _, rfl, ite2 (fun _ => ?_) (fun _ => ?_)⟩, ?_⟩
    · exact ⟨_, rfl, c, x, x, rfl, lx, lx, hs9⟩
    · exact ⟨c, x, y, rfl, lx, ly, hs9⟩
    rintro σ H10 ⟨c, x, y, rfl, lx, ly, hs10⟩
    refine ⟨Mid H1 a s z b way, ⟨_, rfl, rfl, _, rfl, ite2 (fun _ => ?_) (fun _ => ?_)⟩, ?_⟩
    · exact ⟨c, [], y, rfl, by decide, ly, hs10⟩
    · exact ⟨c, x, y, rfl, lx, ly, hs10⟩
    rintro σ H11 ⟨c, x, y, rfl, lx, ly, hs11⟩
    refine ⟨_, rfl, _, rfl, x, y, rfl, by omega, by omega, fun H12 e12 => ⟨true, rfl, ?_⟩⟩
    refine ⟨_, rfl, _, rfl, _, _, rfl, rfl, by rw [ofL_len, ofL_len, sizeLine_eq]; omega, _, rfl, x ++ y, x, by rw [← S_app]; rfl, by rw [List.length_append]; omega, by omega, fun H13 e13 => ⟨true, rfl, ?_⟩⟩
    refine ⟨_, rfl, _, _, rfl, rfl, ?la, _, rfl, _, _, rfl, rfl, ?lb, x ++ [97], x ++ [98], ?eab, by rw [List.length_append]; show x.length + 1 ≤ _; omega, by rw [List.length_append]; show x.length + 1 ≤ _; omega, fun H14 e14 => ⟨true, rfl, ?_⟩⟩
    case la =>
      show (ofL x).length + 1 ≤ sizeLine
      rw [ofL_len, sizeLine_eq]
      omega
    case lb =>
      show (ofL x).length + 1 ≤ sizeLine
      rw [ofL_len, sizeLine_eq]
      omega
    case eab =>
      rw [← S_app, ← S_app]
      rfl
    exact ⟨_, _, _, _, _, _, _, rfl, ((hs11.trans e12).trans e13).trans e14⟩

theorem all_mk {l : PySem.W.OpenLaw} {w : World} {K : PySem.W.Frag} {h : Heap} {mg : Str → Option Value} {fa f0 f1 f2 f3 f4 f5 f6 : Addr} (X : K.In h) (G : h.Ns mainGlobals mg) (hfa : mg "law" = some (.ref fa))
    {od0 an0 od1 an1 od2 an2 od3 an3 od4 an4 od5 an5 od6 an6 : Option Addr} {sl0 sl1 sl2 sl3 sl4 sl5 sl6 : Array (Option Value)} {oc0 kV0 dc0 pm0 cd0 ct0 oc1 kV1 dc1 pm1 cd1 ct1 oc2 kV2 dc2 pm2 cd2 ct2 oc3 kV3 dc3 pm3 cd3 ct3 oc4 kV4 dc4 pm4 cd4 ct4 oc5 kV5 dc5 pm5 cd5 ct5 oc6 kV6 dc6 pm6 cd6 ct6 : Value}
    (a0 : PySem.W.nsIn K mainGlobals "common_start" = some (some (.ref f0))) (l0 : K.lookup f0 = some ⟨oc0, od0, .func (PySem.W.fnOf "common_start" "common_start" (defArgs s_common_start) (defBody s_common_start) (defScope s_common_start) .none kV0 dc0 pm0 an0 cd0 ct0), sl0⟩) (c0 : PySem.W.codeIn K cd0 "common_start" = true) (k0 : PySem.W.keepIn K (.ref f0) = true)
    (a1 : PySem.W.nsIn K mainGlobals "_law_mixed" = some (some (.ref f1))) (l1 : K.lookup f1 = some ⟨oc1, od1, .func (PySem.W.fnOf "_law_mixed" "_law_mixed" (defArgs s_y_mixed) (defBody s_y_mixed) (defScope s_y_mixed) .none kV1 dc1 pm1 an1 cd1 ct1), sl1⟩) (c1 : PySem.W.codeIn K cd1 "_law_mixed" = true) (k1 : PySem.W.keepIn K (.ref f1) = true)
    (a2 : PySem.W.nsIn K mainGlobals "_law_source" = some (some (.ref f2))) (l2 : K.lookup f2 = some ⟨oc2, od2, .func (PySem.W.fnOf "_law_source" "_law_source" (defArgs s_y_source) (defBody s_y_source) (defScope s_y_source) .none kV2 dc2 pm2 an2 cd2 ct2), sl2⟩) (c2 : PySem.W.codeIn K cd2 "_law_source" = true) (k2 : PySem.W.keepIn K (.ref f2) = true)
    (a3 : PySem.W.nsIn K mainGlobals "_law_take" = some (some (.ref f3))) (l3 : K.lookup f3 = some ⟨oc3, od3, .func (PySem.W.fnOf "_law_take" "_law_take" (defArgs s_y_take) (defBody s_y_take) (defScope s_y_take) .none kV3 dc3 pm3 an3 cd3 ct3), sl3⟩) (c3 : PySem.W.codeIn K cd3 "_law_take" = true) (k3 : PySem.W.keepIn K (.ref f3) = true)
    (a4 : PySem.W.nsIn K mainGlobals "_law_text" = some (some (.ref f4))) (l4 : K.lookup f4 = some ⟨oc4, od4, .func (PySem.W.fnOf "_law_text" "_law_text" (defArgs s_y_text) (defBody s_y_text) (defScope s_y_text) .none kV4 dc4 pm4 an4 cd4 ct4), sl4⟩) (c4 : PySem.W.codeIn K cd4 "_law_text" = true) (k4 : PySem.W.keepIn K (.ref f4) = true)
    (a5 : PySem.W.nsIn K mainGlobals "_law_right" = some (some (.ref f5))) (l5 : K.lookup f5 = some ⟨oc5, od5, .func (PySem.W.fnOf "_law_right" "_law_right" (defArgs s_y_right) (defBody s_y_right) (defScope s_y_right) .none kV5 dc5 pm5 an5 cd5 ct5), sl5⟩) (c5 : PySem.W.codeIn K cd5 "_law_right" = true) (k5 : PySem.W.keepIn K (.ref f5) = true)
    (a6 : PySem.W.nsIn K mainGlobals "law" = some (some (.ref f6))) (l6 : K.lookup f6 = some ⟨oc6, od6, .func (PySem.W.fnOf "law" "law" (defArgs s_y_law) (defBody s_y_law) (defScope s_y_law) .none kV6 dc6 pm6 an6 cd6 ct6), sl6⟩) (c6 : PySem.W.codeIn K cd6 "law" = true) (k6 : PySem.W.keepIn K (.ref f6) = true)
    (z_isinstance : PySem.W.nsIn K mainGlobals "isinstance" = some none)
    (z_len : PySem.W.nsIn K mainGlobals "len" = some none)
    (z_range : PySem.W.nsIn K mainGlobals "range" = some none)
    (z_str : PySem.W.nsIn K mainGlobals "str" = some none)
    (z_zip : PySem.W.nsIn K mainGlobals "zip" = some none) :
    ∃ fd : FuncData, (∀ (s : Shared) (v : Value), BindsTo s fd ⟨[v], []⟩ [("_law_script", v)]) ∧ ∀ base : Heap, K.In base → base.Ns mainGlobals mg → FnOk l.prog w K mg base LCX lvl fa fd ["_law_script"] (spLaw K) := by
  have e := hfa.symm.trans (PySem.W.mg_of X G a6)
  cases e
  exact ⟨_, fun s v => .of_eq rfl, fun base _ _ => ok_law (T := {
    f_common_start := _
    d_common_start := _
    F_common_start := fun_mk (st := s_common_start) l0 c0 k0
    g_common_start := PySem.W.mg_of X G a0
    b_common_start := (fun_mk (st := s_common_start) l0 c0 k0).binds (ps := ["one", "other"]) fun _ _ _ _ _ _ us hl => match us, hl with | [_, _], _ => rfl
    f_y_mixed := _
    d_y_mixed := _
    F_y_mixed := fun_mk (st := s_y_mixed) l1 c1 k1
    g_y_mixed := PySem.W.mg_of X G a1
    b_y_mixed := (fun_mk (st := s_y_mixed) l1 c1 k1).binds (ps := ["_law_cell", "_law_k"]) fun _ _ _ _ _ _ us hl => match us, hl with | [_, _], _ => rfl
    f_y_source := _
    d_y_source := _
    F_y_source := fun_mk (st := s_y_source) l2 c2 k2
    g_y_source := PySem.W.mg_of X G a2
    b_y_source := (fun_mk (st := s_y_source) l2 c2 k2).binds (ps := ["_law_cell"]) fun _ _ _ _ _ _ us hl => match us, hl with | [_], _ => rfl
    f_y_take := _
    d_y_take := _
    F_y_take := fun_mk (st := s_y_take) l3 c3 k3
    g_y_take := PySem.W.mg_of X G a3
    b_y_take := (fun_mk (st := s_y_take) l3 c3 k3).binds (ps := ["_law_source_here", "_law_many"]) fun _ _ _ _ _ _ us hl => match us, hl with | [_, _], _ => rfl
    f_y_text := _
    d_y_text := _
    F_y_text := fun_mk (st := s_y_text) l4 c4 k4
    g_y_text := PySem.W.mg_of X G a4
    b_y_text := (fun_mk (st := s_y_text) l4 c4 k4).binds (ps := ["_law_source_here", "_law_signs", "_law_most"]) fun _ _ _ _ _ _ us hl => match us, hl with | [_, _, _], _ => rfl
    f_y_right := _
    d_y_right := _
    F_y_right := fun_mk (st := s_y_right) l5 c5 k5
    g_y_right := PySem.W.mg_of X G a5
    b_y_right := (fun_mk (st := s_y_right) l5 c5 k5).binds (ps := ["_law_one", "_law_other"]) fun _ _ _ _ _ _ us hl => match us, hl with | [_, _], _ => rfl
    f_y_law := _
    d_y_law := _
    F_y_law := fun_mk (st := s_y_law) l6 c6 k6
    g_y_law := PySem.W.mg_of X G a6
    b_y_law := (fun_mk (st := s_y_law) l6 c6 k6).binds (ps := ["_law_script"]) fun _ _ _ _ _ _ us hl => match us, hl with | [_], _ => rfl
    z_isinstance := PySem.W.mg_none_of X G z_isinstance
    z_len := PySem.W.mg_none_of X G z_len
    z_range := PySem.W.mg_none_of X G z_range
    z_str := PySem.W.mg_none_of X G z_str
    z_zip := PySem.W.mg_none_of X G z_zip })⟩
end M
open PySem PySem.W PyProof.Rows
set_option maxRecDepth 100000 in
set_option maxHeartbeats 0 in
theorem PySem.Challenge.cw_markseam_k02_the_common_start_holds : PySem.Challenge.rw_markseam_k02_the_common_start.Holds := by
  w_on; o_law; k_head; (case hw => w_witness2)
  k_fill
  refine L2.walk_of (l := PySem.Challenge.rw_markseam_k02_the_common_start) (n := 63) (k := M.lvl) (x := "_law_script") (CX := fun _ => M.LCX) (sp := fun w => M.spLaw _) rfl (by decide) rfl ⟨rfl, by decide, by decide⟩ (fun w h Y => PySem.W.kIn_of Y) ?F (fun _ _ a ns hl _ hS => ⟨a, ns, rfl, hS, hl, fun _ => rfl⟩) (fun _ _ _ _ _ h => M.lcx0 h)
  case F =>
    intro w mg fa h KX G hmg
    refine' M.all_mk KX G hmg ?a0 ?l0 ?c0 ?k0 ?a1 ?l1 ?c1 ?k1 ?a2 ?l2 ?c2 ?k2 ?a3 ?l3 ?c3 ?k3 ?a4 ?l4 ?c4 ?k4 ?a5 ?l5 ?c5 ?k5 ?a6 ?l6 ?c6 ?k6 ?z_isinstance ?z_len ?z_range ?z_str ?z_zip
    (case a0 => k_is)
    (case l0 => k_is)
    (case c0 => k_is)
    (case k0 => k_is)
    (case a1 => k_is)
    (case l1 => k_is)
    (case c1 => k_is)
    (case k1 => k_is)
    (case a2 => k_is)
    (case l2 => k_is)
    (case c2 => k_is)
    (case k2 => k_is)
    (case a3 => k_is)
    (case l3 => k_is)
    (case c3 => k_is)
    (case k3 => k_is)
    (case a4 => k_is)
    (case l4 => k_is)
    (case c4 => k_is)
    (case k4 => k_is)
    (case a5 => k_is)
    (case l5 => k_is)
    (case c5 => k_is)
    (case k5 => k_is)
    (case a6 => k_is)
    (case l6 => k_is)
    (case c6 => k_is)
    (case k6 => k_is)
    (case z_isinstance => k_is)
    (case z_len => k_is)
    (case z_range => k_is)
    (case z_str => k_is)
    (case z_zip => k_is)
#print axioms PySem.Challenge.cw_markseam_k02_the_common_start_holds

import PyProof.Rows.All
import Wide.All
import OpenK.AllK
import Wide.FinOn
import HandS.ForMost
import HandS.Walk
import HandS.Wide
import HandS.IsInst
import KE.GoesMore
import KE.GoesEnum
import HandS.Codes
import HandS.StrMore
import HandS.TryOnly
import HandS.Style
import PyProof.Rows.SetFrom
import HandS.ForExc
import HandS.Defaults
import HandS.Lambda
import HandS.EndTab
import HandS.EndOwn
import HandS.TryMany
import HandS.ExcInit
import KE.KExcSuper
import HandS.ExcIs
import KE.KExcIs
import HandS.ExcValue
import HandS.Sort
import PyProof.CollectStr
import PyProof.Rows.SortShellAny
import PySem.Challenge.RW_markseam_k23_a_rule_fits
set_option Elab.async false
set_option linter.all false
set_option maxRecDepth 100000
/-! Own rules: zip of two texts, of a text and a list; enumerate of a text. -/
namespace Ms
open PySem PySem.Spec PyProof.Rows L2
/-- the five new cells of a zip, over two one-cell iterators -/
theorem five {c n : Nat} (h : c ∈ [n + 4, n + 2, n + 3, n, n + 1]) : n ≤ c := by
  have q : c = n + 4 ∨ c = n + 2 ∨ c = n + 3 ∨ c = n ∨ c = n + 1 := by simpa using h
  omega
/-- signs of two texts in new pairs -/
def Jss (x y : Str) : It :=
  ⟨fun i _ => i < x.cps.size ∧ i < y.cps.size,
   fun i H v H' => ∃ T c d, v = .ref T ∧ H T = none ∧ H' = upd H T (.tup [.str ⟨#[c]⟩, .str ⟨#[d]⟩]) ∧ x.cps[i]? = some c ∧ y.cps[i]? = some d,
   fun i _ => i ≤ x.cps.size ∧ i ≤ y.cps.size ∧ (i = x.cps.size ∨ i = y.cps.size)⟩
theorem ltn {a n : Nat} (h : a < n) (i : Nat) : a ≠ n + i := by omega
/-- how the cells of such a zip lie -/
structure Apt (z TI TO i1 i2 : Addr) : Prop where
  e1 : TI ≠ z
  e2 : TO ≠ z
  e3 : i1 ≠ z
  e4 : i2 ≠ z
  e5 : TI ≠ TO
  e6 : TI ≠ i1
  e7 : TI ≠ i2
  e8 : TO ≠ i1
  e9 : TO ≠ i2
  e0 : i1 ≠ i2
theorem apt (n : Nat) : Apt (n + 4) (n + 2) (n + 3) n (n + 1) := by constructor <;> (show ¬ (@Eq Nat _ _); omega)
theorem Apt.ss {z TI TO i1 i2 : Addr} (D : Apt z TI TO i1 i2) : ZipSep2 z TI TO i1 i2 [i1] [i2] where
  TIz := D.e1
  TOz := D.e2
  TITO := D.e5
  TIi1 := D.e6
  mem1 := List.mem_singleton.mpr rfl
  zf1 := fun h => D.e3 (List.mem_singleton.mp h).symm
  Tf1 := fun h => D.e8 (List.mem_singleton.mp h)
  TIi2 := D.e7
  mem2 := List.mem_singleton.mpr rfl
  zf2 := fun h => D.e4 (List.mem_singleton.mp h).symm
  Tf2 := fun h => D.e9 (List.mem_singleton.mp h)
  sep1_2 := fun h => D.e0 (List.mem_singleton.mp h)
  sep2_1 := fun h => D.e0 (List.mem_singleton.mp h).symm
theorem Apt.sl {z TI TO i1 i2 l : Addr} (D : Apt z TI TO i1 i2) (h1 : l ≠ z) (h2 : l ≠ TO) (h3 : l ≠ i1) : ZipSep2 z TI TO i1 i2 [i1] [i2, l] where
  TIz := D.e1
  TOz := D.e2
  TITO := D.e5
  TIi1 := D.e6
  mem1 := List.mem_singleton.mpr rfl
  zf1 := fun h => D.e3 (List.mem_singleton.mp h).symm
  Tf1 := fun h => D.e8 (List.mem_singleton.mp h)
  TIi2 := D.e7
  mem2 := List.mem_cons_self ..
  zf2 := fun h => (List.mem_cons.mp h).elim (fun q => D.e4 q.symm) fun q => h1 (List.mem_singleton.mp q).symm
  Tf2 := fun h => (List.mem_cons.mp h).elim D.e9 fun q => h2 (List.mem_singleton.mp q).symm
  sep1_2 := fun h => (List.mem_cons.mp h).elim D.e0 fun q => h3 (List.mem_singleton.mp q).symm
  sep2_1 := fun h => D.e0 (List.mem_singleton.mp h).symm
theorem lt5 {h : Heap} {z TI TO i1 i2 : Addr} (l1 : ∃ o, h.get? z = some o) (l2 : ∃ o, h.get? TI = some o) (l3 : ∃ o, h.get? TO = some o) (l4 : ∃ o, h.get? i1 = some o) (l5 : ∃ o, h.get? i2 = some o) :
    ∀ c ∈ [z, TI, TO, i1, i2], c < h.objs.size := fun c hc => by
  have q : c = z ∨ c = TI ∨ c = TO ∨ c = i1 ∨ c = i2 := by simpa using hc
  have lt : ∀ {a : Addr}, (∃ o, h.get? a = some o) → a < h.objs.size := fun ⟨_, e⟩ => Heap.lt_size e
  rcases q with q | q | q | q | q
  all_goals rw [q]
  · exact lt l1
  · exact lt l2
  · exact lt l3
  · exact lt l4
  · exact lt l5
theorem turn_ss {P : Program} {w : World} {K : PySem.W.Frag} {elts : List Expr} {kk : Nat} {tpos : Pos} {x y : Str} {t u : Tok} {z TI TO i1 i2 : Addr} (D : Apt z TI TO i1 i2) :
    Turn P w K (.Tuple elts kk tpos) (Jss x y) [z, TI, TO, i1, i2] z
      (fun i h => IsZip h z TI TO .none ∧ IsTupOf2 h TI (.ref i1) (.ref i2) ∧ (∃ a b, IsTupOf2 h TO a b) ∧ h.IsStrIter i1 (strIterType x) x t i ∧ h.IsStrIter i2 (strIterType y) y u i) where
  mem := by simp
  obj := fun i h st c hc => by
    obtain ⟨hz, hTI, ⟨a, b, hTO⟩, ⟨o1, m1, _, d1⟩, ⟨o2, m2, _, d2⟩⟩ := st
    have q : c = z ∨ c = TI ∨ c = TO ∨ c = i1 ∨ c = i2 := by simpa using hc
    rcases q with q | q | q | q | q
    all_goals rw [q]
    · exact ⟨_, hz, fun v q => nomatch q⟩
    · exact ⟨_, hTI, fun v q => nomatch q⟩
    · exact ⟨_, hTO, fun v q => nomatch q⟩
    · exact ⟨o1, m1, fun v q => by rw [d1] at q; cases q⟩
    · exact ⟨o2, m2, fun v q => by rw [d2] at q; cases q⟩
  keep := fun i h h' st k => by
    obtain ⟨hz, hTI, ⟨a, b, hTO⟩, ⟨o1, m1, r1⟩, ⟨o2, m2, r2⟩⟩ := st
    exact ⟨k z (by simp) _ hz, k TI (by simp) _ hTI, ⟨a, b, k TO (by simp) _ hTO⟩, ⟨o1, k i1 (by simp) _ m1, r1⟩, ⟨o2, k i2 (by simp) _ m2, r2⟩⟩
  item := by
    intro X hP hw hK hc i pins s σ H E I hf st hg
    subst hP hw hK
    obtain ⟨hz, hTI, ⟨a0, b0, hTO⟩, h1, h2⟩ := st
    obtain ⟨g1, g2⟩ := hg
    have lv := lt5 ⟨_, hz⟩ ⟨_, hTI⟩ ⟨_, hTO⟩ (let ⟨o, e, _⟩ := h1; ⟨o, e⟩) (let ⟨o, e, _⟩ := h2; ⟨o, e⟩)
    have hh : X.A.in1.handled = none := I.ok.hd hc
    refine wpAny_pyNext_zipD2_item D.ss (Draws.text hh i1 x t) (Draws.text hh i2 y u) hz hTI hTO h1 h2 g1 g2 fun v1 v2 h' tk y1 y2 z' TO' h1' h2' hT hsz hk => ?_
    obtain ⟨c, u1, ec, rfl⟩ := y1
    obtain ⟨d, u2, ed, rfl⟩ := y2
    refine ⟨_, rfl, wpAny_letOwnedTupleGo_zip (s := { s with heap := h', toks := tk }) z' fun h'' z'' sb => ?_⟩
    have nz : z ≠ s.heap.objs.size := Nat.ne_of_lt (lv z (by simp))
    have hT2 : h''.get? s.heap.objs.size = some { cls := .type "tuple", data := .seq #[.str ⟨#[c]⟩ u1, .str ⟨#[d]⟩ u2] } := (sb.2 _ nz.symm).trans hT
    have new : ObjOk X.prog X.w (upd H s.heap.objs.size (.tup [.str ⟨#[c]⟩, .str ⟨#[d]⟩])) h'' s.heap.objs.size (.tup [.str ⟨#[c]⟩, .str ⟨#[d]⟩]) :=
      ⟨by show 2 ≤ sizeLine; decide, _, .cons ⟨u1, rfl⟩ (.cons ⟨u2, rfl⟩ .nil), ⟨_, hT2, rfl, _, rfl⟩⟩
    have I1 : Inv X pins σ (upd H s.heap.objs.size (.tup [.str ⟨#[c]⟩, .str ⟨#[d]⟩])) { s with heap := h'', toks := tk } :=
      I.turnedNew (ch := [z, TI, TO, i1, i2]) (fun b o hb q => (sb.2 b fun e => hb (by simp [e])).trans (hk b o (fun e => hb (by simp [e])) (fun e => hb (by simp [e])) (fun e => hb (by simp [e])) (fun e => hb (by simp [e])) q)) hf (Nat.le_refl _) new
    refine ⟨.ref s.heap.objs.size, _, I1, rfl, ⟨_, c, d, rfl, I.hok.fresh (Nat.le_refl _), rfl, ec, ed⟩, ⟨z'', ?_, ⟨_, _, (sb.2 _ D.e2).trans TO'⟩, ?_, ?_⟩, fun b hb => ?_⟩
    · exact (sb.2 _ D.e1).trans (hk _ _ D.e1 D.e5 D.e6 D.e7 hTI)
    · obtain ⟨o, e, r⟩ := h1'
      exact ⟨o, (sb.2 _ D.e3).trans e, r⟩
    · obtain ⟨o, e, r⟩ := h2'
      exact ⟨o, (sb.2 _ D.e4).trans e, r⟩
    · rw [upd_ne (Nat.ne_of_lt (lv b hb))]
      exact (hf b hb).1
  done := by
    intro X hP hw hK hc i pins s σ H E I hf st hg
    subst hP hw hK
    obtain ⟨hz, hTI, ⟨a0, b0, hTO⟩, h1, h2⟩ := st
    have hh : X.A.in1.handled = none := I.ok.hd hc
    exact wpAny_pyNext_zipD2_end D.ss (Draws.text hh i1 x t) (Draws.text hh i2 y u) hz hTI hTO h1 h2 hg.1 hg.2.1 hg.2.2 fun h' tk hk => ⟨rfl, I.turnedL (t' := tk) (ch := [z, TI, TO, i1, i2]) (fun b o hb q =>
      hk b o (fun e => hb (by simp [e])) (fun e => hb (by simp [e])) (fun e => hb (by simp [e])) (fun e => hb (by simp [e])) q) hf⟩
  self := fun A i s Q E st h => wpAny_pyIter_zip st.1 h
/-- signs of a text, items of the list at a as it stands at each turn, in new pairs -/
def Jsl (K : PySem.W.Frag) (x : Str) (a : Addr) : It :=
  ⟨fun i H => i < x.cps.size ∧ ∃ ys v, SqL K H a ys ∧ ys[i]? = some v,
   fun i H v H' => ∃ T c y, v = .ref T ∧ H T = none ∧ H' = upd H T (.tup [.str ⟨#[c]⟩, y]) ∧ x.cps[i]? = some c ∧ ∀ ys, SqL K H a ys → ys[i]? = some y,
   fun i H => ∃ ys, SqL K H a ys ∧ i ≤ x.cps.size ∧ i ≤ ys.length ∧ (i = x.cps.size ∨ i = ys.length)⟩
theorem turn_sl {P : Program} {w : World} {K : PySem.W.Frag} {elts : List Expr} {kk : Nat} {tpos : Pos} {x : Str} {a : Addr} {t : Tok} {z TI TO i1 i2 : Addr} (D : Apt z TI TO i1 i2) (n1 : a ≠ z) (n2 : a ≠ TO) (n3 : a ≠ i1) (n4 : a ≠ i2) :
    Turn P w K (.Tuple elts kk tpos) (Jsl K x a) [z, TI, TO, i1, i2] z
      (fun i h => IsZip h z TI TO .none ∧ IsTupOf2 h TI (.ref i1) (.ref i2) ∧ (∃ a b, IsTupOf2 h TO a b) ∧ h.IsStrIter i1 (strIterType x) x t i ∧ h.IsListIter i2 a i) where
  mem := by simp
  obj := fun i h st c hc => by
    obtain ⟨hz, hTI, ⟨a, b, hTO⟩, ⟨o1, m1, _, d1⟩, ⟨o2, m2, _, d2⟩⟩ := st
    have q : c = z ∨ c = TI ∨ c = TO ∨ c = i1 ∨ c = i2 := by simpa using hc
    rcases q with q | q | q | q | q
    all_goals rw [q]
    · exact ⟨_, hz, fun v q => nomatch q⟩
    · exact ⟨_, hTI, fun v q => nomatch q⟩
    · exact ⟨_, hTO, fun v q => nomatch q⟩
    · exact ⟨o1, m1, fun v q => by rw [d1] at q; cases q⟩
    · exact ⟨o2, m2, fun v q => by rw [d2] at q; cases q⟩
  keep := fun i h h' st k => by
    obtain ⟨hz, hTI, ⟨a, b, hTO⟩, ⟨o1, m1, r1⟩, ⟨o2, m2, r2⟩⟩ := st
    exact ⟨k z (by simp) _ hz, k TI (by simp) _ hTI, ⟨a, b, k TO (by simp) _ hTO⟩, ⟨o1, k i1 (by simp) _ m1, r1⟩, ⟨o2, k i2 (by simp) _ m2, r2⟩⟩
  item := by
    intro X hP hw hK hc i pins s σ H E I hf st hg
    subst hP hw hK
    obtain ⟨hz, hTI, ⟨a0, b0, hTO⟩, h1, h2⟩ := st
    obtain ⟨g1, ys, v, hys, hv⟩ := hg
    obtain ⟨its, rv, p, _⟩ := I.list hys
    obtain ⟨uv, huv, ruv⟩ := rv.get hv
    have lv := lt5 ⟨_, hz⟩ ⟨_, hTI⟩ ⟨_, hTO⟩ (let ⟨o, e, _⟩ := h1; ⟨o, e⟩) (let ⟨o, e, _⟩ := h2; ⟨o, e⟩)
    have hh : X.A.in1.handled = none := I.ok.hd hc
    have g2 : i < its.toArray.size := by
      have q := (List.getElem?_eq_some_iff.mp huv).1
      simpa using q
    refine wpAny_pyNext_zipD2_item (D.sl n1 n2 n3) (Draws.text hh i1 x t) (Draws.list hh i2 a n4 its.toArray) hz hTI hTO h1 ⟨h2, p.isList⟩ g1 g2 fun v1 v2 h' tk y1 y2 z' TO' h1' h2' hT hsz hk => ?_
    obtain ⟨c, u1, ec, rfl⟩ := y1
    have ev : v2 = uv := by
      have q : its[i]? = some v2 := by simpa using y2
      rw [huv] at q
      exact (Option.some.inj q).symm
    subst ev
    refine ⟨_, rfl, wpAny_letOwnedTupleGo_zip (s := { s with heap := h', toks := tk }) z' fun h'' z'' sb => ?_⟩
    have nz : z ≠ s.heap.objs.size := Nat.ne_of_lt (lv z (by simp))
    have hT2 : h''.get? s.heap.objs.size = some { cls := .type "tuple", data := .seq #[.str ⟨#[c]⟩ u1, v2] } := (sb.2 _ nz.symm).trans hT
    have new : ObjOk X.prog X.w (upd H s.heap.objs.size (.tup [.str ⟨#[c]⟩, v])) h'' s.heap.objs.size (.tup [.str ⟨#[c]⟩, v]) :=
      ⟨by show 2 ≤ sizeLine; decide, _, .cons ⟨u1, rfl⟩ (.cons ruv .nil), ⟨_, hT2, rfl, _, rfl⟩⟩
    have I1 : Inv X pins σ (upd H s.heap.objs.size (.tup [.str ⟨#[c]⟩, v])) { s with heap := h'', toks := tk } :=
      I.turnedNew (ch := [z, TI, TO, i1, i2]) (fun b o hb q => (sb.2 b fun e => hb (by simp [e])).trans (hk b o (fun e => hb (by simp [e])) (fun e => hb (by simp [e])) (fun e => hb (by simp [e])) (fun e => hb (by simp [e])) q)) hf (Nat.le_refl _) new
    refine ⟨.ref s.heap.objs.size, _, I1, rfl, ⟨_, c, v, rfl, I.hok.fresh (Nat.le_refl _), rfl, ec, fun l hl => by rw [I.list_inj hl hys]; exact hv⟩, ⟨z'', ?_, ⟨_, _, (sb.2 _ D.e2).trans TO'⟩, ?_, ?_⟩, fun b hb => ?_⟩
    · exact (sb.2 _ D.e1).trans (hk _ _ D.e1 D.e5 D.e6 D.e7 hTI)
    · obtain ⟨o, e, r⟩ := h1'
      exact ⟨o, (sb.2 _ D.e3).trans e, r⟩
    · obtain ⟨⟨o, e, r⟩, _⟩ := h2'
      exact ⟨o, (sb.2 _ D.e4).trans e, r⟩
    · rw [upd_ne (Nat.ne_of_lt (lv b hb))]
      exact (hf b hb).1
  done := by
    intro X hP hw hK hc i pins s σ H E I hf st hg
    subst hP hw hK
    obtain ⟨hz, hTI, ⟨a0, b0, hTO⟩, h1, h2⟩ := st
    obtain ⟨ys, hys, g1, g2, g3⟩ := hg
    obtain ⟨its, rv, p, _⟩ := I.list hys
    have hl := rv.length
    have hh : X.A.in1.handled = none := I.ok.hd hc
    exact wpAny_pyNext_zipD2_end (D.sl n1 n2 n3) (Draws.text hh i1 x t) (Draws.list hh i2 a n4 its.toArray) hz hTI hTO h1 ⟨h2, p.isList⟩ g1 (by simp; omega) (by simp; omega) fun h' tk hk => ⟨rfl, I.turnedL (t' := tk) (ch := [z, TI, TO, i1, i2]) (fun b o hb q =>
      hk b o (fun e => hb (by simp [e])) (fun e => hb (by simp [e])) (fun e => hb (by simp [e])) (fun e => hb (by simp [e])) q) hf⟩
  self := fun A i s Q E st h => wpAny_pyIter_zip st.1 h
/-- zip(text, text | list) -/
def iZs (K : PySem.W.Frag) (ta : TA) : TI := fun σ H R => ta σ H fun vs H1 => ∃ (x : Str) (v : V), vs = [.str x, v] ∧ ((∃ y, v = .str y ∧ R (Jss x y) H1) ∨ ∃ a ys, v = .ref a ∧ SqL K H1 a ys ∧ R (Jsl K x a) H1)
theorem pi_zs {X : Cx} {e e2 : Expr} {ta : TA} {p pos tpos : Pos} {elts : List Expr} {kk : Nat} (hg : Gl X "zip") (hm : X.mg "zip" = none) (ha : PA X [e, e2] ta)
    (hs : starEach [e, e2] X.env = (false, eval e X.env) :: starEach [e2] X.env := by rfl) (hpl : (backTo pos (starEach [e2] X.env)).any (·.1) = false := by rfl) :
    PI X (.Tuple elts kk tpos) (.Call (.Name "zip" p) [e, e2] [] pos) (iZs X.K ta) := by
  refine ⟨fun pins s σ H R I h => Call_ (ld_blt I hg hm PyProof.Rows.boot_zip (PyProof.Rows.callWith_type1 (thn (ha.run pos pins s σ H _ I h) fun us s1 ⟨vs, H1, I1, r1, q1⟩ => ?_) hs hpl))⟩
  obtain ⟨x, v, rfl, q1⟩ := q1
  cases r1 with
  | cons r rr =>
    cases rr with
    | cons r' rr =>
      cases rr
      obtain ⟨t, rfl⟩ := r
      rcases q1 with ⟨y, rfl, q⟩ | ⟨a, ys, rfl, hq, q⟩
      · obtain ⟨u, rfl⟩ := r'
        refine zip_begins2 (begins_text x t) (begins_text y u) trivial trivial fun h' hz hTI hTO h1 h2 hsz hk => wpAny_pyIter_zip hz ?_
        have I2 : Inv X pins σ H1 { s1 with heap := h' } := I1.kept (t' := s1.toks) hk
        exact ⟨s1.heap.objs.size + 4, [s1.heap.objs.size + 4, s1.heap.objs.size + 2, s1.heap.objs.size + 3, s1.heap.objs.size, s1.heap.objs.size + 1], _, _, H1, rfl, I2, turn_ss (t := t) (u := u) (apt _), ⟨hz, hTI, ⟨_, _, hTO⟩, ⟨_, h1, rfl, rfl⟩, ⟨_, h2, rfl, rfl⟩⟩,
          fun c hc => I1.fpOk (five hc) (I1.hok.fresh (five hc)), q⟩
      · obtain rfl : _ = Value.ref a := r'
        obtain ⟨its, rv, p1, _⟩ := I1.list hq
        have la : a < s1.heap.objs.size := p1.lt
        refine zip_begins2 (begins_text x t) (begins_list a its.toArray) trivial p1.isList fun h' hz hTI hTO h1 h2 hsz hk => wpAny_pyIter_zip hz ?_
        have I2 : Inv X pins σ H1 { s1 with heap := h' } := I1.kept (t' := s1.toks) hk
        exact ⟨s1.heap.objs.size + 4, [s1.heap.objs.size + 4, s1.heap.objs.size + 2, s1.heap.objs.size + 3, s1.heap.objs.size, s1.heap.objs.size + 1], _, _, H1, rfl, I2,
          turn_sl (t := t) (apt _) (ltn la 4) (ltn la 3) (ltn la 0) (ltn la 1), ⟨hz, hTI, ⟨_, _, hTO⟩, ⟨_, h1, rfl, rfl⟩, ⟨_, h2, rfl, rfl⟩⟩,
          fun c hc => I1.fpOk (five hc) (I1.hok.fresh (five hc)), q⟩
/-- enumerate(text): each sign with its place in a new pair -/
def Jes (x : Str) : It :=
  ⟨fun i _ => i < x.cps.size, fun i H v H' => ∃ T c, v = .ref T ∧ H T = none ∧ H' = upd H T (.tup [.int (i : Nat), .str ⟨#[c]⟩]) ∧ x.cps[i]? = some c, fun i _ => i = x.cps.size⟩
theorem turn_es {P : Program} {w : World} {K : PySem.W.Frag} {elts : List Expr} {kk : Nat} {tpos : Pos} (x : Str) (t : Tok) (e it : Addr) (hne : e ≠ it) :
    Turn P w K (.Tuple elts kk tpos) (Jes x) [e, it] e (fun i h => (∃ old, IsEnum h e it ((i : Nat) : Int) old) ∧ h.IsStrIter it (strIterType x) x t i) where
  mem := by simp
  obj := fun i h st b hb => by
    obtain ⟨⟨old, he⟩, ⟨o, ho, hc, hd⟩⟩ := st
    have q : b = e ∨ b = it := by simpa using hb
    rcases q with q | q
    all_goals rw [q]
    · exact ⟨_, he, fun v q => nomatch q⟩
    · exact ⟨o, ho, fun v q => by rw [hd] at q; cases q⟩
  keep := fun i h h' st k => let ⟨⟨old, he⟩, ⟨o, ho, r⟩⟩ := st; ⟨⟨old, k e (by simp) _ he⟩, ⟨o, k it (by simp) _ ho, r⟩⟩
  item := by
    intro X hP hw hK hc i pins s σ H E I hf st hg
    subst hP hw hK
    obtain ⟨⟨old, he⟩, hit⟩ := st
    have hel : e < s.heap.objs.size := Heap.lt_size he
    have hil : it < s.heap.objs.size := by obtain ⟨_, q, _⟩ := hit; exact Heap.lt_size q
    have hh : X.A.in1.handled = none := I.ok.hd hc
    refine wpAny_pyNext_enum_itemD (Draws.text hh it x t) he hit hg hne (fun q => hne (List.mem_singleton.mp q)) fun v h' tk hv ho hit' hT hsz hk => ?_
    obtain ⟨c, u, ec, rfl⟩ := hv
    refine ⟨_, rfl, wpAny_letOwnedTupleGo_enum (s := { s with heap := h', toks := tk + 1 }) ho fun h'' he' sb => ?_⟩
    have hT2 : h''.get? s.heap.objs.size = some { cls := .type "tuple", data := .seq #[.int i tk, .str ⟨#[c]⟩ u] } := (sb.2 _ (Nat.ne_of_gt hel)).trans hT
    have new : ObjOk X.prog X.w (upd H s.heap.objs.size (.tup [.int (i : Nat), .str ⟨#[c]⟩])) h'' s.heap.objs.size (.tup [.int (i : Nat), .str ⟨#[c]⟩]) :=
      ⟨by show 2 ≤ sizeLine; decide, _, .cons ⟨tk, rfl⟩ (.cons ⟨u, rfl⟩ .nil), ⟨_, hT2, rfl, _, rfl⟩⟩
    have I1 : Inv X pins σ (upd H s.heap.objs.size (.tup [.int (i : Nat), .str ⟨#[c]⟩])) { s with heap := h'', toks := tk + 1 } :=
      I.turnedNew (ch := [e, it]) (fun b ob hb q => (sb.2 b fun z => hb (by simp [z])).trans (hk b ob (fun z => hb (by simp [z])) (fun z => hb (by simp [z])) q)) hf (Nat.le_refl _) new
    refine ⟨.ref s.heap.objs.size, _, I1, rfl, ⟨_, c, rfl, I.hok.fresh (Nat.le_refl _), rfl, ec⟩, ⟨⟨.str ⟨#[c]⟩ u, ?_⟩, ?_⟩, fun b hb => ?_⟩
    · have e1 : ((i + 1 : Nat) : Int) = (i : Int) + 1 := by omega
      rw [e1]; exact he'
    · obtain ⟨o, q, r⟩ := hit'
      exact ⟨o, (sb.2 it hne.symm).trans q, r⟩
    · have hb' : b < s.heap.objs.size := by
        have q : b = e ∨ b = it := by simpa using hb
        rcases q with q | q <;> (rw [q]; assumption)
      rw [upd_ne (Nat.ne_of_lt hb')]
      exact (hf b hb).1
  done := by
    intro X hP hw hK hc i pins s σ H E I hf st hg
    subst hP hw hK
    obtain ⟨⟨old, he⟩, hit⟩ := st
    obtain ⟨f0, f1, f2, f3, f4, f5⟩ := hf it (by simp)
    have hh : X.A.in1.handled = none := I.ok.hd hc
    have hi : i = x.cps.size := hg
    subst hi
    exact wpAny_pyNext_enum_endD (Draws.text hh it x t) he hit fun h' eb => ⟨rfl, I.turned (t' := s.toks) (fun b o hb q => eb b o hb q) f0 f1 f3 f4 f5⟩
  self := fun A i s Q E st h => let ⟨⟨_, he⟩, _⟩ := st; wpAny_pyIter_enum he h
def iEs (ta : TA) : TI := fun σ H R => ta σ H fun vs H1 => ∃ x, vs = [.str x] ∧ R (Jes x) H1
theorem pi_es {X : Cx} {e : Expr} {ta : TA} {p pos tpos : Pos} {elts : List Expr} {kk : Nat} (hg : Gl X "enumerate") (hm : X.mg "enumerate" = none) (ha : PA X [e] ta) (hs : starEach [e] X.env = [(false, eval e X.env)] := by rfl) :
    PI X (.Tuple elts kk tpos) (.Call (.Name "enumerate" p) [e] [] pos) (iEs ta) := by
  refine ⟨fun pins s σ H R I h => Call_ (ld_blt I hg hm boot_enumerate (PyProof.Rows.callWith_type1 (thn (ha.run pos pins s σ H _ I h) fun us s1 ⟨vs, H1, I1, r1, q1⟩ => ?_) hs rfl))⟩
  obtain ⟨x, rfl, q⟩ := q1
  cases r1 with
  | cons r rr =>
    cases rr
    obtain ⟨t, rfl⟩ := r
    refine call_enumerate_str fun h' he hit hsz hk => wpAny_pyIter_enum he ?_
    have I2 : Inv X pins σ H1 { s1 with heap := h' } := I1.kept (t' := s1.toks) hk
    refine ⟨s1.heap.objs.size + 1, [s1.heap.objs.size + 1, s1.heap.objs.size], _, _, H1, rfl, I2, turn_es x t (s1.heap.objs.size + 1) s1.heap.objs.size (Nat.succ_ne_self _), ⟨⟨.none, he⟩, hit⟩, fun b hb => ?_, q⟩
    have hle : s1.heap.objs.size ≤ b := by
      have q : b = s1.heap.objs.size + 1 ∨ b = s1.heap.objs.size := by simpa using hb
      rcases q with q | q
      · rw [q]; exact Nat.le_succ _
      · rw [q]; exact Nat.le_refl _
    exact I1.fpOk hle (I1.hok.fresh hle)
/-- list + list, wherever they stand -/
theorem op_catS {X : Cx} : OpR X (binaryOp .Add) (fun x y H Q => ∃ l b xs zs, x = .ref l ∧ y = .ref b ∧ SqL X.K H l xs ∧ SqL X.K H b zs ∧ xs.length + zs.length ≤ sizeLine ∧ ∀ p, H p = none → Q (.ref p) (upd H p (.lst (xs ++ zs)))) := by
  intro pins s σ H x y v u Q I rx ry h
  obtain ⟨l, b, xs, zs, rfl, rfl, hH, hB, hz, q⟩ := h
  cases rx
  cases ry
  obtain ⟨i1, r1, p1, _⟩ := I.list hH
  obtain ⟨i2, r2, p2, _⟩ := I.list hB
  obtain ⟨⟨c1, a1, t1, s1⟩, ho1, hc1, n1, hd1⟩ := p1.isList
  obtain ⟨⟨c2, a2, t2, s2⟩, ho2, hc2, n2, hd2⟩ := p2.isList
  simp only at hc1 hd1 hc2 hd2
  subst hc1 hd1 hc2 hd2
  have l1 := r1.length
  have l2 := r2.length
  refine concat_meets ⟨_, ho1, rfl⟩ ⟨_, ho2, rfl⟩ noFill_list_add seq_list_add PySem.F.slot_list_add PySem.F.entry_list_add (PySem.F.args_list_add_2 _ _) (list_addW l b i1.toArray i2.toArray n1 n2 a1 a2 s1 s2 (by simp; omega)) ⟨ho1, ho2, ?_⟩
  rw [show i1.toArray ++ i2.toArray = (i1 ++ i2).toArray by simp]
  exact ⟨.ref _, _, I.lnew (t' := s.toks) (r1.append r2) (by rw [List.length_append]; omega), rfl, q _ I.fresh⟩
/-! ### their walks -/
theorem walk_ss {x y : Str} : Walk (Jss x y) (min x.cps.size y.cps.size) (fun _ => True)
    (fun i H v H' => ∃ T c d, v = .ref T ∧ H T = none ∧ H' = upd H T (.tup [.str ⟨#[c]⟩, .str ⟨#[d]⟩]) ∧ x.cps[i]? = some c ∧ y.cps[i]? = some d) :=
  ⟨fun i _ hi _ => ⟨by omega, by omega⟩, fun _ _ => ⟨by omega, by omega, by omega⟩, fun _ _ _ _ _ _ y => y⟩
theorem walk_sl {K : PySem.W.Frag} {x : Str} {a : Addr} {ys : List V} : Walk (Jsl K x a) (min x.cps.size ys.length) (fun H => SqL K H a ys)
    (fun i H v H' => ∃ T c y, v = .ref T ∧ H T = none ∧ H' = upd H T (.tup [.str ⟨#[c]⟩, y]) ∧ x.cps[i]? = some c ∧ ys[i]? = some y) := by
  refine ⟨fun i H hi q => ⟨by omega, ys, ys[i]'(by omega), q, by simp [show i < ys.length by omega]⟩, fun H q => ⟨ys, q, by omega, by omega, by omega⟩, fun i H v H' hi q y => ?_⟩
  obtain ⟨T, c, y, h1, h2, h3, h4, h5⟩ := y
  exact ⟨T, c, y, h1, h2, h3, h4, h5 ys q⟩
theorem walk_es {x : Str} : Walk (Jes x) x.cps.size (fun _ => True) (fun i H v H' => ∃ T c, v = .ref T ∧ H T = none ∧ H' = upd H T (.tup [.int (i : Nat), .str ⟨#[c]⟩]) ∧ x.cps[i]? = some c) :=
  ⟨fun _ _ hi _ => hi, fun _ _ => rfl, fun _ _ _ _ _ _ y => y⟩
end Ms

set_option Elab.async false
set_option linter.all false
set_option maxRecDepth 100000
set_option maxHeartbeats 4000000
/-! set(a text), its size. -/
namespace PySem
namespace St
open PyProof.Rows
def add1 (σ : List Nat) (c : Nat) : List Nat := if c ∈ σ then σ else σ ++ [c]
/-- the signs of a list, each once -/
def once (l : List Nat) : List Nat := l.foldl add1 []
theorem once_next (l : List Nat) (c : Nat) : once (l ++ [c]) = add1 (once l) c := by
  unfold once
  rw [List.foldl_append]
  rfl
theorem mem_add1 {σ : List Nat} {c d : Nat} : d ∈ add1 σ c ↔ d ∈ σ ∨ d = c := by
  unfold add1
  by_cases h : c ∈ σ
  · rw [if_pos h]
    exact ⟨.inl, fun q => q.elim id fun e => e ▸ h⟩
  · rw [if_neg h, List.mem_append, List.mem_singleton]
theorem len_add1 (σ : List Nat) (c : Nat) : (add1 σ c).length = if c ∈ σ then σ.length else σ.length + 1 := by
  unfold add1
  split
  · rfl
  · rw [List.length_append, List.length_singleton]
theorem fold_len : ∀ (l σ : List Nat), (l.foldl add1 σ).length ≤ σ.length + l.length ∧ (σ.Nodup → ((l.foldl add1 σ).length = σ.length + l.length ↔ (σ ++ l).Nodup))
  | [], σ => by simp
  | c :: r, σ => by
    obtain ⟨h1, h2⟩ := fold_len r (add1 σ c)
    show (r.foldl add1 (add1 σ c)).length ≤ σ.length + (r.length + 1) ∧ _
    by_cases h : c ∈ σ
    · have e : add1 σ c = σ := if_pos h
      rw [e] at h1 h2
      refine ⟨by rw [e]; omega, fun nd => ⟨fun q => ?_, fun q => ?_⟩⟩
      · have q' : (r.foldl add1 (add1 σ c)).length = σ.length + (r.length + 1) := q
        rw [e] at q'
        omega
      · exact absurd rfl ((List.nodup_append.mp q).2.2 c h c (List.mem_cons_self ..))
    · have e : add1 σ c = σ ++ [c] := if_neg h
      rw [e] at h1 h2
      rw [List.length_append, List.length_singleton] at h1 h2
      refine ⟨by rw [e]; omega, fun nd => ?_⟩
      have nd2 : (σ ++ [c]).Nodup := List.nodup_append.mpr ⟨nd, List.nodup_cons.mpr ⟨List.not_mem_nil, List.nodup_nil⟩, fun a ha b hb z => h (by rw [List.mem_singleton.mp hb] at z; rw [← z]; exact ha)⟩
      have q := h2 nd2
      rw [List.append_assoc] at q
      show (r.foldl add1 (add1 σ c)).length = σ.length + (r.length + 1) ↔ _
      rw [e, show σ.length + (r.length + 1) = σ.length + 1 + r.length by omega]
      exact q
theorem once_len (l : List Nat) : (once l).length ≤ l.length ∧ ((once l).length = l.length ↔ l.Nodup) := by
  obtain ⟨h1, h2⟩ := fold_len l []
  have q := h2 List.nodup_nil
  rw [List.length_nil, Nat.zero_add] at h1 q
  rw [List.nil_append] at q
  exact ⟨h1, q⟩
def one (c : Nat) : Str := ⟨#[c]⟩
theorem one_inj {c d : Nat} (h : one c = one d) : c = d := by
  have e := congrArg (fun y : Str => y.cps.toList) h
  exact (List.cons.inj e).1
/-- which keys stand in the set behind such signs -/
def has (σ : List Nat) (k : Str) : Bool := σ.any fun c => decide (k = one c)
theorem has_iff {σ : List Nat} {k : Str} : has σ k = true ↔ ∃ c ∈ σ, k = one c := by
  unfold has
  rw [List.any_eq_true]
  exact ⟨fun ⟨c, h, e⟩ => ⟨c, h, of_decide_eq_true e⟩, fun ⟨c, h, e⟩ => ⟨c, h, decide_eq_true e⟩⟩
theorem has_one {σ : List Nat} {c : Nat} : has σ (one c) = decide (c ∈ σ) := by
  rw [Bool.eq_iff_iff, has_iff, decide_eq_true_iff]
  exact ⟨fun ⟨d, h, e⟩ => by rw [one_inj e]; exact h, fun h => ⟨c, h, rfl⟩⟩
theorem has_next (σ : List Nat) (c : Nat) (k : Str) : (has σ k || decide (k = one c)) = has (add1 σ c) k := by
  rw [Bool.eq_iff_iff, Bool.or_eq_true, has_iff, has_iff, decide_eq_true_iff]
  constructor
  · rintro (⟨d, h, e⟩ | e)
    · exact ⟨d, mem_add1.mpr (.inl h), e⟩
    · exact ⟨c, mem_add1.mpr (.inr rfl), e⟩
  · rintro ⟨d, h, e⟩
    rcases mem_add1.mp h with h | h
    · exact .inl ⟨d, h, e⟩
    · rw [h] at e
      exact .inr e
section
variable {prog : Program} {w : World} {A : Around} {R : Result → Shared → Prop}
theorem key_one (c : Nat) (u : Tok) : (strKind prog w).is (one c) (.str (one c) u) = true := by simp [strKind, Value.isStrOf]
/-- the signs of a text from place i on go into the set at S -/
theorem fill_loop {I S : Addr} {x : Str} {T : Nat → Heap → Prop} (W : Walks prog w A.in1 I [I] [I] x.cps.size (SignAt x) T) (hSI : S ≠ I) (hb : x.cps.size + 1 < scanBound) :
    ∀ (m i : Nat) (s : Shared), x.cps.size - i = m → i ≤ x.cps.size → T i s.heap → s.heap.SetOf (strKind prog w) S (has (once (x.cps.toList.take i))) (once (x.cps.toList.take i)).length →
      (∀ h' tk, (∀ b o, b ≠ S → b ≠ I → s.heap.get? b = some o → h'.get? b = some o) → h'.SetOf (strKind prog w) S (has (once x.cps.toList)) (once x.cps.toList).length → R (.ok (.ret .none)) { s with heap := h', toks := tk }) →
      codeAny (model prog w) A (.builtin "set.update.loop" ⟨[.ref S, .ref I], []⟩) R s
  | 0, i, s, hm, hi, hT, hS, hR => by
    have e : i = x.cps.size := by omega
    subst e
    have el : x.cps.toList.take x.cps.size = x.cps.toList := List.take_of_length_le (by simp)
    rw [el] at hS
    refine codeAny_builtin F.entry_set_update_loop ?_
    rw [Around.under_plainId F.plain_set_update_loop _]
    show wpAny _ A.in1 (pyNext (.ref I) >>= _) _ _ s
    refine wpAny_bind (W.done s _ _ hT fun h' tk kp => ?_)
    show wpAny _ A.in1 (ret Value.none) _ _ _
    refine wpAny_pure (hR h' tk (fun b o _ n e => kp b o (fun q => n (List.mem_singleton.mp q)) e) ?_)
    obtain ⟨o, es, ep, t, ho, rest⟩ := hS
    exact ⟨o, es, ep, t, kp S _ (fun q => hSI (List.mem_singleton.mp q)) ho, rest⟩
  | m + 1, i, s, hm, hi, hT, hS, hR => by
    have hlt : i < x.cps.size := by omega
    refine codeAny_builtin F.entry_set_update_loop ?_
    rw [Around.under_plainId F.plain_set_update_loop _]
    show wpAny _ A.in1 (pyNext (.ref I) >>= _) _ _ s
    refine wpAny_bind (W.item i s _ _ hlt hT fun v h' tk hv hT' kp => ?_)
    obtain ⟨c, u, hc, rfl⟩ := hv
    have hS2 : h'.SetOf (strKind prog w) S (has (once (x.cps.toList.take i))) (once (x.cps.toList.take i)).length := by
      obtain ⟨o, es, ep, t, ho, rest⟩ := hS
      exact ⟨o, es, ep, t, kp S _ (fun q => hSI (List.mem_singleton.mp q)) ho, rest⟩
    have hc' : x.cps.toList[i]? = some c := by simpa using hc
    have et : x.cps.toList.take (i + 1) = x.cps.toList.take i ++ [c] := by rw [List.take_add_one, hc']; rfl
    have hroom : (once (x.cps.toList.take i)).length + 1 < scanBound := by
      have q := (once_len (x.cps.toList.take i)).1
      rw [List.length_take] at q
      omega
    show wpAny _ A.in1 (holding [Value.str (one c) u] (setAdd S (.str (one c) u)) >>= _) _ _ _
    refine wpAny_bind (wpAny_holding ?_)
    unfold setAdd
    refine wpAny_holding (wpAny_bind ((strKind prog w).pyHash (k := one c) (key_one c u) ?_))
    refine wpAny_setAddHashed_of (knd := strKind prog w) (s := { s with heap := h', toks := tk + 1 }) (key_one c u) rfl hS2 hroom fun h2 sb hS3 => ?_
    have hS4 : h2.SetOf (strKind prog w) S (has (once (x.cps.toList.take (i + 1)))) (once (x.cps.toList.take (i + 1))).length := by
      have e1 : (fun k' => has (once (x.cps.toList.take i)) k' || decide (k' = one c)) = has (once (x.cps.toList.take (i + 1))) := by
        funext k'
        rw [et, once_next, has_next]
      have e2 : (if has (once (x.cps.toList.take i)) (one c) then (once (x.cps.toList.take i)).length else (once (x.cps.toList.take i)).length + 1) = (once (x.cps.toList.take (i + 1))).length := by
        rw [et, once_next, len_add1, has_one]
        by_cases q : c ∈ once (x.cps.toList.take i)
        · rw [decide_eq_true q, if_pos rfl, if_pos q]
        · rw [decide_eq_false q, if_neg Bool.false_ne_true, if_neg q]
      rw [e1, e2] at hS3
      exact hS3
    refine wpAny_pure ⟨plainId_quiet F.plain_set_update_loop _, fill_loop W hSI hb m (i + 1) _ (by omega) hlt (W.frame _ _ _ hT' fun b hbI o e => ?_) hS4 fun h3 tk3 kp3 hS5 => ?_⟩
    · rw [sb.2 b (fun q => hSI (by rw [← q]; exact List.mem_singleton.mp hbI))]
      exact e
    · refine hR h3 tk3 (fun b o n1 n2 e => kp3 b o n1 n2 ?_) hS5
      rw [sb.2 b n1]
      exact kp b o (fun q => n2 (List.mem_singleton.mp q)) e
end
namespace F2
theorem sub_str_set : isSubtype (.type "str") (.type "set") = pure false := by rw [isSubtype_type]; kernel_rfl
theorem sub_str_frozenset : isSubtype (.type "str") (.type "frozenset") = pure false := by rw [isSubtype_type]; kernel_rfl
end F2
section
variable {prog : Program} {w : World} {A : Around} {E : Value → Shared → Prop} {s : Shared}
theorem call_set_text {x : Str} {t : Tok} {Q : Value → Shared → Prop} (hh : A.handled = none) (hb : x.cps.size + 1 < scanBound)
    (hQ : ∀ (h' : Heap) (tk : Nat), h'.SetOf (strKind prog w) s.heap.objs.size (has (once x.cps.toList)) (once x.cps.toList).length → (∀ b o, s.heap.get? b = some o → h'.get? b = some o) → Q (.ref s.heap.objs.size) { s with heap := h', toks := tk }) :
    wpAny (model prog w) A (call (.type "set") [.str x t]) Q E s := by
  obtain ⟨c, tl, hmro⟩ := F.called_set.mro
  have hmade := F.called_set.made
  have hsub := F.called_set.sub
  refine wpAny_call (codeAny_of_tree ?_)
  show wpAny _ _ (callAny (.type "set") _) _ _ _
  refine wpAny_pure ⟨Code.quiet_builtin _ (by decide +kernel), codeAny_builtin F.entry_type_call ?_⟩
  rw [Around.under_plain (weight_type_call_type "set" [.str x t] []) rfl]
  have k1 := F.called_set.notType
  have k2 := F.called_set.canCreate
  have k3 := F.typeCall_set_1 (.str x t)
  repeat (any_goals (first | assumption | wp_step))
  refine codeAny_mono (code_set_new_1 (.str x t) (E := E) (Q₁ := fun obj s₁ => ∃ led : Bool, obj = .ref s.heap.objs.size ∧ s₁ = { s with heap := s.heap.push { cls := .type "set", dict := none, data := .set #[] 0 (.fresh 0 0 led) } }) fun led => ⟨led, rfl, rfl⟩) fun r s₁ hr => ?_
  cases r with
  | error e => exact hr
  | ok fl =>
    cases fl with
    | ret obj =>
      obtain ⟨led, rfl, rfl⟩ := hr
      generalize hnew : ({ cls := .type "set", dict := none, data := .set #[] 0 (.fresh 0 0 led) } : Obj) = nu
      have hfree : nu.isFreed = false := by rw [← hnew]; rfl
      have hS : (s.heap.push nu).get? s.heap.objs.size = some nu := Heap.get?_push_size _ hfree
      have hT : Shared.TypeIs { s with heap := s.heap.push nu } (.ref s.heap.objs.size) "set" := ⟨_, hS, by rw [← hnew]⟩
      have k4 := F.called_set.init.lookup
      have k5 := F.called_set.init.bind (.ref s.heap.objs.size)
      repeat (any_goals (first | assumption | wp_step))
      refine codeAny_mono (codeAny_call_builtin (R := wants (fun r s₂ => r = .none ∧ ∃ h' tk, s₂ = { s with heap := h', toks := tk } ∧ h'.SetOf (strKind prog w) s.heap.objs.size (has (once x.cps.toList)) (once x.cps.toList).length ∧
          (∀ b o, s.heap.get? b = some o → h'.get? b = some o)) E) F.called_set.init.plain F.entry_set_init (check_set_init_1 hT ?_)) fun r₂ s₂ hr₂ => ?_
      · have k6 := F2.sub_str_set
        have k7 := F2.sub_str_frozenset
        have k8 : (Value.type "str" == Value.type "dict") = false := by decide
        subst hnew
        unfold Builtin.«set.__init__» noKeywords Builtin.Frozenset.updateFrom
        generalize hIt : pyIter = It
        wp_walk
        subst hIt
        refine wpAny_pyIter_str fun o T W h0 => ?_
        refine wpAny_bind (wpAny_runValue ?_)
        have ne : s.heap.objs.size ≠ (s.heap.push { cls := .type "set", dict := none, data := .set #[] 0 (.fresh 0 0 led) }).objs.size := by
          rw [Heap.size_push]
          exact Nat.ne_of_lt (Nat.lt_succ_self _)
        refine fill_loop (W _ (by simp [hh])) ne hb (x.cps.size - 0) 0 _ (by omega) (Nat.zero_le _) h0 ?hS0 ?hR
        case hS0 =>
          have g0 : ((s.heap.push { cls := .type "set", dict := none, data := .set #[] 0 (.fresh 0 0 led) }).push o).get? s.heap.objs.size = some { cls := .type "set", dict := none, data := .set #[] 0 (.fresh 0 0 led) } := Heap.get?_push_of_some _ hS
          exact SetOf_congr ((setObjOf_fresh (knd := strKind prog w) led).setOf g0 (by unfold scanBound; omega)) (fun _ => rfl) rfl
        case hR =>
          intro h' tk' kp hS'
          show wpAny _ _ _ _ _ _
          refine wpAny_pure ?_
          show wpAny _ _ (ret Value.none) _ _ _
          refine wpAny_pure ⟨rfl, h', tk', rfl, hS', fun b o e => ?_⟩
          have lb := Heap.lt_size e
          refine kp b _ (Nat.ne_of_lt lb) ?_ (Heap.get?_push_of_some _ (Heap.get?_push_of_some _ e))
          rw [Heap.size_push]
          exact Nat.ne_of_lt (Nat.lt_succ_of_lt lb)
      · cases r₂ with
        | error e => exact hr₂
        | ok fl₂ =>
          cases fl₂ with
          | ret r =>
            obtain ⟨rfl, h', tk, rfl, hS', hk'⟩ := hr₂
            repeat (any_goals (first | assumption | wp_step))
            exact hQ _ _ hS' hk'
          | _ => exact hr₂.elim
    | _ => exact hr.elim
end
end St
end PySem
namespace Ms
open PySem PySem.Spec PyProof.Rows L2
/-- len(set(text)) -/
def tLst (ta : TE) : TE := fun σ H Q => ta σ H fun x H1 => ∃ z : Str, x = .str z ∧ z.length ≤ 4000 ∧ ∀ m : Nat, m ≤ z.length → (m = z.length ↔ z.cps.toList.Nodup) → Q (.int m) H1
theorem pe_lst_set {X : Cx} {a : Expr} {ta : TE} {p p2 q pos : Pos} (hg : Gl X "len") (hm : X.mg "len" = none) (hg2 : Gl X "set") (hm2 : X.mg "set" = none) (ha : PE X a ta) (hc : X.calm = true := by rfl)
    (na : starEach [a] X.env = (false, eval a X.env) :: starEach [] X.env := by rfl) : PE X (.Call (.Name "len" p) [.Call (.Name "set" p2) [a] [] q] [] pos) (tLst ta) := by
  refine ⟨fun pins s σ H Q I h => Call_ (ld_blt I hg hm boot_len ?_)⟩
  refine PyProof.Rows.callWith_builtin1 (PyProof.Rows.args_cons ?_ rfl) rfl rfl
  refine Call_ (ld_blt I hg2 hm2 boot_set ?_)
  refine PyProof.Rows.callWith_type1 (PyProof.Rows.args_cons (thn (ha.run pins s σ H _ I h) fun v s1 ⟨x, H1, I1, r1, q1⟩ => PyProof.Rows.args_nil ?_) na) na rfl
  obtain ⟨z, rfl, hz, q1⟩ := q1
  obtain ⟨t, rfl⟩ := r1
  have ez : z.cps.size = z.length := rfl
  refine PySem.St.call_set_text (I1.ok.hd hc) (by rw [ez]; unfold scanBound; omega) fun h' tk hS hk => PyProof.Rows.args_nil ?_
  obtain ⟨o, es, ep, tb, ho, hex, hd, _, _, _, hf, hn⟩ := hS
  have I2 : Inv X pins σ H1 { s1 with heap := h', toks := tk } := I1.kept hk
  obtain ⟨l1, l2⟩ := PySem.St.once_len z.cps.toList
  have el : z.cps.toList.length = z.length := by simp [Str.length]
  rw [el] at l1 l2
  exact call_len_set ho hex hd hf (by rw [hn]; omega) ⟨.int (PySem.St.once z.cps.toList).length, H1, I2.tok _, ⟨_, by rw [hn]⟩, q1 _ l1 l2⟩
end Ms

set_option Elab.async false
set_option linter.all false
set_option maxRecDepth 100000
set_option maxHeartbeats 4000000
/-! An own exception whose __init__ says super().__init__(a text) and then keeps its one field. -/
namespace PySem
namespace Sx
open PySem.W PySem.Calls PyProof.Rows PySem.HandSPX
def iA (fld : Str) (p1 p2 : Pos) : Arguments := { posonlyargs := [], args := [{ arg := "self", annotation := none, pos := p1 }, { arg := fld, annotation := none, pos := p2 }], vararg := none, kwonlyargs := [], kw_defaults := [], kwarg := none, defaults := [] }
def iB (fld msg : Str) (p0 p1 p2 p3 p4 p5 q1 q2 q3 q4 : Pos) (j : Nat) : List Stmt :=
  [.Expr (.Call (.Attribute (.Call (.Name "super" p0) [] [] p1) "__init__" p2) [.Constant (.str msg) j p3] [] p4) p5, .Assign [.Attribute (.Name "self" q1) fld q2] (.Name fld q3) q4]
def iS (fld : Str) : Scope := { kind := .function, names := [(PySem.Str.ofString "self", .local), (fld, .local), (PySem.Str.ofString "__class__", .free), (PySem.Str.ofString "super", .globalImplicit)], isGenerator := false, isCoroutine := false, more := [] }
abbrev iF (fld msg qual : Str) (p1 p2 : Pos) (c0 c1 c2 c3 c4 c5 q1 q2 q3 q4 : Pos) (j : Nat) (doc pm : Value) (an : Option Addr) (cda : Addr) (ct : Value) (cc : Addr) : FuncData :=
  ksFn "__init__" qual (iA fld p1 p2) (iB fld msg c0 c1 c2 c3 c4 c5 q1 q2 q3 q4 j) (iS fld) .none .none doc pm an (.ref cda) ct cc
/-- what the written part says of the class nm, at C, and of its __init__, at fI -/
structure Txt (prog : Program) (K : Frag) (mg : Str → Option Value) (nm fld : Str) (C fI : Addr) : Prop where
  gC : mg nm = some (.ref C)
  cls : ∃ nm q N bs bm sn sub ab col dd k0 k1 k2 k3 k5, K.lookup C = some (excClassObj nm q C N bs bm true sn sub ab col dd k0 k1 k2 k3 k5 "ValueError.__new__") ∧ refsVE bm = true ∧ alongIn K "__init__" bm = some (some (.builtin "ValueError.__init__"))
  sa : findIn K (.ref C) "__setattr__" = some (some (.builtin "object.__setattr__"))
  ga : findIn K (.ref C) "__getattribute__" = some (some (.builtin "BaseException.__getattribute__"))
  gg : findIn K (.ref C) "__getattr__" = some none
  noN : findIn K (.ref C) fld = some none
  iC : findIn K (.ref C) "__init__" = some (some (.ref fI))
  tC : typeIn K (.ref fI) = some (.type "function")
  kC : keepIn K (.ref C) = true
  exC : subIn K (.ref C) (.type "BaseException") = some true
  vaC : subIn K (.ref C) (.type "ValueError") = some true
  meC : mroIn K C (.ref C) = some true
  tyC : typeIn K (.ref C) = some (.type "type")
  hdC : hasDictIn K C = true
  te : exmOne K (.ref C) (.ref C) = some true
  opq : nsIn K cStatics "thirdparty.any" = some none
  sup : mg "super" = none
  top : (prog.main.scope.names.lookup ("super" : Str)).isSome = false
  fne : (("self" : Str) == fld) = false
  fks : (iS fld).names.lookup ("super" : Str) = some .globalImplicit
  fkc : (iS fld).names.lookup ("__class__" : Str) = some .free
  fdb : (fld == ("__debug__" : Str)) = false
  fn : ∃ (qual msg : Str) (oc : Value) (od : Option Addr) (doc pm : Value) (an : Option Addr) (ct : Value) (osl : Array (Option Value)) (p1 p2 c0 c1 c2 c3 c4 c5 q1 q2 q3 q4 : Pos) (j : Nat) (cda cc : Addr) (ccl : Value) (cdd : Option Addr) (vs : Array Value) (ccs : Array (Option Value))
      (cl : Value) (cld : Option Addr) (csl : Array (Option Value)) (file : Str) (tf : Tok),
    K.lookup fI = some ⟨oc, od, .func (iF fld msg qual p1 p2 c0 c1 c2 c3 c4 c5 q1 q2 q3 q4 j doc pm an cda ct cc), osl⟩ ∧ codeIn K (.ref cda) qual = true ∧
    K.lookup cda = some ⟨ccl, cdd, .fields vs, ccs⟩ ∧ vs[2]? = some (.str file tf) ∧ ((prog.main.file : Str) == file) = true ∧ K.lookup cc = some ⟨cl, cld, .cell (some (.ref C)), csl⟩ ∧
    (∀ (s : Shared) (x v : Value), BindsTo s (iF fld msg qual p1 p2 c0 c1 c2 c3 c4 c5 q1 q2 q3 q4 j doc pm an cda ct cc) ⟨[x, v], []⟩ [("self", x), (fld, v)]) ∧
    ∃ pl : Sem Bool, ∀ L : Addr, eval (.Call (.Attribute (.Call (.Name "super" c0) [] [] c1) "__init__" c2) [.Constant (.str msg) j c3] [] c4) (callEnv (iF fld msg qual p1 p2 c0 c1 c2 c3 c4 c5 q1 q2 q3 q4 j doc pm an cda ct cc) L fI) = (do
      let ov ← attributeBase (.Call (.Name "super" c0) [] [] c1) "__init__" (callEnv (iF fld msg qual p1 p2 c0 c1 c2 c3 c4 c5 q1 q2 q3 q4 j doc pm an cda ct cc) L fI) (eval (.Call (.Name "super" c0) [] [] c1) (callEnv (iF fld msg qual p1 p2 c0 c1 c2 c3 c4 c5 q1 q2 q3 q4 j doc pm an cda ct cc) L fI))
      standAt c2.atName
      let (f, first) ← holding [ov] (getMethod ov "__init__" pl)
      callWith c4 f first (backTo c4 (starEach [.Constant (.str msg) j c3] (callEnv (iF fld msg qual p1 p2 c0 c1 c2 c3 c4 c5 q1 q2 q3 q4 j doc pm an cda ct cc) L fI))) [])
/-- what __init__ leaves of a fresh exception at x -/
structure End (fld : Str) (h h' : Heap) (x C dx t1 : Addr) (v : Value) : Prop where
  keep : ∀ b o, b ≠ x → h.get? b = some o → h'.get? b = some o
  obj : h'.get? x = some { cls := .ref C, dict := some dx, data := .fields #[.ref t1, .none, .none, .none, .bool false, .none] }
  dbig : h.objs.size ≤ dx
  dne : dx ≠ x
  ns : h'.Ns1 dx (fun y => if y = fld then some v else none)
theorem iS_lk {fld : Str} (h : (("self" : Str) == fld) = false) : (iS fld).names.lookup fld = some .local := by
  have h2 : (fld == ("self" : Str)) = false := by rw [BEq.comm]; exact h
  show List.lookup fld _ = _
  simp [iS, List.lookup, h2]
section
variable {prog : Program} {w : World} {A : Around} {E : Value → Shared → Prop} {R : Result → Shared → Prop} {s : Shared} {K : Frag} {mg mb : Str → Option Value} {nm fld : Str} {C fI : Addr}
theorem ex_init (T : Txt prog K mg nm fld C fI) {x t0 : Addr} {v : Value} (X : K.In s.heap) (hg : s.heap.Ns mainGlobals mg) (hb : s.heap.Ns builtinsNs mb) (hbs : mb "super" = some (.type "super")) (hlim : s.heap.NoLimit) (hx : s.heap.get? x = some (excO C t0)) (hxN : K.lookup x = none) (hroom : A.depth < recursionLimit)
    (hq : ∀ h' tk dx t1, End fld s.heap h' x C dx t1 v → R (.ok (.ret .none)) { s with heap := h', toks := tk }) :
    codeAny (model prog w) A (.call (.ref fI) ⟨[.ref x, v], []⟩) R s := by
  obtain ⟨qual, msg, oc, od, doc, pm, an, ct, osl, p1, p2, c0, c1, c2, c3, c4, c5, q1, q2, q3, q4, j, cda, cc, ccl, cdd, vs, ccs, cl, cld, csl, file, tf, ho, hcd, hco, hvs, hfile, hcell, hbind, pl, hev⟩ := T.fn
  obtain ⟨nm', q, N, bs, bm, sn, sub, ab, col, dd, k0, k1, k2, k3, k5, hC, hbm, hal⟩ := T.cls
  have hcl : clsIn K C = some { name := nm', bases := bs, mro := .ref C :: bm, ns := N, qualname := q, hasDict := true, slotNames := sn, subclasses := sub, abstract := ab, collection := col, hasDel := false } := by unfold clsIn; rw [hC] <;> rfl
  have fl := iS_lk T.fne
  have hxC : x ≠ C := fun e => by
    have z := X _ _ hC
    rw [← e, hx] at z
    cases z
  refine ks_codeAny_call_defAt (fd := iF fld msg qual p1 p2 c0 c1 c2 c3 c4 c5 q1 q2 q3 q4 j doc pm an cda ct cc) (binds := [("self", .ref x), (fld, v)]) hroom (X _ _ ho) rfl hlim (codeRec_of X hcd) rfl (hbind _ _ _) ?_ ?_ (fun h₁ hns k => ?_) rfl rfl rfl
  · intro y hy
    have hy' : y = (PySem.Str.ofString "self", NameKind.local) ∨ y = (fld, NameKind.local) ∨ y = (PySem.Str.ofString "__class__", NameKind.free) ∨ y = (PySem.Str.ofString "super", NameKind.globalImplicit) := by simpa [iS] using hy
    rcases hy' with rfl | rfl | rfl | rfl <;> exact fun z => nomatch z
  · intro y hy
    have hy' : y = (("self" : Str), Value.ref x) ∨ y = (fld, v) := by simpa using hy
    rcases hy' with rfl | rfl
    · rfl
    · exact fl
  have X₁ : K.In h₁ := X.keeps k
  have hx₁ := k _ _ hx
  have hD : h₁.get? C = some (excClassObj nm' q C N bs bm true sn sub ab col dd k0 k1 k2 k3 k5 "ValueError.__new__") := X₁ _ _ hC
  have ms : (fun y => ([(("self" : Str), Value.ref x), (fld, v)] : List (Str × Value)).reverse.lookup y) "self" = some (.ref x) := by
    show List.lookup ("self" : Str) [(fld, v), (("self" : Str), Value.ref x)] = _
    simp [List.lookup, T.fne]
  have mf : (fun y => ([(("self" : Str), Value.ref x), (fld, v)] : List (Str × Value)).reverse.lookup y) fld = some v := by
    show List.lookup fld [(fld, v), (("self" : Str), Value.ref x)] = _
    simp [List.lookup]
  obtain ⟨hh, g, d, tk, os⟩ := s
  -- super().__init__(..)
  refine ks_wpAt_execs_cons (ks_wpAt_Expr_any (ks_wpAt_MethodCall ?_ (hev _)))
  refine ks_wpAt_super_base T.fks T.fkc rfl rfl (X₁ _ _ ho) rfl rfl rfl (X₁ _ _ hco) rfl hvs hfile T.top ?_
  refine ks_loadName_global rfl T.fks (loadGlobal_builtin (hg.keeps k) T.sup (hb.keeps k) hbs ⟨rfl, ?_⟩)
  refine wpAny_loadName_free rfl T.fkc rfl ⟨_, X₁ _ _ hcell, rfl⟩ ?_
  refine wpAny_loadName_local rfl rfl hns ms ?_
  refine ks_wpAny_isType_cls hD rfl ⟨rfl, ?_⟩
  refine ks_wpAny_call_super hD rfl hx₁ rfl (fun c z => nomatch z) (looks_mroIn X₁ T.meC) (fun h₂ e₂ k₂ => ?_)
  have X₂ : K.In h₂ := X₁.keeps k₂
  have hx₂ := k₂ _ _ hx₁
  have J₂ : InstAt h₂ x (excO C t0) C none := ⟨hx₂, rfl, rfl, trivial⟩
  refine kxs_getMethod kxs_ValueError e₂ (looks_opaque X₂ T.opq) (l₀ := .ref C :: bm) (fun A Q E s k q => wpAny_bind ((looks_clsIn X₂ hcl) A _ E s k (wpAny_pure q))) (l := bm) ?_ X₂ hal (J₂.type.andThen (looks_subIn X₂ T.vaC)) hxC (by decide) ?_
  · simp [List.dropWhile_cons]
  have eu : (h₂.push (kxs_mw "ValueError.__init__" x)).get? h₂.objs.size = some (kxs_mw "ValueError.__init__" x) := Heap.get?_push_at rfl rfl
  have kp : ∀ b o, h₂.get? b = some o → (h₂.push (kxs_mw "ValueError.__init__" x)).get? b = some o := fun b o e => Heap.get?_push_of_some _ e
  refine kxs_callWith (i := "ValueError.__init__") (x := x) rfl (evalArgs_plain (spliced_cons ?_))
  refine @Calls.Constant_str _ _ _ _ _ _ j c3 _ (wpAny_pure ⟨eu, ?_⟩)
  generalize h₂.objs.size = u at eu
  generalize h₂.push (kxs_mw "ValueError.__init__" x) = h₃ at eu kp
  have X₃ : K.In h₃ := X₂.keeps kp
  refine wpAny_call (codeAny_of_tree ?_)
  show wpAny _ _ (callAny (.ref u) ⟨_, []⟩) _ _ _
  simp only [callAny]
  refine wpAny_bind (wpAny_load eu ?_)
  simp only [kxs_mw, show (Value.type "method-wrapper" == Value.type "method" || Value.type "method-wrapper" == Value.type "builtin_function_or_method" || Value.type "method-wrapper" == Value.type "method-wrapper") = true by decide, if_true]
  refine KFB.if_so (by decide) ?_
  refine wpAny_bind (check_bound_init F.excBase_ValueError.toExcCallFacts (X₃ _ _ hC) (kp _ _ hx₂) rfl ?_)
  refine wpAny_bind (wpAny_pure (wpAny_pure ?_))
  refine ⟨plainId_quiet F.excBase_ValueError.init.plain _, codeAny_builtin F.excBase_ValueError.initEntry ?_⟩
  refine exc_init_tree (cls := .ref C) (t0 := t0) (dv := none) (c2 := .none) (c3 := .none) (b4 := .bool false) (kp _ _ hx₂) (by show 1 ≤ sizeLine; decide) fun h₄ k₄ hx₄ _ => ?_
  generalize h₃.objs.size = t1 at hx₄
  -- self.fld = fld
  have old : ∀ b o, b ≠ x → h₁.get? b = some o → h₄.get? b = some o := fun b o n e => k₄ b o n (kp _ _ (k₂ _ _ e))
  have hL : hh.objs.size ≠ x := Nat.ne_of_gt (Heap.lt_size hx)
  have X₄ : K.In h₄ := fun a o e => k₄ a o (fun z => by rw [z, hxN] at e; cases e) (X₃ _ _ e)
  have nsX : h₄.Ns hh.objs.size (fun y => ([(("self" : Str), Value.ref x), (fld, v)] : List (Str × Value)).reverse.lookup y) := by
    obtain ⟨oL, es, ep, e, r⟩ := hns
    exact ⟨oL, es, ep, old _ _ hL e, r⟩
  refine ks_wpAt_execs_cons (ks_wpAt_Assign_Attr (wpAt_of_wpAny (wpAny_Name (wpAny_loadName_local rfl fl nsX mf ?_) T.fdb)))
  refine wpAny_Name (wpAny_loadName_local rfl rfl nsX ms ?_) (by decide)
  refine set_plain X₄ (ox := excO C t1) (od := none) ⟨hx₄, rfl, rfl, trivial⟩ T.sa ?_
  refine exc_osa X₄ hx₄ hcl (show refsVE (.ref C :: bm) = true from hbm) rfl T.noN (fun h₅ tk₅ dx k₅ dn dne hx₅ hn₅ => ?_)
  have lz : hh.objs.size < h₄.objs.size := by
    obtain ⟨oL, es, ep, e, r⟩ := nsX
    exact Heap.lt_size e
  exact wpAt_of_wpAny (wpAny_execs_nil (hq h₅ tk₅ dx t1 ⟨fun b o n e => k₅ b o n (old b o n (k b o e)), hx₅, Nat.le_of_lt (Nat.lt_of_lt_of_le lz dn), dne, hn₅⟩))
/-- a made one -/
structure Made (fld : Str) (h h' : Heap) (e C d : Addr) (v : Value) : Prop where
  keep : ∀ b o, h.get? b = some o → h'.get? b = some o
  new : h.objs.size ≤ e
  obj : ∃ t1 : Addr, h'.get? e = some { cls := .ref C, dict := some d, data := .fields #[.ref t1, .none, .none, .none, .bool false, .none] }
  dbig : h.objs.size ≤ d
  dne : d ≠ e
  ns : h'.Ns1 d (fun y => if y = fld then some v else none)
theorem ex_made (T : Txt prog K mg nm fld C fI) {v : Value} (X : K.In s.heap) (hg : s.heap.Ns mainGlobals mg) (hb : s.heap.Ns builtinsNs mb) (hbs : mb "super" = some (.type "super")) (hlim : s.heap.NoLimit) (hroom : A.depth + 1 < recursionLimit)
    (hq : ∀ h' tk e d, Made fld s.heap h' e C d v → R (.ok (.ret (.ref e))) { s with heap := h', toks := tk }) :
    codeAny (model prog w) A (.call (.ref C) ⟨[v], []⟩) R s := by
  obtain ⟨nm', q, N, bs, bm, sn, sub, ab, col, dd, k0, k1, k2, k3, k5, hC, hbm, hal⟩ := T.cls
  obtain ⟨hp, g, dr, tk, os⟩ := s
  have k : ∀ b o, hp.get? b = some o → ((hp.push (kdv_tup [v])).push (excO C hp.objs.size)).get? b = some o := fun b o e => Heap.get?_push_of_some _ (Heap.get?_push_of_some _ e)
  have hget : ((hp.push (kdv_tup [v])).push (excO C hp.objs.size)).get? (hp.objs.size + 1) = some (excO C hp.objs.size) := by heap_get
  have hnx : K.lookup (hp.objs.size + 1) = none := by
    cases e : K.lookup (hp.objs.size + 1) with
    | none => rfl
    | some o => exact absurd (Nat.lt_of_succ_lt (Heap.lt_size (X _ _ e))) (Nat.lt_irrefl _)
  refine call_own F.excBase_ValueError (fun X => refsVE_contains X bm hbm) (X _ _ hC) (looks_findIn X T.iC) (fun self => bind_fn X self T.tC) (by show 1 ≤ sizeLine; decide) ?_
  refine ex_init (s := ⟨(hp.push (kdv_tup [v])).push (excO C hp.objs.size), g, dr, tk, os⟩) T (X.keeps k) (hg.keeps k) (hb.keeps k) hbs (hlim.keeps k) hget hnx hroom fun h' tk' dx t1 M => ?_
  have old : ∀ b o, hp.get? b = some o → h'.get? b = some o := fun b o e => M.keep b o (Nat.ne_of_lt (Nat.lt_succ_of_lt (Heap.lt_size e))) (k b o e)
  have z : hp.objs.size ≤ dx := by
    have q := M.dbig
    rw [Heap.size_push, Heap.size_push] at q
    exact Nat.le_trans (Nat.le_trans (Nat.le_succ _) (Nat.le_succ _)) q
  exact ⟨rfl, hq h' tk' (hp.objs.size + 1) dx ⟨old, Nat.le_succ _, ⟨t1, M.obj⟩, z, M.dne, M.ns⟩⟩
end
end Sx
end PySem
namespace Ms
open PySem PySem.Spec PyProof.Rows L2
theorem relO_one {fld : Str} {v : V} {u : Value} (r : RelV v u) (f : Str) : RelO (List.lookup f [(fld, v)]) (if f = fld then some u else none) := relO_put (fs := []) (mA := fun _ => none) r (fun _ => True.intro) f
section
variable {X : Cx} {C fI : Addr} {nm fld : Str}
/-- nm(e) as an exception that is being made -/
def tMkS (fld : Str) (C : Addr) (ta : TA) : L2.St → Hp → XK → Prop := fun σ H Q => ta σ H fun vs H1 => ∃ v, vs = [v] ∧ ∀ d, H1 d = none → Q (.ref C) (some d) (upd H1 d (.xd [(fld, v)]))
theorem pmk_s {a : Expr} {ta : TA} {p pos : Pos} {k : Nat} (T : Sx.Txt X.prog X.K X.mg nm fld C fI) (hr : Room k X.A) (ha : PA X [a] ta) (hg : Gl X nm := by rfl) (hdb : (nm == ("__debug__" : Str)) = false := by decide)
    (he : starEach (a :: []) X.env = (false, eval a X.env) :: starEach [] X.env := by rfl) (hpl : (backTo pos (starEach [] X.env)).any (·.1) = false := by rfl) :
    PMk X (.Call (.Name nm p) [a] [] pos) (tMkS fld C ta) := by
  intro pins s σ H Q I h
  refine wpAny_Call_Name_kw (ld_glob I hg T.gC ?_ hdb)
  refine PySem.W.callWith_K (h₀ := X.base) I.ok.mod.kin T.kC (thn (ha.run pos pins s σ H _ I h) fun us s1 hh => ?_) he hpl
  obtain ⟨vs, H1, I1, r1, v, rfl, q1⟩ := hh
  refine ⟨I1.kIn, ?_⟩
  cases r1 with
  | @cons _ u' _ us' rv rn =>
    cases rn
    show wpAny _ _ (call (.ref C) [u']) _ _ _
    have hlim := I1.nolimit
    obtain ⟨mb, hb1, hb2⟩ := I1.mod.blt
    have hg1 := I1.mod.glob.keeps I1.bk
    have hb := hb1.keeps I1.bk
    have hbs : mb "super" = some (.type "super") := (hb2 _ (by decide)).trans (by decide +kernel)
    obtain ⟨hp, g, dr, tk, os⟩ := s1
    refine wpAny_call (Sx.ex_made T I1.kIn hg1 hb hbs hlim (by have := hr.dp; omega) fun h' tk' e d M => ?_)
    show MkP X pins σ Q (.ref e) ⟨h', g, dr, tk', os⟩
    obtain ⟨t1, hoe⟩ := M.obj
    have hns := M.ns
    obtain ⟨G', g1, g2⟩ := restrict h' fun b => decide (b ≠ e)
    have gk : ∀ b, b ≠ e → G'.get? b = h'.get? b := fun b hb => g1 b (decide_eq_true hb)
    have ge : G'.get? e = none := g2 e (by simp)
    have old : ∀ b o, hp.get? b = some o → G'.get? b = some o := fun b o q => (gk b (Nat.ne_of_lt (Nat.lt_of_lt_of_le (Heap.lt_size q) M.new))).trans (M.keep b o q)
    have ob : ObjOk X.prog X.w (upd H1 d (.xd [(fld, v)])) G' d (.xd [(fld, v)]) := ⟨_, hns.at (fun o q => (gk d M.dne).trans q), fun f => relO_one rv f⟩
    have J : Inv X pins σ (upd H1 d (.xd [(fld, v)])) ⟨G', g, dr, tk', os⟩ := I1.laid (t' := tk') old M.dbig ob
    refine ⟨e, _, _, ⟨G', g, dr, tk', os⟩, _, .ref C, some d, rfl, J, fun b o q => ?_, ge, hoe, ⟨rfl, rfl⟩, rfl, rfl, ?_, rfl, I1.bare, raises_own T.exC T.tyC, q1 d (I1.hok.fresh M.dbig)⟩
    · by_cases hb : b = e
      · have q' : G'.get? b = some o := q
        rw [hb, ge] at q'; cases q'
      · exact (gk b hb).symm.trans q
    · rw [upd_ne (Ne.symm M.dne)]
      exact I1.hok.fresh M.new
/-- raise nm(e) -/
def tRaiseS (fld : Str) (C : Addr) (W : WX) (ta : TA) : TS := fun _ σ H => tMkS fld C ta σ H fun cls d H' => W cls d σ H'
theorem ps_raiseS {a : Expr} {ta : TA} {W : WX} {p pos pos2 : Pos} {k : Nat} (hc : X.calm = true) (T : Sx.Txt X.prog X.K X.mg nm fld C fI) (hr : Room k X.A) (tk : Takes X W) (ha : PA X [a] ta) (hg : Gl X nm := by rfl) (hdb : (nm == ("__debug__" : Str)) = false := by decide)
    (he : starEach (a :: []) X.env = (false, eval a X.env) :: starEach [] X.env := by rfl) (hpl : (backTo pos (starEach [] X.env)).any (·.1) = false := by rfl) :
    PS X (.Raise (some (.Call (.Name nm p) [a] [] pos)) none pos2) (tRaiseS fld C W ta) := ps_raise hc tk (pmk_s T hr ha hg hdb he hpl)
/-- n.fld, n the exception that the suite holds (at a; its class cls, its dict d) -/
def tByS (fld : Str) (C : Addr) (a : Addr) (cls : Value) (d : Option Addr) (te : TE) : TE := fun σ H Q => te σ H fun x H1 => x = .ref a ∧ cls = .ref C ∧ ∃ (dd : Addr) (v : V), d = some dd ∧ H1 dd = some (.xd [(fld, v)]) ∧ Q v H1
theorem pe_byS {a : Addr} {oe : Obj} {cls : Value} {d : Option Addr} {pn : List (Addr × Obj)} {e : Expr} {te : TE} {pos : Pos} (T : Sx.Txt X.prog X.K X.mg nm fld C fI) (hz : Zc cls d oe) (hf : ∃ vs, oe.data = .fields vs) (he : PE (X.suite a ((a, oe) :: pn)) e te)
    (hb : attributeBase e fld X.env (eval e X.env) = eval e X.env := by rfl) :
    PE (X.suite a ((a, oe) :: pn)) (.Attribute e fld pos) (tByS fld C a cls d te) := by
  refine ⟨fun pins s σ H Q I h => attr_of hb (thn (he.run pins s σ H _ I h) fun u s1 hh => ?_)⟩
  obtain ⟨x, H1, I1, rx, rfl, rfl, dd, v, rfl, ea, q⟩ := hh
  obtain rfl : u = Value.ref a := rx
  obtain ⟨ha, _⟩ := I1.pin (a, oe) (List.mem_append_left _ List.mem_cons_self)
  obtain ⟨vs, hd⟩ := hf
  have hx : ObjOk X.prog X.w H1 s1.heap dd (.xd [(fld, v)]) := I1.hok dd _ ea
  obtain ⟨mA, hns, hr⟩ := hx
  obtain ⟨od, ho, hl⟩ := lookIn_ns hns
  have l : List.lookup fld [(fld, v)] = some v := by simp [List.lookup]
  obtain ⟨u, hu, ru⟩ := RelO.some_of (v := v) (o := mA fld) (by rw [← l]; exact hr fld)
  have J : PySem.W.InstAt s1.heap a oe C (some od) := ⟨ha, hz.1, by unfold PySem.W.notCls; rw [hd] <;> rfl, by rw [hz.2]; exact ho⟩
  exact HandSPX.exc_get I1.kIn J T.ga T.gg T.exC (PySem.W.findObj_own T.hdC T.noN rfl (by rw [hl, hu])) (handed_of ru) ⟨v, H1, I1.tok _, ru, q⟩
end
end Ms

set_option Elab.async false
set_option linter.all false
set_option maxRecDepth 100000
set_option maxHeartbeats 4000000
/-! try with several clauses, each with a name. -/
namespace Ms
open PySem PySem.Spec PyProof.Rows L2
/-- the ends of a suite whose name, in slot i, goes behind it -/
def offEnds (i : Nat) (D : Ends) : Ends := { nx := fun σ H => D.nx (σ.set i none) H, rt := D.rt, bk := fun σ H => D.bk (σ.set i none) H, ct := fun σ H => D.ct (σ.set i none) H }
abbrev Cl := Value × Nat × (Addr → Value → Option Addr → TS)
def wAll (K : PySem.W.Frag) (n : Nat) (Wo : WX) (D : Ends) : List Cl → WX
  | [] => Wo
  | (c, i, ts) :: r => fun cls d σ H => ∃ b, PySem.W.exmOne K cls c = some b ∧ (b = true → ∀ a, H a = none → σ.length = n → ts a cls d (offEnds i D) (σ.set i (some (.ref a))) H) ∧ (b = false → wAll K n Wo D r cls d σ H)
inductive Clauses (X : Cx) : List ExceptHandler → List Cl → Prop
  | nil : Clauses X [] []
  | cons {x n : Str} {c : Value} {i : Nat} {ts : Addr → Value → Option Addr → TS} {b₀ : Stmt} {su : List Stmt} {np pp : Pos} {hs : List ExceptHandler} {l : List Cl} (nc : Names X x c) (ni : X.N[i]? = some n) (nl : X.env.kindOf n = some .local)
      (sr : ∀ (a : Addr) (oe : Obj) (cls : Value) (d : Option Addr) (pn : List (Addr × Obj)), Zc cls d oe → (∃ vs, oe.data = .fields vs) → PSs (X.suite a ((a, oe) :: pn)) (b₀ :: su) (ts a cls d)) (r : Clauses X hs l) :
      Clauses X (.ExceptHandler (some (.Name x np)) (some n) (b₀ :: su) pp :: hs) ((c, i, ts) :: l)
section
variable {X : Cx} {pins : List (Addr × Obj)} {σ : L2.St} {H : Hp} {sI s : Shared} {B : Heap} {a : Addr} {cls : Value} {d : Option Addr} {D : Ends} {Wo : WX}
/-- an exception that has landed: it may be asked for its class, and flies on where no clause is its own -/
structure Landed (X : Cx) (pins : List (Addr × Obj)) (σ : L2.St) (H : Hp) (sI s : Shared) (B : Heap) (a : Addr) (cls : Value) (d : Option Addr) : Prop where
  inv : Inv X pins σ H sI
  nb : ∀ b o, sI.heap.get? b = some o → b ∉ frs X.stack → B.get? b = some o
  up : sI.heap.UpToSlots s.heap
  fly : HandSPX.FlyingZ B (X.env :: X.outer) a (Zc cls d) s.heap
  na : H a = none
  os : s.os = sI.os
  ag : AllBare s.gens
  nL : a ≠ X.env.locals
  nF : a ∉ X.fs
theorem Landed.here (F : Landed X pins σ H sI s B a cls d) : Inv X pins σ H s := F.inv.landed F.nb F.fly.1 F.up F.os F.ag
theorem clauses_run (hst : X.stack = X.env :: X.outer) (hfr : X.env.frame = some X.env.locals) (hN : X.N.Nodup) (tk : Takes X Wo) {hs : List ExceptHandler} {l : List Cl} (C : Clauses X hs l) :
    ∀ {s : Shared}, Landed X pins σ H sI s B a cls d → wAll X.K X.N.length Wo D l cls d σ H → wpAny (model X.prog X.w) X.A (handleBy (.ref a) X.env hs) (SP X pins D) X.xe s := by
  induction C with
  | nil =>
    intro s F q
    have fly := F.fly
    obtain ⟨_, _, _, oe, vs, T, _, _, he, _, hd, h1, _⟩ := id fly
    refine wpAny_handleBy_nil ?_
    unfold PySem.passOn
    refine wpAny_bind (wpAny_field he hd h1 ?_)
    rw [if_neg (show ¬ ((Value.ref T == Value.none) = true) by simp)]
    have go : wpAny (model X.prog X.w) X.A (setFlight (.ref a) X.env.frame) (fun _ s4 => wpAny (model X.prog X.w) X.A (throw (.ref a) : Sem Flow) (SP X pins D) X.xe s4) X.xe s := by
      rw [hfr]
      exact HandSPX.setFlight_upZ fly fun h4 y4 u4 => wpAny_throw (tk _ _ ⟨a, B, sI, pins, σ, H, cls, d, rfl, F.inv, F.nb, F.up.trans u4, .inr (.inr (by rw [hst]; exact y4)), F.na, F.os, F.ag, q⟩)
    first
      | exact wpAny_bind (wpAny_pure (wpAny_bind go))
      | exact wpAny_bind go
  | @cons x n c i ts b₀ su np pp hs l nc ni nl sr r ih =>
    intro s F q
    obtain ⟨hp, g, dr, tk0, os0⟩ := s
    obtain ⟨b, eb, yes, no⟩ := q
    have J := F.here
    obtain ⟨oe, vs, he, hz, hd⟩ := F.fly.there
    have S := J.suite he hd F.na F.nL F.nF
    have lt : PySem.W.Looks (model X.prog X.w) hp (typeOf (.ref a)) cls := fun A Q E s k y => wpAny_typeOf_ref (k _ _ he) (by rw [hz.1]; exact y)
    have lm := PySem.W.exm_one (M := model X.prog X.w) J.kIn lt eb
    have asked : ∀ {Q : Value → Shared → Prop} {E : Value → Shared → Prop}, Q c ⟨hp, g, dr, tk0, os0⟩ → wpAny (model X.prog X.w) (X.A.mark (some (.ref a))) (eval (.Name x np) X.env) Q E ⟨hp, g, dr, tk0, os0⟩ := fun {Q E} y => by
      obtain ⟨k1, k2, k3 | ⟨k3, k4, k5⟩⟩ := nc
      · exact ld_glob (X := X.suite a ((a, oe) :: (X.pn ++ pins))) S k1 k3 y k2
      · exact ld_blt (X := X.suite a ((a, oe) :: (X.pn ++ pins))) S k1 k3 k4 y k5 k2
    refine wpAny_handleBy_cons (codeAny_handlers_test ?_) (by intro z; cases z)
    refine asked (lm.here ?_)
    cases b with
    | false => exact ih F (no rfl)
    | true =>
      refine codeAny_handlers_suite_as (HandSPX.lands_againZ F.fly fun h4 f4 u4 => ?_)
      have F4 : Landed X pins σ H sI ⟨h4, g, dr, tk0, os0⟩ B a cls d := ⟨F.inv, F.nb, F.up.trans u4, f4, F.na, F.os, F.ag, F.nL, F.nF⟩
      obtain ⟨oe4, vs4, he4, hz4, hd4⟩ := F4.fly.there
      have S4 := F4.here.suite he4 hd4 F.na F.nL F.nF
      refine store_ok (X := X.suite a ((a, oe4) :: (X.pn ++ pins))) (v := .ref a) S4 hN ni (.inl nl) rfl (fun s5 S5 => ?_) (.inr nl)
      refine wpAny_mono ((sr a oe4 cls d (X.pn ++ pins) hz4 ⟨_, hd4⟩).run [] s5 _ H _ S5 (yes rfl a F.na F.inv.len)) (fun f s6 y => ?_) (fun _ _ z => z.elim)
      have off : ∀ {τ : L2.St} {H6 : Hp} {Q : Shared → Prop}, Inv (X.suite a ((a, oe4) :: (X.pn ++ pins))) [] τ H6 s6 → (∀ s7, Inv X pins (τ.set i none) H6 s7 → Q s7) →
          wpAny (model X.prog X.w) X.A (do bindName X.env n .none; unbindBehindTheSuite X.env n pp) (fun _ s7 => Q s7) X.xe s6 := fun {τ H6 Q} S6 k => gone_ok (S6.unsuite J.ok) hN ni nl k
      cases f with
      | ret u =>
        obtain ⟨v6, τ, H6, S6, r6, q6⟩ := y
        exact off S6 fun s7 J7 => ⟨_, _, _, J7, r6, q6⟩
      | next =>
        obtain ⟨τ, H6, S6, q6⟩ := y
        exact off S6 fun s7 J7 => ⟨_, _, J7, q6⟩
      | brk =>
        obtain ⟨τ, H6, S6, q6⟩ := y
        exact off S6 fun s7 J7 => ⟨_, _, J7, q6⟩
      | cont =>
        obtain ⟨τ, H6, S6, q6⟩ := y
        exact off S6 fun s7 J7 => ⟨_, _, J7, q6⟩
/-- try: body, except x as n: suite, except y as m: suite, .. -/
theorem ps_try_all {body : List Stmt} {h₀ : ExceptHandler} {hs : List ExceptHandler} {l : List Cl} {pos : Pos} {tb : WX → TS} (hst : X.stack = X.env :: X.outer) (hfr : X.env.frame = some X.env.locals) (hN : X.N.Nodup) (tk : Takes X Wo)
    (hb : ∀ (W : WX) (pn : List (Addr × Obj)) (xe : Value → Shared → Prop), Takes (X.tr pn xe) W → PassesOwn (model X.prog X.w) X.A X.env xe → PSs (X.tr pn xe) body (tb W)) (C : Clauses X (h₀ :: hs) l) :
    PS X (.Try body (h₀ :: hs) [] [] pos) (fun D σ H => tb (wAll X.K X.N.length Wo D l) D σ H) := by
  refine ⟨fun pins s σ H D I h => ?_⟩
  have ok := I.ok
  have frm : X.A.frames = some (X.env :: X.outer) := by rw [ok.frames, hst]
  refine wpAny_Try_except (wpAny_mono ((hb (wAll X.K X.N.length Wo D l) (X.pn ++ pins) _ (fun u s' y => ?_) PassesOwn.looking).run [] s σ H D (I.toTry _) h) (fun f s1 y => ?_) (fun _ _ z => z))
  · obtain ⟨a, B, sI, pins', σ', H', cls, d, rfl, J', nb, up, sky, na, os, ag, q⟩ := y
    show wpAny (model X.prog X.w) X.A (noteFrame (.ref a) X.env) _ _ _
    refine Sky.land Zc.steady frm hfr (by rw [← hst]; exact sky) fun h3 f3 u3 => ?_
    obtain ⟨oe, vs, he, hz, hd⟩ := f3.there
    have out : a ∉ frs (X.env :: X.outer) := fun hm => by
      obtain ⟨_, o', e', nf⟩ := f3.2.2.1.mem hm
      rw [he] at e'
      cases e'
      exact nf _ hd
    refine clauses_run hst hfr hN tk C (s := { s' with heap := h3 }) ⟨J'.ofTry ok, nb, up.trans u3, f3, na, os, ag, fun z => out (List.mem_filterMap.mpr ⟨X.env, List.mem_cons_self, by rw [hfr, z]⟩), fun hm => ?_⟩ q
    obtain ⟨e, he2, q2⟩ := List.mem_filterMap.mp hm
    exact out (List.mem_filterMap.mpr ⟨e, List.mem_cons_of_mem _ he2, q2⟩)
  · cases f with
    | next =>
      obtain ⟨σ', H', J', q⟩ := y
      exact wpAny_execs_nil ⟨σ', H', J'.ofTry ok, q⟩
    | ret u =>
      obtain ⟨v, σ', H', J', r, q⟩ := y
      exact ⟨v, σ', H', J'.ofTry ok, r, q⟩
    | brk =>
      obtain ⟨σ', H', J', q⟩ := y
      exact ⟨σ', H', J'.ofTry ok, q⟩
    | cont =>
      obtain ⟨σ', H', J', q⟩ := y
      exact ⟨σ', H', J'.ofTry ok, q⟩
end
end Ms

set_option Elab.async false
set_option linter.all false
set_option maxRecDepth 100000
set_option maxHeartbeats 4000000
/-! Defs with their code objects and defaults; tables; a lambda handed to a def that tries it; the end. -/
namespace Ms
open PySem PySem.Spec PyProof.Rows L2 LamX
/-- a def of the top: dvs its defaults, c its code object -/
structure FunC (K : PySem.W.Frag) (x qual : Str) (st : Stmt) (dvs : List V) (f : Addr) (fd : FuncData) (c : Addr) : Prop where
  ex : ∃ (oc : Value) (od : Option Addr) (dV kV doc pm : Value) (an : Option Addr) (ct : Value) (osl : Array (Option Value)),
    fd = PySem.W.fnOf x qual (defArgs st) (defBody st) (defScope st) dV kV doc pm an (.ref c) ct ∧ K.lookup f = some ⟨oc, od, .func fd, osl⟩ ∧ PySem.W.codeIn K (.ref c) qual = true ∧ DflV K dV dvs
  kp : PySem.W.keepIn K (.ref f) = true
section
variable {P : Program} {w : World} {K : PySem.W.Frag} {mg : Str → Option Value} {base : Heap} {x qual : Str} {st : Stmt} {dvs : List V} {f : Addr} {fd : FuncData} {c : Addr} {N ps : List Str} {k : Nat} {sp : Sp}
theorem FunC.toD (F : FunC K x qual st dvs f fd c) : FunD K x qual (defArgs st) (defBody st) (defScope st) dvs [] f fd := by
  obtain ⟨oc, od, dV, kV, doc, pm, an, ct, osl, h1, h2, h3, h4⟩ := F.ex
  exact ⟨⟨oc, od, dV, kV, doc, pm, an, .ref c, ct, osl, h1, h2, h3, h4, .inl rfl⟩, F.kp⟩
/-- a def that may let out what CX says -/
theorem FunC.okX {CX : CXT} (F : FunC K x qual st dvs f fd c) (S : FnScope N ps (defScope st)) (len : ∀ vs H Q E, sp vs H Q E → vs.length = ps.length)
    (hbody : ∀ (A : Around) (outer : List Env) (s : Shared) (H : Hp) (vs : List V) (Q : VK) (E : XK), Room k (A.deeper (envOfC qual (defScope st) s.heap.objs.size f (.ref c))) → sp vs H Q E →
      ∃ t, PSs (cxOf CX P w K mg base N qual (defScope st) f (.ref c) A outer s H E) (defBody st) t ∧ t { nx := fun _ H' => Q .non H', rt := Q } (start N vs) H) : FnOk P w K mg base CX (k + 1) f fd ps sp := by
  obtain ⟨oc, od, dV, kV, doc, pm, an, ct, osl, rfl, lk, hcd, _⟩ := F.ex
  exact fn_of lk hcd S len fun A outer s H vs Q E hr hsp => hbody A outer s H vs Q E hr hsp
/-- a def that lets nothing out -/
theorem FunC.ok (F : FunC K x qual st dvs f fd c) (S : FnScope N ps (defScope st)) (len : ∀ vs H Q E, sp vs H Q E → vs.length = ps.length)
    (hbody : ∀ (A : Around) (outer : List Env) (s : Shared) (H : Hp) (vs : List V) (Q : VK) (E : XK), Room k (A.deeper (envOfC qual (defScope st) s.heap.objs.size f (.ref c))) → sp vs H Q E →
      ∃ t, PSs (cxOf CX0 P w K mg base N qual (defScope st) f (.ref c) A outer s H E).nox (defBody st) t ∧ t { nx := fun _ H' => Q .non H', rt := Q } (start N vs) H) : FnOk P w K mg base CX0 (k + 1) f fd ps sp :=
  F.okX S len fun A outer s H vs Q E hr h => let ⟨t, a, b⟩ := hbody A outer s H vs Q E hr h; ⟨t, a.nox, b⟩
theorem FunC.binds (F : FunC K x qual st [] f fd c) (h : ∀ (kV doc pm : Value) (an : Option Addr) (ct : Value) (us : List Value), us.length = ps.length → bindArgs (PySem.W.fnOf x qual (defArgs st) (defBody st) (defScope st) .none kV doc pm an (.ref c) ct) ⟨us, []⟩ = pure (ps.zip us)) : Binds K fd ps [] := by
  obtain ⟨oc, od, dV, kV, doc, pm, an, ct, osl, rfl, lk, hcd, hd⟩ := F.ex
  rcases hd with ⟨_, rfl⟩ | ⟨z, _⟩
  · exact .all (h kV doc pm an ct)
  · exact absurd rfl z
theorem func_mk {oc : Value} {od an : Option Addr} {osl : Array (Option Value)} {dV kV doc pm ct : Value} (l : K.lookup f = some ⟨oc, od, .func (PySem.W.fnOf x qual (defArgs st) (defBody st) (defScope st) dV kV doc pm an (.ref c) ct), osl⟩)
    (hc : PySem.W.codeIn K (.ref c) qual = true) (hk : PySem.W.keepIn K (.ref f) = true) (hd : DflV K dV dvs) : FunC K x qual st dvs f (PySem.W.fnOf x qual (defArgs st) (defBody st) (defScope st) dV kV doc pm an (.ref c) ct) c :=
  ⟨⟨oc, od, dV, kV, doc, pm, an, ct, osl, rfl, l, hc, hd⟩, hk⟩
theorem dfl_one {t : Addr} {cl : Value} {dd : Option Addr} {n : Nat} {sl : Array (Option Value)} {v : V} {u : Value} (h : K.lookup t = some ⟨cl, dd, .seq #[u] n, sl⟩) (r : RelV v u) : DflV K (.ref t) [v] :=
  .inr ⟨List.cons_ne_nil _ _, t, _, [u], n, rfl, h, rfl, .cons r .nil⟩
end
/-! ### tables -/
/-- all but a and the tables is as it was -/
def Ext (a : Addr) (H H' : Hp) : Prop := ∀ b o, b ≠ a → H b = some o → (∀ ps, o ≠ .tbl ps) → H' b = some o
theorem tabs_at {T : List (Addr × Str)} {a : Addr} {H H' : Hp} {xs : List V} (t : Tabs T H) (ha : H a = some (.lst xs)) (k : ∀ b o, b ≠ a → H b = some o → H' b = some o) : Tabs T H' := fun p hp => by
  obtain ⟨ps, h1, h2, h3⟩ := t p hp
  refine ⟨ps, k _ _ (fun z => by rw [z, ha] at h1; cases h1) h1, h2, fun pos cv hc => ?_⟩
  obtain ⟨c, e1, e2⟩ := h3 pos cv hc
  exact ⟨c, e1, k _ _ (fun z => by rw [z, ha] at e2; cases e2) e2⟩
theorem Tabs.same {T : List (Addr × Str)} {H H' : Hp} (t : Tabs T H) (s : Same H H') : Tabs T H' := t.ext fun b o e => s b o e
theorem ExtN.lst {H H' : Hp} {a : Addr} {xs : List V} (e : ExtN H H') (h : H a = some (.lst xs)) : H' a = some (.lst xs) := e _ _ h fun _ z => by cases z
theorem ExtN.tup {H H' : Hp} {a : Addr} {xs : List V} (e : ExtN H H') (h : H a = some (.tup xs)) : H' a = some (.tup xs) := e _ _ h fun _ z => by cases z
theorem ExtN.same {H H1 H2 : Hp} (e : ExtN H H1) (s : Same H1 H2) : ExtN H H2 := e.trans (.of fun b o q => s b o q)
theorem Same.extN {H H1 H2 : Hp} (s : Same H H1) (e : ExtN H1 H2) : ExtN H H2 := (ExtN.of fun b o q => s b o q).trans e
theorem ExtN.seq {K : PySem.W.Frag} {H H' : Hp} {a : Addr} {xs : List V} (e : ExtN H H') (h : SqL K H a xs) : SqL K H' a xs := by
  rcases h with (h | ⟨o, h⟩) | h
  · exact .inl (.inl (e _ _ h fun _ z => by cases z))
  · exact .inl (.inr ⟨o, e _ _ h fun _ z => by cases z⟩)
  · exact .inr h
/-! ### a def tries what it got -/
/-- x = a() within a try: what is let out goes by Ech -/
def tAct (i : Nat) (f c' : Addr) (q : Str) (tl : XK → Hp → VK → Prop) (W : WX) : TS := fun D σ H => ∃ Ech : XK, (∀ cls d σ' H', Ech cls d H' → W cls d σ' H') ∧ σ[0]? = some (some (.ref f)) ∧ H c' = some (CodeO c' q) ∧ tl Ech H fun v H' => D.nx (σ.set i (some v)) H'
/-- a() within a try -/
def tActE (f c' : Addr) (q : Str) (tl : XK → Hp → VK → Prop) (W : WX) : TS := fun D σ H => ∃ Ech : XK, (∀ cls d σ' H', Ech cls d H' → W cls d σ' H') ∧ σ[0]? = some (some (.ref f)) ∧ H c' = some (CodeO c' q) ∧ tl Ech H fun _ H' => D.nx σ H'
theorem pss_act {Z : Cx} {i : Nat} {f c' : Addr} {q a x : Str} {tl : XK → Hp → VK → Prop} {W : WX} {px p1 p2 p3 : Pos}
    (act : ∀ (E : XK) (p1 p2 : Pos), (∀ cls d σ' H', E cls d H' → W cls d σ' H') → PE Z (.Call (.Name a p1) [] [] p2) (fun σZ HZ Q => σZ[0]? = some (some (.ref f)) ∧ HZ c' = some (CodeO c' q) ∧ tl E HZ Q))
    (nd : Z.N.Nodup) (hi : Z.N[i]? = some x) (hx : Loc Z.env.scope x) (hf : Z.fn x = true ∨ Z.env.scope.names.lookup x = some .local := by first | exact .inl rfl | exact .inr rfl)
    (hs : swapsWith (.Call (.Name a p1) [] [] p2) (some (.Name x px)) p3.line Z.env = pure false := by rfl) : PSs Z [.Assign [.Name x px] (.Call (.Name a p1) [] [] p2) p3] (tAct i f c' q tl W) := by
  refine ⟨fun pins s σ H D I h => ?_⟩
  obtain ⟨Ech, hW, h1, h2, h3⟩ := h
  exact (pss_one (ps_asg (act Ech p1 p2 hW) (pg_name nd hi hx hf) hs)).run pins s σ H D I ⟨h1, h2, h3⟩
/-! ### the end -/
/-- the tables of the named defs are empty -/
def OwnTabs (K : PySem.W.Frag) (mg : Str → Option Value) (q : Program) (h : Heap) : Prop := ∀ (x : Str) (fb : Addr), ((recsOf q).any fun e => e.name == x) = true → mg x = some (.ref fb) → OwnTab K fb h
theorem walk_tabs {l : PySem.W.OpenLaw} {n k : Nat} {q : Program} {loose : List Str} {XP : (Str → Option Value) → Heap → Prop} {YP : World → Heap → Prop} {d : DefRec} {K : Params → PySem.W.Frag} {CX : World → CXT} {x : Str}
    (hn : l.most = some n) (hn2 : n ≤ sizeLine) (hdf : d.params.defaults = []) (hr : Room k callerA) (hY : ∀ (w : World) (h : Heap), YP w h → (K w.params).In h)
    (F : ∀ (w : World) (mg : Str → Option Value) (fa : Addr) (h : Heap), (K w.params).In h → h.Ns mainGlobals mg → mg d.name = some (.ref fa) → OwnTabs (K w.params) mg q h → LawAtS l w (K w.params) (CX w) k n x mg fa h)
    (hCX : ∀ (w : World) (H : Hp) (s : Shared) (e : Value) (s' : Shared), CX w [] H s (fun _ _ _ => False) e s' → False) :
    PySem.W.WalkO q loose XP YP l.row.toRowW d [] (fun f vs => PySem.call f vs) := by
  refine Att.attach_callB hn hdf fun w s₀ s₁ mg mb fa o pm cd doc a vs ns G Y ho hd hcd hmg hobj hints hlen hbits hg => ?_
  have KX := hY w _ Y
  have own : OwnTabs (K w.params) mg q s₁.heap := fun x fb hx hb c P o1 fd1 e dd vs1 sl k1 k2 k3 k4 k5 => by
    obtain ⟨dL, hm, hn1⟩ := List.any_eq_true.mp hx
    obtain ⟨a', o', fd', c', P', h1, h2, h3, h4, _, ⟨⟨oc, vc, e1, _, e3, e4⟩, hP⟩⟩ := G.T.tab dL hm
    rw [beq_iff_eq.mp hn1, hb] at h1
    cases h1
    rw [KX _ _ k1] at h2
    cases h2
    rw [k2] at h3
    cases h3
    rw [k3] at h4
    cases h4
    rw [KX _ _ k4] at e1
    cases e1
    cases e3
    rw [k5] at e4
    cases e4
    exact hP
  obtain ⟨fd, cs, sp, hT, nT, C, hb, hsp, hF⟩ := F w mg fa _ KX G.T.g hmg own
  exact law_callTs KX G.T.g G.T.b G.T.builtins G.T.nolimit hg hT nT C G.T.bmain hobj hints (Nat.le_trans hlen hn2) hr hF hb (fun H hH hS => hsp H a ns hlen hbits hH hS) fun H e s' => hCX w H s₁ e s'
end Ms

set_option Elab.async false
set_option linter.all false
set_option maxRecDepth 100000
set_option maxHeartbeats 4000000
/-! An own exception's facts, from what is written; tables at the end. -/
namespace PySem
namespace Sx
open PySem.W PySem.Calls PyProof.Rows PySem.HandSPX
theorem Txt.of {prog : Program} {K : Frag} {h : Heap} {mg : Str → Option Value} {nm fld : Str} {C fI : Addr} (X : K.In h) (G : h.Ns mainGlobals mg)
    {nm' q : Str} {N : Addr} {bs bm : List Value} {sn sub ab col dd k0 k1 k2 k3 k5}
    {qual msg : Str} {oc : Value} {od : Option Addr} {doc pm : Value} {an : Option Addr} {ct : Value} {osl : Array (Option Value)} {p1 p2 c0 c1 c2 c3 c4 c5 q1 q2 q3 q4 : Pos} {j : Nat} {cda cc : Addr} {ccl : Value} {cdd : Option Addr} {vs : Array Value} {ccs : Array (Option Value)}
    {cl : Value} {cld : Option Addr} {csl : Array (Option Value)} {file : Str} {tf : Tok}
    (gC : nsIn K mainGlobals nm = some (some (.ref C)))
    (cls1 : K.lookup C = some (excClassObj nm' q C N bs bm true sn sub ab col dd k0 k1 k2 k3 k5 "ValueError.__new__")) (cls2 : refsVE bm = true) (cls3 : alongIn K "__init__" bm = some (some (.builtin "ValueError.__init__")))
    (sa : findIn K (.ref C) "__setattr__" = some (some (.builtin "object.__setattr__")))
    (ga : findIn K (.ref C) "__getattribute__" = some (some (.builtin "BaseException.__getattribute__")))
    (gg : findIn K (.ref C) "__getattr__" = some none)
    (noN : findIn K (.ref C) fld = some none)
    (iC : findIn K (.ref C) "__init__" = some (some (.ref fI)))
    (tC : typeIn K (.ref fI) = some (.type "function"))
    (kC : keepIn K (.ref C) = true)
    (exC : subIn K (.ref C) (.type "BaseException") = some true)
    (vaC : subIn K (.ref C) (.type "ValueError") = some true)
    (meC : mroIn K C (.ref C) = some true)
    (tyC : typeIn K (.ref C) = some (.type "type"))
    (isC : isClsIn K C = true)
    (hdC : hasDictIn K C = true)
    (opq : nsIn K cStatics "thirdparty.any" = some none)
    (sup : nsIn K mainGlobals "super" = some none)
    (l1 : K.lookup fI = some ⟨oc, od, .func (iF fld msg qual p1 p2 c0 c1 c2 c3 c4 c5 q1 q2 q3 q4 j doc pm an cda ct cc), osl⟩) (l2 : codeIn K (.ref cda) qual = true)
    (l3 : K.lookup cda = some ⟨ccl, cdd, .fields vs, ccs⟩) (l4 : vs[2]? = some (.str file tf)) (l5 : ((prog.main.file : Str) == file) = true) (l6 : K.lookup cc = some ⟨cl, cld, .cell (some (.ref C)), csl⟩)
    (top : (prog.main.scope.names.lookup ("super" : Str)).isSome = false)
    (fne : (("self" : Str) == fld) = false)
    (fks : (iS fld).names.lookup ("super" : Str) = some .globalImplicit)
    (fkc : (iS fld).names.lookup ("__class__" : Str) = some .free)
    (fdb : (fld == ("__debug__" : Str)) = false)
    (te : exmOne K (.ref C) (.ref C) = some true)
    (bnd : ∀ (s : Shared) (x v : Value), BindsTo s (iF fld msg qual p1 p2 c0 c1 c2 c3 c4 c5 q1 q2 q3 q4 j doc pm an cda ct cc) ⟨[x, v], []⟩ [("self", x), (fld, v)])
    (ev : ∃ pl : Sem Bool, ∀ L : Addr, eval (.Call (.Attribute (.Call (.Name "super" c0) [] [] c1) "__init__" c2) [.Constant (.str msg) j c3] [] c4) (callEnv (iF fld msg qual p1 p2 c0 c1 c2 c3 c4 c5 q1 q2 q3 q4 j doc pm an cda ct cc) L fI) = (do
      let ov ← attributeBase (.Call (.Name "super" c0) [] [] c1) "__init__" (callEnv (iF fld msg qual p1 p2 c0 c1 c2 c3 c4 c5 q1 q2 q3 q4 j doc pm an cda ct cc) L fI) (eval (.Call (.Name "super" c0) [] [] c1) (callEnv (iF fld msg qual p1 p2 c0 c1 c2 c3 c4 c5 q1 q2 q3 q4 j doc pm an cda ct cc) L fI))
      standAt c2.atName
      let (f, first) ← holding [ov] (getMethod ov "__init__" pl)
      callWith c4 f first (backTo c4 (starEach [.Constant (.str msg) j c3] (callEnv (iF fld msg qual p1 p2 c0 c1 c2 c3 c4 c5 q1 q2 q3 q4 j doc pm an cda ct cc) L fI))) [])) :
    Txt prog K mg nm fld C fI :=
  { gC := mg_of X G gC, cls := ⟨_, _, _, _, _, _, _, _, _, _, _, _, _, _, _, cls1, cls2, cls3⟩, sa := sa, ga := ga, gg := gg, noN := noN, iC := iC, tC := tC, kC := kC, exC := exC, vaC := vaC, meC := meC, tyC := tyC, hdC := hdC, te := te, opq := opq, sup := mg_none_of X G sup, top := top, fne := fne, fks := fks, fkc := fkc, fdb := fdb,
    fn := ⟨_, _, _, _, _, _, _, _, _, _, _, _, _, _, _, _, _, _, _, _, _, _, _, _, _, _, _, _, _, _, _, _, _, l1, l2, l3, l4, l5, l6, bnd, ev⟩ }
end Sx
end PySem

set_option Elab.async false
set_option linter.all false
set_option maxRecDepth 100000
set_option maxHeartbeats 4000000
/-! isinstance(e, ValueError) of an own exception: True. -/
namespace Ms
open PySem PySem.Spec PyProof.Rows L2 LamX PySem.W
theorem isi_sub {prog : Program} {w : World} {A : Around} {E : Value → Shared → Prop} {s : Shared} {K : PySem.W.Frag} {a C : Addr} {Q : Value → Shared → Prop} (X : K.In s.heap)
    (ty : PySem.W.Looks (model prog w) s.heap (typeOf (.ref a)) (.ref C)) (sb : subIn K (.ref C) (.type "ValueError") = some true) (hq : Q (.bool true) s) : wpAny (model prog w) A (call (.builtin "isinstance") [.ref a, .type "ValueError"]) Q E s := by
  refine call_isinstance_of ?_
  show wpAny _ _ (typeOf (.ref a) >>= fun t => if (t == Value.type "ValueError") = true then _ else _) _ _ _
  refine wpAny_bind (ty _ _ _ s (fun _ _ e => e) ?_)
  rw [if_neg (by simp)]
  rw [show typeOf (Value.type "ValueError") = pure (Value.type "type") from rfl]
  refine wpAny_bind (wpAny_pure ?_)
  rw [if_pos (by decide)]
  refine wpAny_bind ?_
  show wpAny _ _ (PySem.isType (.type "ValueError") >>= fun r => if (!r) = true then _ else _) _ _ _
  rw [show PySem.isType (Value.type "ValueError") = pure true from rfl]
  refine wpAny_bind (wpAny_pure ?_)
  rw [if_neg (by decide)]
  show wpAny _ _ (PySem.isInstance (.ref a) (.type "ValueError") >>= fun r => if r = true then pure true else _) _ _ _
  refine wpAny_bind ?_
  show wpAny _ _ (typeOf (.ref a) >>= fun t => isSubtype t (.type "ValueError")) _ _ _
  refine wpAny_bind (ty _ _ _ s (fun _ _ e => e) ?_)
  refine (looks_subIn X sb) _ _ _ s (fun _ _ e => e) ?_
  rw [if_pos rfl]
  exact wpAny_pure (wpAny_pure hq)
/-- isinstance(n, ValueError), n the exception that the suite holds -/
theorem call_isV {X : Cx} {a : Addr} {oe : Obj} {cls : Value} {d : Option Addr} {pn : List (Addr × Obj)} (hz : Zc cls d oe) (hf : ∃ vs, oe.data = .fields vs) :
    CallR (X.suite a ((a, oe) :: pn)) (.builtin "isinstance") (fun xs H Q => ∃ C, xs = [.ref a, .ty "ValueError"] ∧ cls = .ref C ∧ subIn X.K (.ref C) (.type "ValueError") = some true ∧ Q (.bl true) H) := by
  rintro pins s σ H xs us Q I r ⟨C, rfl, rfl, sb, q⟩
  cases r with
  | @cons _ u _ us rx rr =>
    cases rr with
    | @cons _ u2 _ us2 rt rr =>
      cases rr
      obtain rfl : u = Value.ref a := rx
      obtain rfl : u2 = Value.type "ValueError" := rt
      obtain ⟨ha, _⟩ := I.pin (a, oe) (List.mem_append_left _ List.mem_cons_self)
      obtain ⟨vs, hd⟩ := hf
      refine isi_sub I.kIn (fun A Q E s k y => wpAny_typeOf_ref (k _ _ ha) (by rw [hz.1]; exact y)) sb ?_
      exact ⟨.bl true, H, I, rfl, q⟩
end Ms

set_option Elab.async false
set_option linter.all false
set_option maxRecDepth 100000
set_option maxHeartbeats 4000000
/-! a text times a number -/
namespace Ms
open PySem PySem.Spec PyProof.Rows L2
theorem op_mulS {X : Cx} : OpR X (binaryOp .Mult) (fun x y H Q => ∃ z n, x = .str z ∧ y = .int n ∧ MulOk z n ∧ Q (.str (Txt.mul z n)) H) := by
  intro pins s σ H x y v u Q I rx ry h
  obtain ⟨z, n, rfl, rfl, hm, q⟩ := h
  obtain ⟨t, rfl⟩ := rx
  obtain ⟨t2, rfl⟩ := ry
  exact SB.mul hm fun t' k => ⟨.str _, H, I.tok _, ⟨t', rfl⟩, q⟩
end Ms

set_option Elab.async false
set_option linter.all false
set_option maxRecDepth 100000
set_option maxHeartbeats 4000000
/-! a tuple of a number and a list of numbers, less than another. -/
namespace Ms
open PySem PySem.Spec PyProof.Rows L2
theorem ints_at {xs : List Value} {ns : List Int} (h : IntsAre xs ns) : ∀ (i : Nat), (xs[i]? = none ∧ ns[i]? = none) ∨ ∃ n t, xs[i]? = some (.int n t) ∧ ns[i]? = some n := by
  induction h with
  | nil => intro i; exact .inl ⟨rfl, rfl⟩
  | cons n t _ ih =>
    intro i
    cases i with
    | zero => exact .inr ⟨n, t, rfl, rfl⟩
    | succ i => exact ih i
theorem ints_len {xs : List Value} {ns : List Int} (h : IntsAre xs ns) : xs.length = ns.length := by
  induction h with
  | nil => rfl
  | cons n t _ ih => rw [List.length_cons, List.length_cons, ih]
theorem drop_at {ns : List Int} {i : Nat} {n : Int} (h : ns[i]? = some n) : ns.drop i = n :: ns.drop (i + 1) := by
  obtain ⟨hl, e⟩ := List.getElem?_eq_some_iff.mp h
  rw [List.drop_eq_getElem_cons hl, e]
theorem drop_no {ns : List Int} {i : Nat} (h : ns[i]? = none) : ns.drop i = [] := List.drop_eq_nil_of_le (List.getElem?_eq_none_iff.mp h)
theorem ll_loop {prog : Program} {w : World} {la lb : Addr} {xs ys : Array Value} {ns ms : List Int} (hx : IntsAre xs.toList ns) (hy : IntsAre ys.toList ms) :
    ∀ (k i : Nat), ns.length - i = k → i ≤ ns.length → i ≤ ms.length → ∀ {A : Around} {R : Result → Shared → Prop} {s : Shared}, s.heap.IsList la xs → s.heap.IsList lb ys → R (.ok (.ret (.bool (HT.lexLt (ns.drop i) (ms.drop i))))) s →
      codeAny (model prog w) A (.builtin "list.__eq__.loop" ⟨[.ref la, .ref lb, rawInt (i : Nat), rawInt (0 : Nat)], []⟩) R s := by
  have l1 : xs.size = ns.length := by rw [← ints_len hx]; simp
  have l2 : ys.size = ms.length := by rw [← ints_len hy]; simp
  have ex0 : ∀ i, ns[i]? = none → xs[((i : Nat) : Int).toNat]? = none := fun i e => by
    rcases ints_at hx i with ⟨a, b⟩ | ⟨n, t, a, b⟩
    · simpa using a
    · rw [e] at b; cases b
  have ey0 : ∀ i, ms[i]? = none → ys[((i : Nat) : Int).toNat]? = none := fun i e => by
    rcases ints_at hy i with ⟨a, b⟩ | ⟨n, t, a, b⟩
    · simpa using a
    · rw [e] at b; cases b
  have ex1 : ∀ i n, ns[i]? = some n → ∃ t, xs[((i : Nat) : Int).toNat]? = some (.int n t) := fun i n e => by
    rcases ints_at hx i with ⟨a, b⟩ | ⟨n', t, a, b⟩
    · rw [e] at b; cases b
    · rw [e] at b; cases b
      exact ⟨t, by simpa using a⟩
  have ey1 : ∀ i n, ms[i]? = some n → ∃ t, ys[((i : Nat) : Int).toNat]? = some (.int n t) := fun i n e => by
    rcases ints_at hy i with ⟨a, b⟩ | ⟨n', t, a, b⟩
    · rw [e] at b; cases b
    · rw [e] at b; cases b
      exact ⟨t, by simpa using a⟩
  intro k
  induction k with
  | zero =>
    intro i hk hi1 hi2 A R s h1 h2 hq
    obtain ⟨o1, g1, c1, n1, d1⟩ := h1
    obtain ⟨o2, g2, c2, n2, d2⟩ := h2
    refine codeAny_builtin MeetsSeq3.entry_eq_loop ?_
    refine wpAny_bind (wpAny_listItems g1 d1 ?_)
    refine wpAny_bind (wpAny_listItems g2 d2 ?_)
    have e1 : ns[i]? = none := List.getElem?_eq_none_iff.mpr (by omega)
    rw [ex0 i e1]
    refine wpAny_bind (wpAny_listItems g1 d1 ?_)
    refine wpAny_bind (wpAny_listItems g2 d2 ?_)
    refine wpAny_pure ?_
    show R (.ok (.ret (.bool (decide (xs.size < ys.size))))) s
    rw [drop_no e1] at hq
    cases e2 : ms[i]? with
    | none =>
      rw [drop_no e2, HT.lexLt_nil_nil] at hq
      have := List.getElem?_eq_none_iff.mp e2
      rw [decide_eq_false (by omega)]
      exact hq
    | some m =>
      rw [drop_at e2, HT.lexLt_nil_cons] at hq
      have := (List.getElem?_eq_some_iff.mp e2).1
      rw [decide_eq_true (by omega)]
      exact hq
  | succ k ih =>
    intro i hk hi1 hi2 A R s h1 h2 hq
    have h1' := h1
    have h2' := h2
    obtain ⟨o1, g1, c1, n1, d1⟩ := h1
    obtain ⟨o2, g2, c2, n2, d2⟩ := h2
    refine codeAny_builtin MeetsSeq3.entry_eq_loop ?_
    refine wpAny_bind (wpAny_listItems g1 d1 ?_)
    refine wpAny_bind (wpAny_listItems g2 d2 ?_)
    have hl : i < ns.length := by omega
    have e1 : ns[i]? = some ns[i] := List.getElem?_eq_getElem hl
    obtain ⟨t, ex⟩ := ex1 i _ e1
    rw [ex]
    rw [drop_at e1] at hq
    cases e2 : ms[i]? with
    | none =>
      rw [ey0 i e2]
      refine wpAny_bind (wpAny_listItems g1 d1 ?_)
      refine wpAny_bind (wpAny_listItems g2 d2 ?_)
      refine wpAny_pure ?_
      show R (.ok (.ret (.bool (decide (xs.size < ys.size))))) s
      rw [drop_no e2, HT.lexLt_cons_nil] at hq
      have := List.getElem?_eq_none_iff.mp e2
      rw [decide_eq_false (by omega)]
      exact hq
    | some m =>
      obtain ⟨u, ey⟩ := ey1 i m e2
      rw [ey]
      rw [drop_at e2, HT.lexLt_cons] at hq
      refine wpAny_bind (wpAny_eqBool_int ?_)
      by_cases h : ns[i] = m
      · rw [if_pos h] at hq
        rw [if_pos (by simpa using h)]
        refine wpAny_pure ⟨plainId_quiet MeetsSeq3.plain_eq_loop _, ?_⟩
        exact ih (i + 1) (by omega) (by omega) (by have := (List.getElem?_eq_some_iff.mp e2).1; omega) h1' h2' hq
      · rw [if_neg h] at hq
        rw [if_neg (by simpa using h)]
        refine wpAny_bind (wpAny_listItems g1 d1 ?_)
        refine wpAny_bind (wpAny_listItems g2 d2 ?_)
        rw [ex, ey]
        refine wpAny_bind (HT.rcLt_int _ _ _ _ _ _ _ _ _ _ ?_)
        exact wpAny_pure hq
/-- two lists of numbers, the one less than the other -/
theorem ll_lt {prog : Program} {w : World} {A : Around} {E : Value → Shared → Prop} {s : Shared} {la lb : Addr} {xs ys : Array Value} {ns ms : List Int} {Q : Value → Shared → Prop} (h1 : s.heap.IsList la xs) (h2 : s.heap.IsList lb ys) (hx : IntsAre xs.toList ns) (hy : IntsAre ys.toList ms)
    (hu : A.units < cLine) (hq : Q (.bool (HT.lexLt ns ms)) s) : wpAny (model prog w) A (richCompare .Lt (.ref la) (.ref lb)) Q E s := by
  have m : Meets (Builtin.«list.__lt__» ⟨[.ref la, .ref lb], []⟩) (fun A R s => s.heap.IsList la xs ∧ s.heap.IsList lb ys ∧ R (.ok (.ret (.bool (HT.lexLt ns ms)))) s) := by
    rintro prog w A R s ⟨h1, h2, hr⟩
    obtain ⟨o1, g1, c1, n1, d1⟩ := id h1
    obtain ⟨o2, g2, c2, n2, d2⟩ := id h2
    refine wpAny_bind ?_
    refine wpAny_pure ?_
    refine wpAny_bind ?_
    show wpAny _ _ (typeOf (.ref lb) >>= fun t => isSubtype t (Value.type "list")) _ _ _
    refine wpAny_bind (wpAny_typeOf_ref g2 ?_)
    rw [c2]
    rw [show isSubtype (Value.type "list") (Value.type "list") = pure true from rfl]
    refine wpAny_pure ?_
    rw [if_neg (by decide)]
    refine wpAny_pure ⟨plainId_quiet MeetsSeq3.plain_eq_loop _, ?_⟩
    exact ll_loop hx hy _ 0 rfl (Nat.zero_le _) (Nat.zero_le _) h1 h2 hr
  obtain ⟨o1, g1, c1, n1, d1⟩ := id h1
  obtain ⟨o2, g2, c2, n2, d2⟩ := id h2
  exact richCompare_meets_room (T := "list") ⟨_, g1, c1⟩ ⟨_, g2, c2⟩ F.slot_list_lt F.entry_list_lt (F.args_list_lt_2 _ _) m ⟨h1, h2, (fun z => by cases z), hq⟩ hu
theorem eqv_ints : ∀ ns ms : List Int, PyData.eqvAll (ns.map PyData.int) (ms.map PyData.int) = decide (ns = ms)
  | [], [] => by rw [List.map_nil, PyData.eqvAll]; rfl
  | [], m :: ms => by rw [List.map_nil, List.map_cons, PyData.eqvAll]; simp
  | n :: ns, [] => by rw [List.map_nil, List.map_cons, PyData.eqvAll]; simp
  | n :: ns, m :: ms => by
    rw [List.map_cons, List.map_cons, PyData.eqvAll, eqv_ints ns ms, PyData.eqv]
    by_cases h : n = m
    · subst h; simp
    · simp [h]
theorem lay_ints : ∀ ns : List Int, PyData.canLayAll0 (ns.map PyData.int) = true
  | [] => by rw [List.map_nil, PyData.canLayAll0]
  | n :: ns => by rw [List.map_cons, PyData.canLayAll0, PyData.canLay0, lay_ints ns]; rfl
theorem depth_ints : ∀ ns : List Int, PyData.depthAll (ns.map PyData.int) ≤ 1
  | [] => by rw [List.map_nil, PyData.depthAll]; omega
  | n :: ns => by
    have := depth_ints ns
    rw [List.map_cons, PyData.depthAll, PyData.depth]
    omega
theorem lex_irr : ∀ ns : List Int, HT.lexLt ns ns = false
  | [] => HT.lexLt_nil_nil
  | n :: ns => by rw [HT.lexLt_cons, if_pos rfl, lex_irr ns]
theorem tl_lt {prog : Program} {w : World} {A : Around} {E : Value → Shared → Prop} {s : Shared} {p q la lb : Addr} {xs ys : Array Value} {ns ms as bs : _} {m k : Int} {t u : Tok} {Q : Value → Shared → Prop}
    (hp : IsTup s.heap p #[.int m t, .ref la]) (hq : IsTup s.heap q #[.int k u, .ref lb]) (h1 : s.heap.IsList la xs) (h2 : s.heap.IsList lb ys) (hx : IntsAre xs.toList ns) (hy : IntsAre ys.toList ms)
    (r1 : Reads s.heap (.ref la) (.list (ns.map PyData.int)) as) (r2 : Reads s.heap (.ref lb) (.list (ms.map PyData.int)) bs)
    (hu : A.units + 64 < cLine) (hQ : Q (.bool (if m = k then HT.lexLt ns ms else decide (m < k))) s) : wpAny (model prog w) A (compareOp .Lt (.ref p) (.ref q)) Q E s := by
  have me : Meets (Builtin.«tuple.__lt__» ⟨[.ref p, .ref q], []⟩) (fun A R s => (IsTup s.heap p #[.int m t, .ref la] ∧ IsTup s.heap q #[.int k u, .ref lb] ∧ s.heap.IsList la xs ∧ s.heap.IsList lb ys ∧ Reads s.heap (.ref la) (.list (ns.map PyData.int)) as ∧ Reads s.heap (.ref lb) (.list (ms.map PyData.int)) bs ∧ A.units + 64 < cLine) ∧ R (.ok (.ret (.bool (if m = k then HT.lexLt ns ms else decide (m < k))))) s) := by
    rintro prog w A R s ⟨⟨hp, hq, h1, h2, r1, r2, hu⟩, hr⟩
    obtain ⟨o2, g2, c2, n2, d2⟩ := id hq
    refine wpAny_bind ?_
    refine wpAny_pure ?_
    refine wpAny_bind ?_
    show wpAny _ _ (typeOf (.ref q) >>= fun t => isSubtype t (Value.type "tuple")) _ _ _
    refine wpAny_bind (wpAny_typeOf_ref g2 ?_)
    rw [c2]
    rw [show isSubtype (Value.type "tuple") (Value.type "tuple") = pure true from rfl]
    refine wpAny_pure ?_
    rw [if_neg (by decide)]
    refine wpAny_bind (tupleItemsOf_ hp ?_)
    refine wpAny_bind (tupleItemsOf_ hq ?_)
    refine wpAny_bind ?_
    refine wpAny_bind ?_
    refine wpAny_bind (wpAny_eqBool_int ?_)
    by_cases h : m = k
    · rw [if_pos h] at hr
      rw [if_neg (by simp [h])]
      refine wpAny_pure ?_
      refine wpAny_bind ?_
      refine wpAny_bind ?_
      have ea := SeqAt.eqAt_reads _ _ A.in1 s _ _ _ _ r1 r2 (by rw [PyData.canLay0]; exact lay_ints ns) (by rw [PyData.canLay0]; exact lay_ints ms) (by
        have d1 := depth_ints ns
        have e1 : (PyData.list (ns.map PyData.int)).depth = PyData.depthAll (ns.map PyData.int) + 1 := by rw [PyData.depth]
        have e2 : A.in1.units ≤ A.units + 1 := by first | exact Nat.le_refl _ | exact Nat.le_succ _ | (simp [Around.in1]; done)
        omega)
      rw [PyData.eqv, eqv_ints] at ea
      refine ea prog w _ _ ?_
      by_cases h2' : ns = ms
      · rw [if_neg (by simp [h2'])]
        refine wpAny_pure ?_
        refine wpAny_pure ?_
        refine wpAny_pure ?_
        rw [h2', lex_irr] at hr
        exact hr
      · rw [if_pos (by simp [h2'])]
        refine wpAny_bind (wpAny_rule ?_)
        refine wpAny_bind (ll_lt h1 h2 hx hy (by
          have e2 : A.in1.units ≤ A.units + 1 := by first | exact Nat.le_refl _ | exact Nat.le_succ _ | (simp [Around.in1]; done)
          omega) ?_)
        refine wpAny_bind (wpAny_pure ?_)
        refine wpAny_pure ?_
        refine wpAny_pure ?_
        refine wpAny_pure ?_
        exact hr
    · rw [if_neg h] at hr
      rw [if_pos (by simpa using h)]
      refine wpAny_bind (wpAny_rule ?_)
      refine wpAny_bind (HT.rcLt_int _ _ _ _ _ _ _ _ _ _ ?_)
      refine wpAny_bind (wpAny_pure ?_)
      refine wpAny_pure ?_
      refine wpAny_pure ?_
      refine wpAny_pure ?_
      exact hr
  obtain ⟨o1, g1, c1, n1, d1⟩ := id hp
  obtain ⟨o2, g2, c2, n2, d2⟩ := id hq
  show wpAny _ _ (richCompare .Lt (.ref p) (.ref q)) _ _ _
  exact richCompare_meets_room (T := "tuple") ⟨_, g1, c1⟩ ⟨_, g2, c2⟩ F.slot_tuple_lt F.entry_tuple_lt (F.args_tuple_lt_2 _ _) me ⟨⟨hp, hq, h1, h2, r1, r2, hu⟩, (fun z => by cases z), hQ⟩ (by omega)
theorem dp_ints {K : PySem.W.Frag} {H : Hp} : ∀ ns : List Int, DpAll K H (ns.map V.int) (ns.map PyData.int)
  | [] => .nil
  | n :: ns => .cons (.int n) (dp_ints ns)
theorem op_ltTL {X : Cx} (hu : X.A.units + 64 < cLine) : OpR X (compareOp .Lt) (fun x y H Q => ∃ p q m k la lb ns ms, x = .ref p ∧ y = .ref q ∧ H p = some (.tup [.int m, .ref la]) ∧ H q = some (.tup [.int k, .ref lb]) ∧
    SqL X.K H la (ns.map V.int) ∧ SqL X.K H lb (ms.map V.int) ∧ Q (.bl (if m = k then HT.lexLt ns ms else decide (m < k))) H) := by
  intro pins s σ H x y v u Q I rx ry h
  obtain ⟨p, q, m, k, la, lb, ns, ms, rfl, rfl, hp, hq, h1, h2, hQ⟩ := h
  cases rx
  cases ry
  obtain ⟨i1, v1, t1, _⟩ := I.tuple (SqT.of hp)
  obtain ⟨i2, v2, t2, _⟩ := I.tuple (SqT.of hq)
  obtain ⟨i3, v3, p3, _⟩ := I.list h1
  obtain ⟨i4, v4, p4, _⟩ := I.list h2
  obtain ⟨as, r1⟩ := Dp.reads I (.list (ns.map PyData.int)) (.ref la) (.ref la) (.lst h1 (dp_ints ns)) rfl
  obtain ⟨bs, r2⟩ := Dp.reads I (.list (ms.map PyData.int)) (.ref lb) (.ref lb) (.lst h2 (dp_ints ms)) rfl
  cases v1 with
  | cons a1 b1 =>
  cases b1 with
  | cons a2 b2 =>
  cases b2
  cases v2 with
  | cons a3 b3 =>
  cases b3 with
  | cons a4 b4 =>
  cases b4
  obtain ⟨tm, rfl⟩ := a1
  obtain ⟨tk, rfl⟩ := a3
  cases a2
  cases a4
  exact tl_lt t1 t2 p3.isList p4.isList (by simpa using L2.intsAre_of v3) (by simpa using L2.intsAre_of v4) r1 r2 hu ⟨.bl _, H, I, rfl, hQ⟩
end Ms

set_option Elab.async false
set_option linter.all false
set_option maxRecDepth 100000
set_option maxHeartbeats 4000000
/-! a text from behind -/
namespace Ms
open PySem PySem.Spec PyProof.Rows L2
def pickedS (z : Str) : Str := ⟨(List.filterMap (fun i => z.cps[i]?) (slicePicked z none none (some (-1, 0)))).toArray⟩
theorem picked_len (z : Str) : (pickedS z).length ≤ z.length := by
  show (List.filterMap _ _).toArray.size ≤ _
  rw [List.size_toArray]
  refine Nat.le_trans (List.length_filterMap_le _ _) ?_
  show (sliceRange ((z.length : Int) - 1) (-1) (-1)).length ≤ z.length
  exact sliceRange_length_le _ _ _ _ (fun h => absurd h (by decide)) (fun _ => ⟨Int.le_refl _, Int.le_refl _⟩)
theorem picked_mem (z : Str) : ∀ c ∈ (pickedS z).cps.toList, c ∈ z.cps.toList := by
  intro c hc
  have hc : c ∈ List.filterMap (fun i => z.cps[i]?) (slicePicked z none none (some (-1, 0))) := hc
  obtain ⟨i, _, e⟩ := List.mem_filterMap.mp hc
  have := Array.mem_of_getElem? e
  exact Array.mem_toList_iff.mpr this
def tRevS (te : TE) : TE := fun σ H Q => te σ H fun x H1 => ∃ z, x = .str z ∧ z.length ≤ sizeLine ∧ Q (.str (pickedS z)) H1
theorem pe_revS {X : Cx} {e : Expr} {te : TE} {k : Nat} {p1 p2 p3 pos : Pos} (he : PE X e te) : PE X (e.Subscript (.Slice none none (some (.UnaryOp .USub (.Constant (.int 1) k p1) p2)) p3) pos) (tRevS te) := by
  refine ⟨fun pins s σ H Q I h => ?_⟩
  refine Subscript_ (thn (he.run pins s σ H _ I h) fun v s1 ⟨x, H1, I1, r1, q1⟩ => ?_)
  obtain ⟨z, rfl, hz, q⟩ := q1
  obtain ⟨t, rfl⟩ := r1
  refine wpAny_Slice ?_
  refine thn (po_none.run pins s1 σ H1 (fun o H2 => o = none ∧ H2 = H1) I1 ⟨rfl, rfl⟩) fun l s2 ⟨o, H2, I2, pl, el, eh⟩ => ?_
  subst el eh
  refine thn (po_none.run pins s2 σ _ (fun o H2 => o = none ∧ H2 = _) I2 ⟨rfl, rfl⟩) fun u s3 ⟨o, H3, I3, pu, eu, eh⟩ => ?_
  subst eu eh
  refine thn ((po_some (pe_un un_neg pe_int)).run pins s3 σ _ (fun o H2 => o = some (-1) ∧ H2 = _) I3 ⟨1, rfl, -1, rfl, rfl, rfl⟩) fun st s4 ⟨o, H4, I4, ps, es, eh⟩ => ?_
  subst es eh
  cases pl
  cases pu
  cases ps with
  | int i t2 =>
  have I5 := I4.kept (h' := s4.heap.push { cls := .type "slice", data := .fields #[.none, .none, .int (-1) t2] }) (t' := s4.toks) (fun b o e => Heap.get?_push_of_some _ e)
  refine tail_any (T := "str") (ops := [.ref s4.heap.objs.size, .str z t]) rfl (by first | exact PySem.F.slot_str_getitem.lookup | exact Slot.lookup PySem.F.slot_str_getitem | exact PyProof.Rows.slot_str_getitem.lookup | exact L2.slot_str_getitem.lookup) ?_ (by rfl)
  refine wpAny_getItem_str_slice (l := none) (u := none) (st := some (-1, t2)) ⟨_, Heap.get?_push_at rfl rfl, rfl, rfl⟩ (by rfl) ?_
  show Made.post (if ((-1 : Int) == 1 && _) = true then _ else _) _ _
  rw [if_neg (by simp)]
  exact ⟨Nat.le_trans (picked_len z) hz, .str _, _, I5.tok _, ⟨_, rfl⟩, q⟩
end Ms

set_option Elab.async false
set_option linter.all false
set_option maxRecDepth 100000
set_option maxHeartbeats 4000000
/-! isinstance(e, C) of an own exception that has a dict: both answers. -/
namespace Ms
open PySem PySem.Spec PyProof.Rows L2 LamX PySem.W
theorem cls_at {K : PySem.W.Frag} {D : Addr} (hd : hasDictIn K D = true) : ∃ oc od cd sl, K.lookup D = some ⟨oc, od, .cls cd, sl⟩ := by
  obtain ⟨c, e, _⟩ := any_some hd
  unfold clsIn at e
  split at e
  · rename_i a b c2 d ho; exact ⟨_, _, _, _, ho⟩
  · cases e
theorem kitx_excD {K : PySem.W.Frag} {x D : Addr} (C : ExcC K D) : KitX K (.ref x) (.ref D) (fun h => ∃ ox od, InstAt h x ox D od) where
  ty := by
    rintro M h _ ⟨ox, od, I⟩
    exact I.type
  it := by
    intro M h X _
    obtain ⟨oc, od, cd, sl, ho⟩ := cls_at C.hd
    exact fun A' Q' E' s' k q => by unfold isType loadHead; exact wpAny_bind (wpAny_loadPart (k _ _ (X _ _ ho)) (wpAny_pure q))
  ne := by
    intro h tp dd its n sl X htp
    obtain ⟨oc, od, cd, sl2, ho⟩ := cls_at C.hd
    refine Bool.eq_false_iff.mpr (fun q => ?_)
    have e : D = tp := by simpa using q
    rw [← e, X _ _ ho] at htp
    cases htp
  ca := by
    rintro prog w A E Q s X ⟨ox, od, I⟩ k
    exact kx_classE X I C.hg C.hk C.hs (findObj_dataE (by obtain ⟨oc, od', cd, sl, ho⟩ := cls_at C.hd; unfold clsIn; rw [ho]; rfl) C.ha C.hn C.ht) C.hm k
/-- isinstance(n, c), n the exception that the suite holds -/
theorem call_isC {X : Cx} {a : Addr} {oe : Obj} {cls : Value} {d : Option Addr} {pn : List (Addr × Obj)} (hz : Zc cls d oe) (hf : ∃ vs, oe.data = .fields vs) :
    CallR (X.suite a ((a, oe) :: pn)) (.builtin "isinstance") (fun xs H Q => ∃ C C2 b dd, xs = [.ref a, .ref C2] ∧ cls = .ref C ∧ d = some dd ∧ (∃ fs, H dd = some (.xd fs)) ∧ ExcC X.K C ∧ kitOne X.K (.ref C) (.ref C2) = some b ∧ Q (.bl b) H) := by
  rintro pins s σ H xs us Q I r ⟨C, C2, b, dd, rfl, rfl, rfl, ⟨fs, hx⟩, ec, e, q⟩
  cases r with
  | @cons _ u _ us rx rr =>
    cases rr with
    | @cons _ u2 _ us2 rt rr =>
      cases rr
      obtain rfl : u = Value.ref a := rx
      obtain rfl : u2 = Value.ref C2 := rt
      obtain ⟨ha, _⟩ := I.pin (a, oe) (List.mem_append_left _ List.mem_cons_self)
      obtain ⟨vs, hd⟩ := hf
      have hx : ObjOk X.prog X.w H s.heap dd (.xd fs) := I.hok dd _ hx
      obtain ⟨mA, hns, hr⟩ := hx
      obtain ⟨od, ho, hl⟩ := lookIn_ns hns
      have J : PySem.W.InstAt s.heap a oe C (some od) := ⟨ha, hz.1, by unfold PySem.W.notCls; rw [hd] <;> rfl, by rw [hz.2]; exact ho⟩
      exact kia_one (kitx_excD ec) I.kIn ⟨_, _, J⟩ e (fun z => nomatch z) fun tk => ⟨.bl b, H, I.kept (t' := tk) fun _ _ z => z, rfl, q⟩
end Ms

set_option Elab.async false
set_option linter.all false
set_option maxRecDepth 100000
set_option maxHeartbeats 4000000
/-! An own exception that has a dict, as a value: made, its field read, isinstance. -/
namespace Ms
open PySem PySem.Spec PyProof.Rows L2 LamX PySem.W
/-- an exception object of the class C with the dict d, not raised, at a -/
def ExS (C d a : Addr) : HO := .ext fun h => ∃ (oe : Obj) (vs : Array Value), h.get? a = some oe ∧ Zc (.ref C) (some d) oe ∧ oe.data = .fields vs
theorem exS_ok {P : Program} {w : World} {H : Hp} {h : Heap} {a C d : Addr} {oe : Obj} {vs : Array Value} (e : h.get? a = some oe) (z : Zc (.ref C) (some d) oe) (q : oe.data = .fields vs) : ObjOk P w H h a (ExS C d a) :=
  ⟨⟨oe, vs, e, z, q⟩, ⟨oe, e⟩, fun _ _ ⟨o, v, r, t⟩ k => ⟨o, v, k o r, t⟩⟩
section
variable {X : Cx} {C fI : Addr} {nm fld : Str}
/-- nm(e) as a value -/
def tMkV (fld : Str) (C : Addr) (ta : TA) : TE := fun σ H Q => ta σ H fun vs H1 => ∃ v, vs = [v] ∧ ∀ d a, H1 d = none → H1 a = none → d ≠ a → Q (.ref a) (upd (upd H1 d (.xd [(fld, v)])) a (ExS C d a))
theorem pe_mkS {a : Expr} {ta : TA} {p pos : Pos} {k : Nat} (T : Sx.Txt X.prog X.K X.mg nm fld C fI) (hr : Room k X.A) (ha : PA X [a] ta) (hg : Gl X nm := by rfl) (hdb : (nm == ("__debug__" : Str)) = false := by decide)
    (he : starEach (a :: []) X.env = (false, eval a X.env) :: starEach [] X.env := by rfl) (hpl : (backTo pos (starEach [] X.env)).any (·.1) = false := by rfl) :
    PE X (.Call (.Name nm p) [a] [] pos) (tMkV fld C ta) := by
  refine ⟨fun pins s σ H Q I h => ?_⟩
  refine wpAny_Call_Name_kw (ld_glob I hg T.gC ?_ hdb)
  refine PySem.W.callWith_K (h₀ := X.base) I.ok.mod.kin T.kC (thn (ha.run pos pins s σ H _ I h) fun us s1 hh => ?_) he hpl
  obtain ⟨vs, H1, I1, r1, v, rfl, q1⟩ := hh
  refine ⟨I1.kIn, ?_⟩
  cases r1 with
  | @cons _ u' _ us' rv rn =>
    cases rn
    show wpAny _ _ (call (.ref C) [u']) _ _ _
    have hlim := I1.nolimit
    obtain ⟨mb, hb1, hb2⟩ := I1.mod.blt
    have hbs : mb "super" = some (.type "super") := (hb2 _ (by decide)).trans (by decide +kernel)
    have hg1 := I1.mod.glob.keeps I1.bk
    have hb := hb1.keeps I1.bk
    obtain ⟨hp, g, dr, tk, os⟩ := s1
    refine wpAny_call (Sx.ex_made T I1.kIn hg1 hb hbs hlim (by have := hr.dp; omega) fun h' tk' e d M => ?_)
    obtain ⟨t1, hoe⟩ := M.obj
    have ob : ObjOk X.prog X.w (upd H1 d (.xd [(fld, v)])) h' d (.xd [(fld, v)]) := ⟨_, M.ns, fun f => relO_one rv f⟩
    have hd : H1 d = none := I1.hok.fresh M.dbig
    have ha : H1 e = none := I1.hok.fresh M.new
    obtain ⟨G', g1, g2⟩ := restrict h' fun b => decide (b ≠ e)
    have gk : ∀ b, b ≠ e → G'.get? b = h'.get? b := fun b hb => g1 b (decide_eq_true hb)
    have ge : G'.get? e = none := g2 e (by simp)
    have old : ∀ b o, hp.get? b = some o → G'.get? b = some o := fun b o q => (gk b (Nat.ne_of_lt (Nat.lt_of_lt_of_le (Heap.lt_size q) M.new))).trans (M.keep b o q)
    have obG : ObjOk X.prog X.w (upd H1 d (.xd [(fld, v)])) G' d (.xd [(fld, v)]) := ⟨_, M.ns.at (fun o q => (gk d M.dne).trans q), fun f => relO_one rv f⟩
    have J : Inv X pins σ (upd H1 d (.xd [(fld, v)])) ⟨G', g, dr, tk', os⟩ := I1.laid (t' := tk') old M.dbig obG
    have he2 : upd H1 d (.xd [(fld, v)]) e = none := by rw [upd_ne (Ne.symm M.dne)]; exact ha
    have J2 := J.laidN (h' := h') (t' := tk') (a := e) (o := ExS C d e) (fun b o q => by
      by_cases hb : b = e
      · have q' : G'.get? b = some o := q
        rw [hb, ge] at q'; cases q'
      · exact (gk b hb).symm.trans q) ge he2 (exS_ok hoe ⟨rfl, rfl⟩ rfl)
    exact ⟨.ref e, _, J2, rfl, q1 d e hd ha M.dne⟩
/-- e.fld of such a value -/
def tAtS (X : Cx) (fld : Str) (te : TE) : TE := fun σ H Q => te σ H fun x H1 => ∃ (a C d fI : Addr) (nm : Str) (v : V), x = .ref a ∧ Sx.Txt X.prog X.K X.mg nm fld C fI ∧ H1 a = some (ExS C d a) ∧ H1 d = some (.xd [(fld, v)]) ∧ Q v H1
theorem pe_atS {e : Expr} {te : TE} {pos : Pos} (he : PE X e te) (hb : attributeBase e fld X.env (eval e X.env) = eval e X.env := by rfl) : PE X (.Attribute e fld pos) (tAtS X fld te) := by
  refine ⟨fun pins s σ H Q I h => attr_of hb (thn (he.run pins s σ H _ I h) fun u s1 hh => ?_)⟩
  obtain ⟨x, H1, I1, rx, a, C, d, fI, nm, v, rfl, T, ha, ea, q⟩ := hh
  obtain rfl : u = Value.ref a := rx
  obtain ⟨⟨oe, vs, hget, hz, hd⟩, _, _⟩ := I1.hok a _ ha
  have hx : ObjOk X.prog X.w H1 s1.heap d (.xd [(fld, v)]) := I1.hok d _ ea
  obtain ⟨mA, hns, hr⟩ := hx
  obtain ⟨od, ho, hl⟩ := lookIn_ns hns
  have l : List.lookup fld [(fld, v)] = some v := by simp [List.lookup]
  obtain ⟨u, hu, ru⟩ := RelO.some_of (v := v) (o := mA fld) (by rw [← l]; exact hr fld)
  have J : PySem.W.InstAt s1.heap a oe C (some od) := ⟨hget, hz.1, by unfold PySem.W.notCls; rw [hd] <;> rfl, by rw [hz.2]; exact ho⟩
  exact HandSPX.exc_get I1.kIn J T.ga T.gg T.exC (PySem.W.findObj_own T.hdC T.noN rfl (by rw [hl, hu])) (handed_of ru) ⟨v, H1, I1.tok _, ru, q⟩
/-- isinstance(e, c) of such a value -/
def rIsX (K : PySem.W.Frag) : List V → Hp → VK → Prop := fun xs H Q => ∃ (a C d : Addr) (c : V) (cv : Value) (b : Bool) (fs : List (Str × V)), xs = [.ref a, c] ∧ H a = some (ExS C d a) ∧ H d = some (.xd fs) ∧ ExcC K C ∧ ClsV c cv ∧ kitOne K (.ref C) cv = some b ∧ Q (.bl b) H
theorem call_isX : CallR X (.builtin "isinstance") (rIsX X.K) := by
  rintro pins s σ H xs us Q I r ⟨a, C, d, c, cv, b, fs, rfl, ha, hx, ec, k, e, q⟩
  obtain ⟨u1, u2, rfl, r1, r2⟩ := vals2 r
  have e2 := k.eq r2
  subst e2
  obtain rfl : u1 = Value.ref a := r1
  obtain ⟨⟨oe, vs, hget, hz, hd⟩, _, _⟩ := I.hok a _ ha
  have hx : ObjOk X.prog X.w H s.heap d (.xd fs) := I.hok d _ hx
  obtain ⟨mA, hns, hr⟩ := hx
  obtain ⟨od, ho, hl⟩ := lookIn_ns hns
  have J : PySem.W.InstAt s.heap a oe C (some od) := ⟨hget, hz.1, by unfold PySem.W.notCls; rw [hd] <;> rfl, by rw [hz.2]; exact ho⟩
  exact kia_one (kitx_excD ec) I.kIn ⟨_, _, J⟩ e (fun z => nomatch z) fun tk => ⟨.bl b, H, I.kept (t' := tk) fun _ _ z => z, rfl, q⟩
end
theorem ifN {p A B : Prop} [Decidable p] (h : ¬ p) (b : B) : if decide p = true then A else B := by
  rw [decide_eq_false h]
  exact b
theorem ifY {p A B : Prop} [Decidable p] (h : p) (a : A) : if decide p = true then A else B := by
  rw [decide_eq_true h]
  exact a
end Ms

set_option Elab.async false
set_option linter.all false
set_option maxRecDepth 100000
set_option maxHeartbeats 4000000
/-! sorted(a text): its signs, one by one, risen. -/
namespace Ms
open PySem PySem.Spec PyProof.Rows L2 LamX PySem.W
theorem strsAre_of : ∀ (vs : List Value) (xs : List Str), vs.length = xs.length → (∀ (i : Nat) (v : Value), vs[i]? = some v → ∃ (y : Str) (u : Tok), xs[i]? = some y ∧ v = Value.str y u) → StrsAre vs xs
  | [], [], _, _ => .nil
  | [], y :: xs, e, _ => by cases e
  | v :: vs, [], e, _ => by cases e
  | v :: vs, y :: xs, e, h => by
    obtain ⟨y', u, e1, rfl⟩ := h 0 v rfl
    have e1 : some y = some y' := e1
    cases e1
    exact .cons y u (strsAre_of vs xs (by simpa using e) fun i w hw => h (i + 1) w hw)
theorem sorted_text {prog : Program} {w : World} {A : Around} {E : Value → Shared → Prop} {s : Shared} {x : Str} {t : Tok} {Q : Value → Shared → Prop} (hh : A.handled = none) (hL : x.cps.size ≤ sizeLine)
    (hq : ∀ (h' : Heap) (tk : Nat) (p : Addr) (out : Array Value) (e : Nat) (ss : List Str), (∀ b o, s.heap.get? b = some o → h'.get? b = some o) → s.heap.get? p = none → h'.get? p = some (seqObj "list" out e) → StrsAre out.toList ss → ss.Perm (x.cps.toList.map fun c => ⟨#[c]⟩) → sortedS ss = true → Q (.ref p) { s with heap := h', toks := tk }) :
    wpAny (model prog w) A (call (.builtin "sorted") [.str x t]) Q E s := by
  refine Calls.call_function_entry kind_sorted plain_sorted entry_sorted (args_sorted1 _) (by
    unfold Builtin.«sorted»
    refine wpAny_bind (m := checkCount "sorted" 1 1 _) (wpAny_pure (wpAny_bind (wpAny_collect_str (by exact hh) x t (fun s' acc k g d o it => ?_) hL)))
    have hacc : StrsAre acc.toList (x.cps.toList.map fun c => ⟨#[c]⟩) := by
      refine strsAre_of _ _ (by rw [Array.length_toList, it.1, List.length_map, Array.length_toList]) fun i v hv => ?_
      rw [Array.getElem?_toList] at hv
      obtain ⟨c, u, hc, rfl⟩ := it.2 i v hv
      exact ⟨⟨#[c]⟩, u, by rw [List.getElem?_map, Array.getElem?_toList, hc]; rfl, rfl⟩
    obtain ⟨hp, g', d', tk, os⟩ := s'
    obtain ⟨hp0, g0, d0, tk0, os0⟩ := s
    obtain rfl : g' = g0 := g
    obtain rfl : d' = d0 := d
    obtain rfl : os = os0 := o
    refine wpAny_bind (wpAny_newList ?_)
    have hoL : (hp.push (seqObj "list" acc.toList.toArray 0)).get? hp.objs.size = some (seqObj "list" acc.toList.toArray 0) := Heap.get?_push_size _ rfl
    have hl : acc.toList.length ≤ sizeLine := by rw [Array.length_toList, it.1]; exact hL
    refine wpAny_bind (wpAny_holding (wpAny_call_entry slot_list_sort ⟨_, hoL, rfl⟩ entry_list_sort (list_sort_treeKAny strKind_oneLt hoL hacc.keysOf (fun v₁ v₂ rest e => keyKind_strs (by rw [← e]; exact hacc)) hl fun st' h1 h2 => ⟨_, rfl, wpAny_pure ⟨_, rfl, ?_⟩⟩) (args_list_sort _)))
    obtain ⟨ss, a1, a2, a3⟩ := sorted_out_str hacc h1 h2
    obtain ⟨e, he⟩ := sortedHeap_at (out := (arrOf st').map (·.2)) hoL
    refine hq _ _ _ _ e ss (fun b o q => ?_) ?_ he a1 a2 a3
    · have hb := k b o q
      have hlt : b < hp.objs.size := Heap.lt_size hb
      rw [sortedHeap_old (Nat.ne_of_lt hlt) (by rw [Heap.size_push]; exact Nat.lt_succ_of_lt hlt)]
      exact Heap.get?_push_of_some _ hb
    · cases q : hp0.get? hp.objs.size with
      | none => rfl
      | some o => exact absurd (Heap.lt_size (k _ _ q)) (Nat.lt_irrefl _))
/-- sorted(a text) -/
theorem cr_sortedT {X : Cx} (hc : X.calm = true) : CallR X (.builtin "sorted") (fun vs H Q => ∃ z : Str, vs = [V.str z] ∧ z.length ≤ sizeLine ∧ ∀ (ys : List Str) (p : Addr), ys.Perm (z.cps.toList.map fun c => ⟨#[c]⟩) → sortedS ys = true → H p = none → Q (.ref p) (upd H p (.lst (ys.map V.str)))) := by
  intro pins s σ H vs us Q I r h
  obtain ⟨z, rfl, hz, q⟩ := h
  cases r with
  | @cons _ u _ us rx rr =>
    cases rr
    obtain ⟨t, rfl⟩ := rx
    refine sorted_text (I.ok.hd hc) hz fun h' tk p out e ss k hp hg a1 a2 a3 => ?_
    have hn : H p = none := I.hok.gone hp
    have hlen : (ss.map V.str).length ≤ sizeLine := by
      rw [List.length_map, a2.length_eq, List.length_map]
      exact hz
    exact ⟨.ref p, upd H p (.lst (ss.map V.str)), I.laidN (h' := h') (t' := tk) k hp hn ⟨hlen, out.toList, e, vals_of_strs a1, by simpa using hg⟩, rfl, q ss p a2 a3 hn⟩
end Ms

set_option Elab.async false
set_option linter.all false
set_option maxRecDepth 100000
set_option maxHeartbeats 4000000
/-! two, four defaults -/
namespace Ms
open PySem PySem.Spec PyProof.Rows L2 LamX
theorem dfl_two {K : PySem.W.Frag} {t : Addr} {cl : Value} {dd : Option Addr} {n : Nat} {sl : Array (Option Value)} {v1 v2 : V} {u1 u2 : Value} (h : K.lookup t = some ⟨cl, dd, .seq #[u1, u2] n, sl⟩) (r1 : RelV v1 u1) (r2 : RelV v2 u2) : DflV K (.ref t) [v1, v2] :=
  .inr ⟨List.cons_ne_nil _ _, t, _, [u1, u2], n, rfl, h, rfl, .cons r1 (.cons r2 .nil)⟩
theorem dfl_four {K : PySem.W.Frag} {t : Addr} {cl : Value} {dd : Option Addr} {n : Nat} {sl : Array (Option Value)} {v1 v2 v3 v4 : V} {u1 u2 u3 u4 : Value} (h : K.lookup t = some ⟨cl, dd, .seq #[u1, u2, u3, u4] n, sl⟩) (r1 : RelV v1 u1) (r2 : RelV v2 u2) (r3 : RelV v3 u3) (r4 : RelV v4 u4) : DflV K (.ref t) [v1, v2, v3, v4] :=
  .inr ⟨List.cons_ne_nil _ _, t, _, [u1, u2, u3, u4], n, rfl, h, rfl, .cons r1 (.cons r2 (.cons r3 (.cons r4 .nil)))⟩
end Ms

set_option Elab.async false
set_option linter.all false
set_option maxRecDepth 100000
set_option maxHeartbeats 4000000
/-! rules within a comprehension: the written part by its own name -/
namespace Ms
open PySem PySem.Spec PyProof.Rows L2 LamX
section
variable {X : Cx} {K : PySem.W.Frag} (hK : X.K = K)
include hK
theorem pe_joinK {o e : Expr} {to te : TE} {apos pos : Pos} (ho : PE X o to) (he : PE X e te) (hs : starEach [e] X.env = [(false, eval e X.env)] := by rfl) (hbase : attributeBase o "join" X.env (eval o X.env) = eval o X.env := by rfl) (hline : (apos.endLine == pos.line) = true := by rfl) : PE X (.Call (.Attribute o "join" apos) [e] [] pos)
    (tM1 (fun x xs H Q => ∃ a p, ∃ ys : List Str, x = .str a ∧ xs = [.ref p] ∧ (SqL K H p (ys.map V.str) ∨ SqT K H p (ys.map V.str)) ∧ (ys.map (·.length)).sum + ys.length * a.length ≤ 16777216 ∧ Q (.str (Txt.join a ys)) H) to te) := by
  subst hK
  exact pe_join ho he hs hbase hline
theorem pe_ixLK {a b : Expr} {ta tb : TE} {pos : Pos} (ha : PE X a ta) (hb : PE X b tb) (hs : PlainIx b) : PE X (.Subscript a b pos) (tOp (rIxL K) ta tb) := by
  subst hK
  exact pe_ix ix_list ha hb hs
theorem pe_ixTK {a b : Expr} {ta tb : TE} {pos : Pos} (ha : PE X a ta) (hb : PE X b tb) (hs : PlainIx b) : PE X (.Subscript a b pos) (tOp (rIxT K) ta tb) := by
  subst hK
  exact pe_ix ix_tup ha hb hs
theorem call_len_seqK : CallR X (.builtin "len") (fun xs H Q => ∃ p ys, xs = [.ref p] ∧ (SqL K H p ys ∨ SqT K H p ys) ∧ Q (.int ys.length) H) := by
  subst hK
  exact call_len_seq
theorem isiK : CallR X (.builtin "isinstance") (rIsi K) := by
  subst hK
  exact call_isi
theorem isXK : CallR X (.builtin "isinstance") (rIsX K) := by
  subst hK
  exact call_isX
theorem sl_listK : SlR X (rSlL K) := by
  subst hK
  exact sl_list
theorem pe_fldK {e : Expr} {ta : TE} {f : Str} {pos : Pos} (he : PE X e ta) (hb : attributeBase e f X.env (eval e X.env) = eval e X.env) : PE X (.Attribute e f pos) (tFld K ta f) := by
  subst hK
  exact pe_fld he hb
theorem op_in_seqK : OpR X (compareOp .In) (rIn K false) := by
  subst hK
  exact op_in_seq
theorem op_notIn_seqK : OpR X (compareOp .NotIn) (rIn K true) := by
  subst hK
  exact op_notIn_seq
theorem op_eqDK (hu : X.A.units + 64 < cLine) : OpR X (compareOp .Eq) (rEqD K) := by
  subst hK
  exact op_eqD hu
theorem op_neDK (hu : X.A.units + 64 < cLine) : OpR X (compareOp .NotEq) (rNeD K) := by
  subst hK
  exact op_neD hu
theorem pg_tupK {es : List Expr} {k : Nat} {t : TGs} {n : Nat} {pos : Pos} (hc : X.calm = true) (h : PGs X es t)
    (hn : (assignEach es X.env).length = n := by rfl) (hst : (assignEach es X.env).findIdx? (·.1) = none := by rfl) : PG X (.Tuple es k pos) (gTup K n t) := by subst hK; exact pg_tup hc h hn hst
theorem op_catK : OpR X (binaryOp .Add) rCat := op_cat
end
end Ms

set_option Elab.async false
set_option linter.all false
set_option maxRecDepth 100000
set_option maxHeartbeats 4000000
/-! Own words for heaps and numbers that all laws share. -/
namespace Ms
open PySem PySem.Spec PyProof.Rows L2
/-- all that was tracked is as it was, but at a -/
def But (a : Addr) (H H' : Hp) : Prop := ∀ b o, b ≠ a → H b = some o → H' b = some o
theorem But.refl (a : Addr) (H : Hp) : But a H H := fun _ _ _ h => h
theorem But.trans {a : Addr} {H H1 H2 : Hp} (x : But a H H1) (y : But a H1 H2) : But a H H2 := fun b o n h => y b o n (x b o n h)
theorem But.upd {a : Addr} {H : Hp} {o : HO} : But a H (upd H a o) := fun b u n h => by rw [upd_ne n]; exact h
theorem Same.but {a : Addr} {H H' : Hp} (x : Same H H') : But a H H' := fun b o _ h => x b o h
theorem same_upd {H : Hp} {p : Addr} {o : HO} (h : H p = none) : Same H (upd H p o) := fun b x e => by
  rw [upd_ne (ne_of_none e h)]
  exact e
theorem But.free {a p : Addr} {H H' : Hp} (x : But a H H') (n : p ≠ a) (h : H' p = none) : H p = none := by
  cases e : H p with
  | none => rfl
  | some o => rw [x p o n e] at h; cases h
/-- the draws' list at a -/
def Src (H : Hp) (a : Addr) : Prop := ∃ x c n : Int, H a = some (.lst [.int x, .int c, .int n])
theorem Src.same {H H' : Hp} {a : Addr} (h : Src H a) (s : Same H H') : Src H' a := let ⟨x, c, n, e⟩ := h; ⟨x, c, n, s _ _ e⟩
theorem Src.ne {H : Hp} {a p : Addr} (h : Src H a) (n : H p = none) : a ≠ p := let ⟨_, _, _, e⟩ := h; ne_of_none e n
theorem fm (a : Int) {b : Int} (h : 0 < b) : 0 ≤ a.fmod b ∧ a.fmod b < b := by
  rw [Int.fmod_eq_emod_of_nonneg a (by omega)]
  exact ⟨Int.emod_nonneg a (by omega), Int.emod_lt_of_pos a h⟩
theorem ne0 {b : Int} (h : 0 < b) : b ≠ 0 := by omega
theorem fd (a : Int) {b : Int} (h : 0 < b) : a.fdiv b = a / b := Int.fdiv_eq_ediv_of_nonneg a (by omega)
theorem bnd0 (a : Int) {b : Int} (h : 0 < b) (h2 : b < 2 ^ 64) : -(2 ^ 64) < a.fmod b ∧ a.fmod b < 2 ^ 64 := by
  have := fm a h
  omega
theorem bnd1 (a : Int) {b : Int} (h : 0 < b) (h2 : b < 2 ^ 63) : -(2 ^ 64) < a.fmod b + 1 ∧ a.fmod b + 1 < 2 ^ 64 := by
  have := fm a h
  omega
/-- the cells that a law goes over -/
theorem cells (ns : List Int) (k : Int) : ∃ cs : List Int, cutV (ns.map V.int ++ [.int 0]) none (some k) = cs.map V.int := by
  refine ⟨((ns ++ [0]).drop (HT.sIx (ns ++ [0]).length 0 none)).take (HT.sIx (ns ++ [0]).length (ns ++ [0]).length (some k) - HT.sIx (ns ++ [0]).length 0 none), ?_⟩
  have e : ns.map V.int ++ [.int 0] = (ns ++ [0]).map V.int := by rw [List.map_append]; rfl
  rw [e]
  unfold cutV
  rw [List.length_map, List.map_take, List.map_drop]
theorem cell_at {cs : List Int} {i : Nat} {v : V} (h : (cs.map V.int)[i]? = some v) : ∃ c, v = .int c := by
  rw [List.getElem?_map] at h
  cases e : cs[i]? with
  | none => rw [e] at h; cases h
  | some c => rw [e] at h; exact ⟨c, (Option.some.inj h).symm⟩
/-! texts as lists of signs -/
abbrev sg (x : Str) : List Nat := x.cps.toList
def ofL (l : List Nat) : Str := ⟨l.toArray⟩
theorem ofL_sg (x : Str) : ofL (sg x) = x := rfl
theorem sg_ofL (l : List Nat) : sg (ofL l) = l := rfl
theorem sg_len (x : Str) : x.length = (sg x).length := by simp [sg, Str.length]
theorem ext_sg {x y : Str} (h : sg x = sg y) : x = y := Str.ext' (Array.toList_inj.mp h)
theorem ofL_len (l : List Nat) : (ofL l).length = l.length := by rw [sg_len, sg_ofL]
theorem sg_app (x y : Str) : sg (x ++ y) = sg x ++ sg y := by
  show (x ++ y).cps.toList = _
  rw [Str.cps_append, Array.toList_append]
theorem cps_get (x : Str) (i : Nat) : x.cps[i]? = (sg x)[i]? := by simp [sg]
theorem size_sg (x : Str) : x.cps.size = (sg x).length := by simp [sg]
theorem join_one : ∀ l : List Nat, Str.join (ofL []) (l.map fun c => ofL [c]) = ofL l
  | [] => rfl
  | [_] => rfl
  | a :: b :: r => by
    have ih := join_one (b :: r)
    refine ext_sg ?_
    show sg (ofL [a] ++ ofL [] ++ Str.join (ofL []) (ofL [b] :: r.map fun c => ofL [c])) = _
    rw [sg_app, sg_app, show Str.join (ofL []) (ofL [b] :: r.map fun c => ofL [c]) = ofL (b :: r) from ih]
    rfl
theorem txt_join (l : List Nat) : Txt.join (ofL []) (l.map fun c => ofL [c]) = ofL l := (TL.join_eq _ _).trans (join_one l)
theorem sum_one : ∀ l : List Nat, ((l.map fun c => ofL [c]).map (·.length)).sum = l.length
  | [] => rfl
  | _ :: r => by
    rw [List.map_cons, List.map_cons, List.sum_cons, sum_one r, List.length_cons, ofL_len, List.length_singleton]
    omega
theorem cut_to (x : Str) (n : Nat) : cutS x none (some (n : Int)) = ofL ((sg x).take n) := by
  refine ext_sg ?_
  show ((x.cps.toList.drop (HT.sIx x.length 0 none)).take (HT.sIx x.length x.length (some (n : Int)) - HT.sIx x.length 0 none)) = (sg x).take n
  rw [HT.sIx_none, HT.sIx_nat, List.drop_zero, Nat.sub_zero, sg_len, ← List.take_eq_take_min]
theorem cut_from (x : Str) (n : Nat) : cutS x (some (n : Int)) none = ofL ((sg x).drop n) := by
  refine ext_sg ?_
  show ((x.cps.toList.drop (HT.sIx x.length 0 (some (n : Int)))).take (HT.sIx x.length x.length none - HT.sIx x.length 0 (some (n : Int)))) = (sg x).drop n
  rw [HT.sIx_none, HT.sIx_nat, sg_len]
  by_cases h : n ≤ (sg x).length
  · rw [Nat.min_eq_left h, ← List.length_drop, List.take_length]
  · have e : (sg x).length ≤ n := by omega
    rw [Nat.min_eq_right e, Nat.sub_self, List.take_zero, List.drop_eq_nil_of_le e]
end Ms

namespace M
open PySem PySem.Spec PyProof.Rows L2 Ms LamX

abbrev prg : Program := PySem.Challenge.pw_markseam_k23_a_rule_fits
def topS (i : Nat) : Stmt := PySem.Challenge.pw_markseam_k23_a_rule_fits.main.body.getD i (.Pass ⟨0, 0, 0, 0⟩)
abbrev s_is_text : Stmt := topS 6
abbrev n_is_text : List Str := ["thing"]
theorem sc_is_text : FnScope n_is_text ["thing"] (defScope s_is_text) := ⟨rfl, rfl, rfl, by decide +kernel, rfl, by decide +kernel, by decide +kernel⟩
abbrev s_are_signs : Stmt := topS 7
abbrev n_are_signs : List Str := ["thing", "least", "most"]
theorem sc_are_signs : FnScope n_are_signs ["thing", "least", "most"] (defScope s_are_signs) := ⟨rfl, rfl, rfl, by decide +kernel, rfl, by decide +kernel, by decide +kernel⟩
abbrev s_are_unlike_signs : Stmt := topS 8
abbrev n_are_unlike_signs : List Str := ["thing", "most"]
theorem sc_are_unlike_signs : FnScope n_are_unlike_signs ["thing", "most"] (defScope s_are_unlike_signs) := ⟨rfl, rfl, rfl, by decide +kernel, rfl, by decide +kernel, by decide +kernel⟩
abbrev s_last_signs : Stmt := topS 9
abbrev n_last_signs : List Str := ["text", "many"]
theorem sc_last_signs : FnScope n_last_signs ["text", "many"] (defScope s_last_signs) := ⟨rfl, rfl, rfl, by decide +kernel, rfl, by decide +kernel, by decide +kernel⟩
abbrev s_is_place : Stmt := topS 15
abbrev n_is_place : List Str := ["thing"]
theorem sc_is_place : FnScope n_is_place ["thing"] (defScope s_is_place) := ⟨rfl, rfl, rfl, by decide +kernel, rfl, by decide +kernel, by decide +kernel⟩
abbrev s_is_edge : Stmt := topS 16
abbrev n_is_edge : List Str := ["thing"]
theorem sc_is_edge : FnScope n_is_edge ["thing"] (defScope s_is_edge) := ⟨rfl, rfl, rfl, by decide +kernel, rfl, by decide +kernel, by decide +kernel⟩
abbrev s_are_places : Stmt := topS 17
abbrev n_are_places : List Str := ["things", "thing"]
theorem sc_are_places : FnScope n_are_places ["things"] (defScope s_are_places) := ⟨rfl, rfl, rfl, by decide +kernel, rfl, by decide +kernel, by decide +kernel⟩
abbrev s_is_beside : Stmt := topS 18
abbrev n_is_beside : List Str := ["things"]
theorem sc_is_beside : FnScope n_is_beside ["things"] (defScope s_is_beside) := ⟨rfl, rfl, rfl, by decide +kernel, rfl, by decide +kernel, by decide +kernel⟩
abbrev s_is_behind : Stmt := topS 19
abbrev n_is_behind : List Str := ["things"]
theorem sc_is_behind : FnScope n_is_behind ["things"] (defScope s_is_behind) := ⟨rfl, rfl, rfl, by decide +kernel, rfl, by decide +kernel, by decide +kernel⟩
abbrev s_is_ahead : Stmt := topS 20
abbrev n_is_ahead : List Str := ["things"]
theorem sc_is_ahead : FnScope n_is_ahead ["things"] (defScope s_is_ahead) := ⟨rfl, rfl, rfl, by decide +kernel, rfl, by decide +kernel, by decide +kernel⟩
abbrev s_want_parts : Stmt := topS 21
abbrev n_want_parts : List Str := ["what", "becomes", "behind", "ahead"]
theorem sc_want_parts : FnScope n_want_parts ["what", "becomes", "behind", "ahead"] (defScope s_want_parts) := ⟨rfl, rfl, rfl, by decide +kernel, rfl, by decide +kernel, by decide +kernel⟩
abbrev s_sorted_places : Stmt := topS 22
abbrev n_sorted_places : List Str := ["places", "place"]
theorem sc_sorted_places : FnScope n_sorted_places ["places"] (defScope s_sorted_places) := ⟨rfl, rfl, rfl, by decide +kernel, rfl, by decide +kernel, by decide +kernel⟩
abbrev s_stand_in : Stmt := topS 23
abbrev n_stand_in : List Str := ["signs", "places", "sign", "place"]
theorem sc_stand_in : FnScope n_stand_in ["signs", "places"] (defScope s_stand_in) := ⟨rfl, rfl, rfl, by decide +kernel, rfl, by decide +kernel, by decide +kernel⟩
abbrev s_dotted : Stmt := topS 24
abbrev n_dotted : List Str := ["places"]
theorem sc_dotted : FnScope n_dotted ["places"] (defScope s_dotted) := ⟨rfl, rfl, rfl, by decide +kernel, rfl, by decide +kernel, by decide +kernel⟩
abbrev s_y_mixed : Stmt := topS 27
abbrev n_y_mixed : List Str := ["_law_cell", "_law_k", "_law_number"]
theorem sc_y_mixed : FnScope n_y_mixed ["_law_cell", "_law_k"] (defScope s_y_mixed) := ⟨rfl, rfl, rfl, by decide +kernel, rfl, by decide +kernel, by decide +kernel⟩
abbrev s_y_source : Stmt := topS 28
abbrev n_y_source : List Str := ["_law_cell"]
theorem sc_y_source : FnScope n_y_source ["_law_cell"] (defScope s_y_source) := ⟨rfl, rfl, rfl, by decide +kernel, rfl, by decide +kernel, by decide +kernel⟩
abbrev s_y_take : Stmt := topS 29
abbrev n_y_take : List Str := ["_law_source_here", "_law_many", "_law_found"]
theorem sc_y_take : FnScope n_y_take ["_law_source_here", "_law_many"] (defScope s_y_take) := ⟨rfl, rfl, rfl, by decide +kernel, rfl, by decide +kernel, by decide +kernel⟩
abbrev s_y_unlike : Stmt := topS 30
abbrev n_y_unlike : List Str := ["_law_source_here", "_law_many", "_law_rest", "_law_found", "_law_k", "_law_at"]
theorem sc_y_unlike : FnScope n_y_unlike ["_law_source_here", "_law_many"] (defScope s_y_unlike) := ⟨rfl, rfl, rfl, by decide +kernel, rfl, by decide +kernel, by decide +kernel⟩
abbrev s_y_place : Stmt := topS 31
abbrev n_y_place : List Str := ["_law_source_here", "_law_signs", "_law_found", "_law_sign"]
theorem sc_y_place : FnScope n_y_place ["_law_source_here", "_law_signs"] (defScope s_y_place) := ⟨rfl, rfl, rfl, by decide +kernel, rfl, by decide +kernel, by decide +kernel⟩
abbrev s_y_places : Stmt := topS 32
abbrev n_y_places : List Str := ["_law_source_here", "_law_signs", "_law_least", "_law_most", "_law_k"]
theorem sc_y_places : FnScope n_y_places ["_law_source_here", "_law_signs", "_law_least", "_law_most"] (defScope s_y_places) := ⟨rfl, rfl, rfl, by decide +kernel, rfl, by decide +kernel, by decide +kernel⟩
abbrev s_y_text : Stmt := topS 33
abbrev n_y_text : List Str := ["_law_source_here", "_law_signs", "_law_most", "_law_k"]
theorem sc_y_text : FnScope n_y_text ["_law_source_here", "_law_signs", "_law_most"] (defScope s_y_text) := ⟨rfl, rfl, rfl, by decide +kernel, rfl, by decide +kernel, by decide +kernel⟩
abbrev s_y_standing : Stmt := topS 34
abbrev n_y_standing : List Str := ["_law_source_here", "_law_places_here", "_law_some", "_law_place_here"]
theorem sc_y_standing : FnScope n_y_standing ["_law_source_here", "_law_places_here"] (defScope s_y_standing) := ⟨rfl, rfl, rfl, by decide +kernel, rfl, by decide +kernel, by decide +kernel⟩
abbrev s_y_spoiled : Stmt := topS 35
abbrev n_y_spoiled : List Str := ["_law_source_here", "_law_text_here", "_law_signs", "_law_way", "_law_at", "_law_sign"]
theorem sc_y_spoiled : FnScope n_y_spoiled ["_law_source_here", "_law_text_here", "_law_signs"] (defScope s_y_spoiled) := ⟨rfl, rfl, rfl, by decide +kernel, rfl, by decide +kernel, by decide +kernel⟩
abbrev s_y_stands : Stmt := topS 36
abbrev n_y_stands : List Str := ["_law_places_here", "_law_signs", "_law_k", "_law_place_here"]
theorem sc_y_stands : FnScope n_y_stands ["_law_places_here", "_law_signs"] (defScope s_y_stands) := ⟨rfl, rfl, rfl, by decide +kernel, rfl, by decide +kernel, by decide +kernel⟩
abbrev s_Rule_init : Stmt := inClass (topS 25) 0
abbrev n_Rule_init : List Str := ["self", "what", "becomes", "behind", "ahead"]
theorem sc_Rule_init : FnScope n_Rule_init ["self", "what", "becomes", "behind", "ahead"] (defScope s_Rule_init) := ⟨rfl, rfl, rfl, by decide +kernel, rfl, by decide +kernel, by decide +kernel⟩
abbrev s_Rule_fits : Stmt := inClass (topS 25) 1
abbrev n_Rule_fits : List Str := ["self", "written", "waiting", "front", "coming", "gone"]
theorem sc_Rule_fits : FnScope n_Rule_fits ["self", "written", "waiting"] (defScope s_Rule_fits) := ⟨rfl, rfl, rfl, by decide +kernel, rfl, by decide +kernel, by decide +kernel⟩
abbrev s_Rule_put : Stmt := inClass (topS 25) 5
abbrev n_Rule_put : List Str := ["self"]
theorem sc_Rule_put : FnScope n_Rule_put ["self"] (defScope s_Rule_put) := ⟨rfl, rfl, rfl, by decide +kernel, rfl, by decide +kernel, by decide +kernel⟩
abbrev s_Rule_eq : Stmt := inClass (topS 25) 6
abbrev n_Rule_eq : List Str := ["self", "other"]
theorem sc_Rule_eq : FnScope n_Rule_eq ["self", "other"] (defScope s_Rule_eq) := ⟨rfl, rfl, rfl, by decide +kernel, rfl, by decide +kernel, by decide +kernel⟩
abbrev s_Rule_str : Stmt := inClass (topS 25) 7
abbrev n_Rule_str : List Str := ["self"]
theorem sc_Rule_str : FnScope n_Rule_str ["self"] (defScope s_Rule_str) := ⟨rfl, rfl, rfl, by decide +kernel, rfl, by decide +kernel, by decide +kernel⟩
abbrev s_y_law : Stmt := topS 37
abbrev n_y_law : List Str := ["_law_script", "_law_cell", "_law_source_here", "_law_edges", "_law_signs", "_law_what", "_law_behind", "_law_ahead", "_law_one", "_law_turn", "_law_written", "_law_waiting", "_law_due", "_law_found"]
theorem sc_y_law : FnScope n_y_law ["_law_script"] (defScope s_y_law) := ⟨rfl, rfl, rfl, by decide +kernel, rfl, by decide +kernel, by decide +kernel⟩
structure Env (K : PySem.W.Frag) (mg : Str → Option Value) (base : Heap) : Type where
  f_is_text : Addr
  d_is_text : FuncData
  c_is_text : Addr
  F_is_text : FunC K "is_text" "is_text" s_is_text [] f_is_text d_is_text c_is_text
  g_is_text : mg "is_text" = some (.ref f_is_text)
  b_is_text : Binds K d_is_text ["thing"] []
  f_are_signs : Addr
  d_are_signs : FuncData
  c_are_signs : Addr
  F_are_signs : FunC K "are_signs" "are_signs" s_are_signs [] f_are_signs d_are_signs c_are_signs
  g_are_signs : mg "are_signs" = some (.ref f_are_signs)
  b_are_signs : Binds K d_are_signs ["thing", "least", "most"] []
  f_are_unlike_signs : Addr
  d_are_unlike_signs : FuncData
  c_are_unlike_signs : Addr
  F_are_unlike_signs : FunC K "are_unlike_signs" "are_unlike_signs" s_are_unlike_signs [] f_are_unlike_signs d_are_unlike_signs c_are_unlike_signs
  g_are_unlike_signs : mg "are_unlike_signs" = some (.ref f_are_unlike_signs)
  b_are_unlike_signs : Binds K d_are_unlike_signs ["thing", "most"] []
  f_last_signs : Addr
  d_last_signs : FuncData
  c_last_signs : Addr
  F_last_signs : FunC K "last_signs" "last_signs" s_last_signs [] f_last_signs d_last_signs c_last_signs
  g_last_signs : mg "last_signs" = some (.ref f_last_signs)
  b_last_signs : Binds K d_last_signs ["text", "many"] []
  f_is_place : Addr
  d_is_place : FuncData
  c_is_place : Addr
  F_is_place : FunC K "is_place" "is_place" s_is_place [] f_is_place d_is_place c_is_place
  g_is_place : mg "is_place" = some (.ref f_is_place)
  b_is_place : Binds K d_is_place ["thing"] []
  f_is_edge : Addr
  d_is_edge : FuncData
  c_is_edge : Addr
  F_is_edge : FunC K "is_edge" "is_edge" s_is_edge [] f_is_edge d_is_edge c_is_edge
  g_is_edge : mg "is_edge" = some (.ref f_is_edge)
  b_is_edge : Binds K d_is_edge ["thing"] []
  f_are_places : Addr
  d_are_places : FuncData
  c_are_places : Addr
  F_are_places : FunC K "are_places" "are_places" s_are_places [] f_are_places d_are_places c_are_places
  g_are_places : mg "are_places" = some (.ref f_are_places)
  b_are_places : Binds K d_are_places ["things"] []
  f_is_beside : Addr
  d_is_beside : FuncData
  c_is_beside : Addr
  F_is_beside : FunC K "is_beside" "is_beside" s_is_beside [] f_is_beside d_is_beside c_is_beside
  g_is_beside : mg "is_beside" = some (.ref f_is_beside)
  b_is_beside : Binds K d_is_beside ["things"] []
  f_is_behind : Addr
  d_is_behind : FuncData
  c_is_behind : Addr
  F_is_behind : FunC K "is_behind" "is_behind" s_is_behind [] f_is_behind d_is_behind c_is_behind
  g_is_behind : mg "is_behind" = some (.ref f_is_behind)
  b_is_behind : Binds K d_is_behind ["things"] []
  f_is_ahead : Addr
  d_is_ahead : FuncData
  c_is_ahead : Addr
  F_is_ahead : FunC K "is_ahead" "is_ahead" s_is_ahead [] f_is_ahead d_is_ahead c_is_ahead
  g_is_ahead : mg "is_ahead" = some (.ref f_is_ahead)
  b_is_ahead : Binds K d_is_ahead ["things"] []
  f_want_parts : Addr
  d_want_parts : FuncData
  c_want_parts : Addr
  F_want_parts : FunC K "want_parts" "want_parts" s_want_parts [] f_want_parts d_want_parts c_want_parts
  g_want_parts : mg "want_parts" = some (.ref f_want_parts)
  b_want_parts : Binds K d_want_parts ["what", "becomes", "behind", "ahead"] []
  f_sorted_places : Addr
  d_sorted_places : FuncData
  c_sorted_places : Addr
  F_sorted_places : FunC K "sorted_places" "sorted_places" s_sorted_places [] f_sorted_places d_sorted_places c_sorted_places
  g_sorted_places : mg "sorted_places" = some (.ref f_sorted_places)
  b_sorted_places : Binds K d_sorted_places ["places"] []
  f_stand_in : Addr
  d_stand_in : FuncData
  c_stand_in : Addr
  F_stand_in : FunC K "stand_in" "stand_in" s_stand_in [] f_stand_in d_stand_in c_stand_in
  g_stand_in : mg "stand_in" = some (.ref f_stand_in)
  b_stand_in : Binds K d_stand_in ["signs", "places"] []
  f_dotted : Addr
  d_dotted : FuncData
  c_dotted : Addr
  F_dotted : FunC K "dotted" "dotted" s_dotted [] f_dotted d_dotted c_dotted
  g_dotted : mg "dotted" = some (.ref f_dotted)
  b_dotted : Binds K d_dotted ["places"] []
  f_y_mixed : Addr
  d_y_mixed : FuncData
  c_y_mixed : Addr
  F_y_mixed : FunC K "_law_mixed" "_law_mixed" s_y_mixed [] f_y_mixed d_y_mixed c_y_mixed
  g_y_mixed : mg "_law_mixed" = some (.ref f_y_mixed)
  b_y_mixed : Binds K d_y_mixed ["_law_cell", "_law_k"] []
  f_y_source : Addr
  d_y_source : FuncData
  c_y_source : Addr
  F_y_source : FunC K "_law_source" "_law_source" s_y_source [] f_y_source d_y_source c_y_source
  g_y_source : mg "_law_source" = some (.ref f_y_source)
  b_y_source : Binds K d_y_source ["_law_cell"] []
  f_y_take : Addr
  d_y_take : FuncData
  c_y_take : Addr
  F_y_take : FunC K "_law_take" "_law_take" s_y_take [] f_y_take d_y_take c_y_take
  g_y_take : mg "_law_take" = some (.ref f_y_take)
  b_y_take : Binds K d_y_take ["_law_source_here", "_law_many"] []
  f_y_unlike : Addr
  d_y_unlike : FuncData
  c_y_unlike : Addr
  F_y_unlike : FunC K "_law_unlike" "_law_unlike" s_y_unlike [] f_y_unlike d_y_unlike c_y_unlike
  g_y_unlike : mg "_law_unlike" = some (.ref f_y_unlike)
  b_y_unlike : Binds K d_y_unlike ["_law_source_here", "_law_many"] []
  f_y_place : Addr
  d_y_place : FuncData
  c_y_place : Addr
  F_y_place : FunC K "_law_place" "_law_place" s_y_place [] f_y_place d_y_place c_y_place
  g_y_place : mg "_law_place" = some (.ref f_y_place)
  b_y_place : Binds K d_y_place ["_law_source_here", "_law_signs"] []
  f_y_places : Addr
  d_y_places : FuncData
  c_y_places : Addr
  F_y_places : FunC K "_law_places" "_law_places" s_y_places [] f_y_places d_y_places c_y_places
  g_y_places : mg "_law_places" = some (.ref f_y_places)
  b_y_places : Binds K d_y_places ["_law_source_here", "_law_signs", "_law_least", "_law_most"] []
  f_y_text : Addr
  d_y_text : FuncData
  c_y_text : Addr
  F_y_text : FunC K "_law_text" "_law_text" s_y_text [] f_y_text d_y_text c_y_text
  g_y_text : mg "_law_text" = some (.ref f_y_text)
  b_y_text : Binds K d_y_text ["_law_source_here", "_law_signs", "_law_most"] []
  f_y_standing : Addr
  d_y_standing : FuncData
  c_y_standing : Addr
  F_y_standing : FunC K "_law_standing" "_law_standing" s_y_standing [] f_y_standing d_y_standing c_y_standing
  g_y_standing : mg "_law_standing" = some (.ref f_y_standing)
  b_y_standing : Binds K d_y_standing ["_law_source_here", "_law_places_here"] []
  f_y_spoiled : Addr
  d_y_spoiled : FuncData
  c_y_spoiled : Addr
  F_y_spoiled : FunC K "_law_spoiled" "_law_spoiled" s_y_spoiled [] f_y_spoiled d_y_spoiled c_y_spoiled
  g_y_spoiled : mg "_law_spoiled" = some (.ref f_y_spoiled)
  b_y_spoiled : Binds K d_y_spoiled ["_law_source_here", "_law_text_here", "_law_signs"] []
  f_y_stands : Addr
  d_y_stands : FuncData
  c_y_stands : Addr
  F_y_stands : FunC K "_law_stands" "_law_stands" s_y_stands [] f_y_stands d_y_stands c_y_stands
  g_y_stands : mg "_law_stands" = some (.ref f_y_stands)
  b_y_stands : Binds K d_y_stands ["_law_places_here", "_law_signs"] []
  f_Rule_init : Addr
  d_Rule_init : FuncData
  c_Rule_init : Addr
  F_Rule_init : FunC K "__init__" "Rule.__init__" s_Rule_init [.non, .non] f_Rule_init d_Rule_init c_Rule_init
  b3_Rule_init : ∃ ds, Vals ([.non, .non] : List V) ds ∧ Binds K d_Rule_init ["self", "what", "becomes", "behind", "ahead"] ds
  b4_Rule_init : ∃ ds, Vals ([.non] : List V) ds ∧ Binds K d_Rule_init ["self", "what", "becomes", "behind", "ahead"] ds
  b5_Rule_init : ∃ ds, Vals ([] : List V) ds ∧ Binds K d_Rule_init ["self", "what", "becomes", "behind", "ahead"] ds
  f_Rule_fits : Addr
  d_Rule_fits : FuncData
  c_Rule_fits : Addr
  F_Rule_fits : FunC K "fits" "Rule.fits" s_Rule_fits [] f_Rule_fits d_Rule_fits c_Rule_fits
  b_Rule_fits : Binds K d_Rule_fits ["self", "written", "waiting"] []
  f_Rule_put : Addr
  d_Rule_put : FuncData
  c_Rule_put : Addr
  F_Rule_put : FunC K "put" "Rule.put" s_Rule_put [] f_Rule_put d_Rule_put c_Rule_put
  b_Rule_put : Binds K d_Rule_put ["self"] []
  f_Rule_eq : Addr
  d_Rule_eq : FuncData
  c_Rule_eq : Addr
  F_Rule_eq : FunC K "__eq__" "Rule.__eq__" s_Rule_eq [] f_Rule_eq d_Rule_eq c_Rule_eq
  b_Rule_eq : Binds K d_Rule_eq ["self", "other"] []
  f_Rule_str : Addr
  d_Rule_str : FuncData
  c_Rule_str : Addr
  F_Rule_str : FunC K "__str__" "Rule.__str__" s_Rule_str [] f_Rule_str d_Rule_str c_Rule_str
  b_Rule_str : Binds K d_Rule_str ["self"] []
  f_y_law : Addr
  d_y_law : FuncData
  c_y_law : Addr
  F_y_law : FunC K "law" "law" s_y_law [] f_y_law d_y_law c_y_law
  g_y_law : mg "law" = some (.ref f_y_law)
  b_y_law : Binds K d_y_law ["_law_script"] []
  t_SIGNS : Tok
  v_SIGNS : mg "SIGNS" = some (.str "ABCDEFGHIJKLMNOPQRSTUVWXYZabcdefghijklmnopqrstuvwxyz" t_SIGNS)
  t_EDGE : Tok
  v_EDGE : mg "EDGE" = some (.str "|" t_EDGE)
  t_MOST_TAKEN : Tok
  v_MOST_TAKEN : mg "MOST_TAKEN" = some (.int 3 t_MOST_TAKEN)
  t_MOST_PUT : Tok
  v_MOST_PUT : mg "MOST_PUT" = some (.int 3 t_MOST_PUT)
  t_MOST_BESIDE : Tok
  v_MOST_BESIDE : mg "MOST_BESIDE" = some (.int 2 t_MOST_BESIDE)
  C_Rule : Addr
  g_Rule : mg "Rule" = some (.ref C_Rule)
  cl_Rule : Cls K C_Rule
  na_Rule_what : NoAttr K C_Rule "_what"
  na_Rule_becomes : NoAttr K C_Rule "_becomes"
  na_Rule_behind : NoAttr K C_Rule "_behind"
  na_Rule_ahead : NoAttr K C_Rule "_ahead"
  M_Rule : Mk K C_Rule f_Rule_init
  m_Rule_fits : Meth K C_Rule "fits" f_Rule_fits
  m_Rule_put : Meth K C_Rule "put" f_Rule_put
  m_Rule_eq : Meth K C_Rule "__eq__" f_Rule_eq
  m_Rule_str : Meth K C_Rule "__str__" f_Rule_str
  C_NoRule : Addr
  I_NoRule : Addr
  X_NoRule : PySem.Sx.Txt prg K mg "NoRule" "what" C_NoRule I_NoRule
  C_SeamError : Addr
  v_SeamError : mg "SeamError" = some (.ref C_SeamError)
  m_NoRule_SeamError : PySem.W.exmOne K (.ref C_NoRule) (.ref C_SeamError) = some true
  z_ValueError : mg "ValueError" = none
  z_all : mg "all" = none
  z_bool : mg "bool" = none
  z_enumerate : mg "enumerate" = none
  z_int : mg "int" = none
  z_isinstance : mg "isinstance" = none
  z_len : mg "len" = none
  z_list : mg "list" = none
  z_max : mg "max" = none
  z_range : mg "range" = none
  z_set : mg "set" = none
  z_sorted : mg "sorted" = none
  z_str : mg "str" = none
  z_zip : mg "zip" = none
variable {w : World} {K : PySem.W.Frag} {mg : Str → Option Value} {base : Heap}
abbrev P : Program := prg
abbrev Env.TL (T : Env K mg base) : List (Addr × Str) := []

/-! The draws. -/
def spMixed : Sp := fun vs H Q _ => ∃ c k : Int, vs = [.int c, .int k] ∧ ∀ r : Int, 0 ≤ r → r < 2147483646 → Q (.int r) H
theorem ok_mixed (T : Env K mg base) : FnOk P w K mg base CX0 1 T.f_y_mixed T.d_y_mixed ["_law_cell", "_law_k"] spMixed := by
  refine T.F_y_mixed.ok sc_y_mixed (fun vs H Q E h => ?_) (fun A outer s H vs Q E hr h => ?_)
  · obtain ⟨c, k, rfl, _⟩ := h
    rfl
  · obtain ⟨c, k, rfl, q⟩ := h
    have nd := sc_y_mixed.nd
    refine ⟨_, pss_cons (ps_set (i := 2) nd rfl (.inl rfl) (pe_op op_modN (pe_op op_mul (pe_op op_add (pe_op op_modN (pv 0) pe_int) pe_int) (pe_op op_add (pe_op op_mul (pv 1) pe_int) pe_int)) pe_int))
      (pss_cons (ps_set (i := 2) nd rfl (.inl rfl) (pe_op op_modN (pe_op op_mul (pe_op op_add (pv 2) (pe_op op_mul (pe_op op_modN (pe_op op_fdivW (pv 0) pe_int) pe_int) (pe_op op_add (pv 1) pe_int))) pe_int) pe_int))
      (pss_cons (ps_set (i := 2) nd rfl (.inl rfl) (pe_op op_modN (pe_op op_mul (pv 2) (pe_op op_add (pe_op op_add (pe_op op_fdivN (pv 2) pe_int) pe_int) (pv 1))) pe_int))
      (pss_one (ps_ret (pe_op op_modN (pe_op op_mul (pv 2) (pe_op op_add (pe_op op_fdivN (pv 2) pe_int) pe_int)) pe_int))))), ?_⟩
    refine ⟨_, rfl, _, _, rfl, rfl, (by show (_ : Int) ≠ 0; decide), _, _, rfl, rfl, _, rfl, _, _, rfl, rfl, .inr ⟨by decide, by decide⟩, _, _, rfl, rfl, _, _, rfl, rfl, .inl ?b1, _, _, rfl, rfl, (by show (_ : Int) ≠ 0; decide), ?_⟩
    case b1 =>
      refine bnd1 c ?_ ?_ <;> decide
    refine ⟨_, rfl, _, rfl, _, _, rfl, rfl, ⟨by decide, by decide⟩, _, _, rfl, rfl, (by show (_ : Int) ≠ 0; decide), _, rfl, _, _, rfl, rfl, _, _, rfl, rfl, .inl ?b2, _, _, rfl, rfl, _, _, rfl, rfl, .inr ⟨by decide, by decide⟩, _, _, rfl, rfl, (by show (_ : Int) ≠ 0; decide), ?_⟩
    case b2 =>
      refine bnd0 _ ?_ ?_ <;> decide
    refine ⟨_, rfl, _, rfl, _, _, rfl, rfl, ⟨by decide, by decide⟩, _, _, rfl, rfl, _, rfl, _, _, rfl, rfl, _, _, rfl, rfl, .inl ?b3, _, _, rfl, rfl, (by show (_ : Int) ≠ 0; decide), ?_⟩
    case b3 =>
      refine bnd0 _ ?_ ?_ <;> decide
    refine ⟨_, rfl, _, rfl, _, _, rfl, rfl, ⟨by decide, by decide⟩, _, _, rfl, rfl, _, _, rfl, rfl, .inl ?b4, _, _, rfl, rfl, (by show (_ : Int) ≠ 0; decide), ?_⟩
    case b4 =>
      refine bnd0 _ ?_ ?_ <;> decide
    refine q _ (fm _ (by decide)).1 (Int.lt_of_lt_of_le (fm _ (by decide)).2 (by decide))
def spSource : Sp := fun vs H Q _ => ∃ c : Int, vs = [.int c] ∧ ∀ p, H p = none → ∀ H', Same H H' → Src H' p → Q (.ref p) H'
theorem ok_source (T : Env K mg base) : FnOk P w K mg base CX0 1 T.f_y_source T.d_y_source ["_law_cell"] spSource := by
  refine T.F_y_source.ok sc_y_source (fun vs H Q E h => ?_) (fun A outer s H vs Q E hr h => ?_)
  · obtain ⟨c, rfl, _⟩ := h
    rfl
  · obtain ⟨c, rfl, q⟩ := h
    refine ⟨_, pss_one (ps_ret (pe_lst (pa_cons (pv 0) (pa_cons (pv 0) (pa_cons pe_int pa_nil))))), ?_⟩
    refine ⟨_, rfl, _, rfl, by show 3 ≤ sizeLine; decide, fun p hp => ?_⟩
    exact q p hp _ (same_upd hp) ⟨_, _, _, upd_same⟩
def spTake : Sp := fun vs H Q _ => ∃ (a : Addr) (m : Int), vs = [.ref a, .int m] ∧ Src H a ∧ 0 < m ∧ m < 1073741824 ∧ ∀ (r : Int) H', 0 ≤ r → r < m → Src H' a → But a H H' → Q (.int r) H'
theorem ok_take (T : Env K mg base) : FnOk P w K mg base CX0 2 T.f_y_take T.d_y_take ["_law_source_here", "_law_many"] spTake := by
  refine T.F_y_take.ok sc_y_take (fun vs H Q E h => ?_) (fun A outer s H vs Q E hr h => ?_)
  · obtain ⟨a, m, rfl, _⟩ := h
    rfl
  · obtain ⟨a, m, rfl, ⟨x, c, n, ha⟩, m0, m1, q⟩ := h
    have nd := sc_y_take.nd
    have mz : m ≠ 0 := by omega
    refine ⟨_, pss_cons (ps_if (pt_cmpR op_ge (pe_ix ix_list (pv 0) pe_int (fun _ _ => rfl)) (pe_op op_pow pe_int pe_int) (nomark _))
        (pss_cons (ps_set (i := 2) nd rfl (.inl rfl) (pe_op op_modN (pe_ix ix_list (pv 0) pe_int (fun _ _ => rfl)) (pv 1)))
          (pss_cons (ps_asg (pe_op op_fdivN (pe_ix ix_list (pv 0) pe_int (fun _ _ => rfl)) (pv 1)) (pg_sub (pv 0) pe_int set_list)) (pss_one (ps_ret (pv 2))))) pss_nil)
      (pss_cons (ps_asg (pe_op op_add (pe_ix ix_list (pv 0) pe_int (fun _ _ => rfl)) pe_int) (pg_sub (pv 0) pe_int set_list))
      (pss_one (ps_ret (pe_op op_modN (pe_call (ok_mixed T) hr (by rfl) T.g_y_mixed T.F_y_mixed.kp T.b_y_mixed .nil pass0 (pa_cons (pe_ix ix_list (pv 0) pe_int (fun _ _ => rfl)) (pa_cons (pe_ix ix_list (pv 0) pe_int (fun _ _ => rfl)) pa_nil))) (pv 1))))), ?_⟩
    refine ⟨_, rfl, a, _, _, _, rfl, rfl, SqL.of ha, atI_nat (j := 0) rfl, _, _, rfl, rfl, ⟨by decide, by decide, by decide⟩, _, _, rfl, rfl, _, rfl, ite2 (fun _ => ?_) (fun _ => ?_)⟩
    · refine ⟨_, rfl, a, _, _, _, rfl, rfl, SqL.of ha, atI_nat (j := 0) rfl, _, rfl, _, _, rfl, rfl, mz, ?_⟩
      refine ⟨_, rfl, a, _, _, _, rfl, rfl, SqL.of ha, atI_nat (j := 0) rfl, _, rfl, _, _, rfl, rfl, ⟨mz, by omega⟩, _, rfl, a, _, _, 0, rfl, rfl, ha, rfl, ?_⟩
      refine ⟨_, rfl, ?_⟩
      exact q _ _ (fm _ m0).1 (fm _ m0).2 ⟨_, _, _, upd_same⟩ But.upd
    · refine ⟨_, rfl, a, _, _, _, rfl, rfl, SqL.of ha, atI_nat (j := 2) rfl, _, _, rfl, rfl, _, rfl, a, _, _, 2, rfl, rfl, ha, rfl, ?_⟩
      refine ⟨_, rfl, a, _, _, _, rfl, rfl, SqL.of upd_same, atI_nat (j := 1) rfl, _, rfl, a, _, _, _, rfl, rfl, SqL.of upd_same, atI_nat (j := 2) rfl, ?_⟩
      refine ⟨_, _, rfl, fun r _ _ => ⟨_, rfl, _, _, rfl, rfl, mz, ?_⟩⟩
      exact q _ _ (fm _ m0).1 (fm _ m0).2 ⟨_, _, _, upd_same⟩ But.upd

/-! texts of drawn signs -/
def spText : Sp := fun vs H Q _ => ∃ (a : Addr) (z : List Nat) (m : Int), vs = [.ref a, .str (ofL z), .int m] ∧ Src H a ∧ 0 < z.length ∧ z.length ≤ 1000 ∧ 0 ≤ m ∧ m ≤ 1000 ∧
  ∀ (l : List Nat) H', (l.length : Int) ≤ m → (∀ c ∈ l, c ∈ z) → Src H' a → But a H H' → Q (.str (ofL l)) H'
theorem ok_text (T : Env K mg base) : FnOk P w K mg base CX0 3 T.f_y_text T.d_y_text ["_law_source_here", "_law_signs", "_law_most"] spText := by
  refine T.F_y_text.ok sc_y_text (fun vs H Q E h => ?_) (fun A outer s H vs Q E hr h => ?_)
  · obtain ⟨a, z, m, rfl, _⟩ := h
    rfl
  · obtain ⟨a, z, m, rfl, hS, z0, z1, m0, m1, q⟩ := h
    have nd := sc_y_text.nd
    refine ⟨_, pss_one (ps_ret (pe_join pe_str (pe_lc (own := [("_law_k", 3)]) (g := gName 3) (tt := tYes) (by rfl) nd
      (pi_range1 rfl T.z_range (pa_cons (pe_call (ok_take T) hr (by rfl) T.g_y_take T.F_y_take.kp T.b_y_take .nil pass0 (pa_cons (pv 0) (pa_cons (pe_op op_add (pv 2) pe_int) pa_nil))) pa_nil))
      (blkOk_by (own := [("_law_k", 3)]) (N := n_y_text) (sc := defScope s_y_text) (by decide +kernel)) (fun _ _ _ _ _ => pg_name (i := 3) nd rfl (Or.inl rfl)) (fun _ _ _ _ _ => pts_nil)
      (fun _ _ _ _ _ => pe_item_str (pv 1) (pe_call (ok_take T) hr (by rfl) T.g_y_take T.F_y_take.kp T.b_y_take .nil pass0 (pa_cons (pv 0) (pa_cons (pe_callB call_len_str (by rfl) T.z_len PySem.boot_len (pa_cons (pv 1) pa_nil)) pa_nil))) (fun _ _ => rfl))))), ?_⟩
    refine ⟨⟨_, rfl⟩, _, rfl, _, rfl, _, _, rfl, rfl, a, _, rfl, hS, by omega, by omega, fun r H1 r0 r1 hS1 b1 => ?_⟩
    refine ⟨r, rfl, by omega, by omega, fun D hD => ?_⟩
    have naD : a ≠ D := hS1.ne hD
    refine lc_range (lo := 0) (n := r.toNat) (fun i H' => ∃ l : List Nat, l.length = i ∧ (∀ c ∈ l, c ∈ z) ∧ H' D = some (.lst (l.map fun c => V.str (ofL [c]))) ∧ Src H' a ∧ ∀ b o, b ≠ a → b ≠ D → H1 b = some o → H' b = some o)
      ⟨[], rfl, fun _ h => (nomatch h), upd_same, hS1.same (same_upd hD), fun b o _ n e => by rw [upd_ne n]; exact e⟩ (fun i H2 hi hP => ?_) (fun H2 hP => ?_)
    · obtain ⟨l, el, hl, hd, hS2, k2⟩ := hP
      refine ⟨rfl, ?_⟩
      refine ⟨_, rfl, _, rfl, _, rfl, _, rfl, by rw [ofL_len, sizeLine_eq]; omega, a, _, rfl, hS2, by rw [ofL_len]; omega, by rw [ofL_len]; omega, fun r' H3 q0 q1 hS3 b3 => ?_⟩
      rw [ofL_len] at q1
      have hr' : r'.toNat < z.length := by omega
      refine ⟨ofL z, r', z[r'.toNat], rfl, rfl, q0, by omega, by rw [ofL_len]; exact q1, ?_, _, b3 D _ (Ne.symm naD) hd, by rw [List.length_map, sizeLine_eq]; omega, l ++ [z[r'.toNat]], ?_, ?_, ?_, ?_, ?_⟩
      · rw [cps_get, sg_ofL, List.getElem?_eq_getElem hr']
      · rw [List.length_append, el]; rfl
      · intro c hc
        rcases List.mem_append.mp hc with hc | hc
        · exact hl c hc
        · rw [List.mem_singleton.mp hc]; exact List.getElem_mem _
      · rw [upd_same, List.map_append]; rfl
      · obtain ⟨x, c, n, e⟩ := hS3
        exact ⟨x, c, n, by rw [upd_ne naD]; exact e⟩
      · intro b o n1 n2 e
        rw [upd_ne n2]
        exact b3 b o n1 (k2 b o n1 n2 e)
    · obtain ⟨l, el, hl, hd, hS2, k2⟩ := hP
      refine ⟨ofL [], D, l.map fun c => ofL [c], rfl, rfl, .inl (SqL.of (by rw [hd, List.map_map]; rfl)), ?_, ?_⟩
      · rw [sum_one]
        show l.length + _ * 0 ≤ _
        omega
      · show Q (.str (Txt.join (ofL []) (l.map fun c => ofL [c]))) H2
        rw [txt_join]
        refine q l H2 (by omega) hl hS2 (fun b o n e => ?_)
        have n2 : b ≠ D := ne_of_none (b1 b o n e) hD
        exact k2 b o n n2 (b1 b o n e)

/-! signs, letters, words: what is let by -/
abbrev SG : List Nat := sg "ABCDEFGHIJKLMNOPQRSTUVWXYZabcdefghijklmnopqrstuvwxyz"
/-- a thing that is no text -/
inductive Oth (s : Addr) (H : Hp) : V → Prop
  | non : Oth s H .non
  | int (i : Int) : Oth s H (.int i)
  | bl (b : Bool) : Oth s H (.bl b)
  | lst {a : Addr} {xs : List V} (n : a ≠ s) (h : H a = some (.lst xs)) : Oth s H (.ref a)
  | tup {a : Addr} {xs : List V} (n : a ≠ s) (h : H a = some (.tup xs)) : Oth s H (.ref a)
theorem Oth.ext {s : Addr} {H H' : Hp} {v : V} (h : Oth s H v) (k : ∀ b o, b ≠ s → H b = some o → (∀ ps, o ≠ .tbl ps) → H' b = some o) : Oth s H' v := by
  cases h with
  | non => exact .non
  | int i => exact .int i
  | bl b => exact .bl b
  | lst n e => exact .lst n (k _ _ n e fun _ z => by cases z)
  | tup n e => exact .tup n (k _ _ n e fun _ z => by cases z)
theorem Oth.ty {s : Addr} {H : Hp} {v : V} (h : Oth s H v) : ∃ t, TyX K H v t ∧ PySem.W.kitOne K t (.type "str") = some false := by
  cases h with
  | non => exact ⟨_, .base .non, kit_ty (by decide +kernel)⟩
  | int i => exact ⟨_, .base (.int i), kit_ty (by decide +kernel)⟩
  | bl b => exact ⟨_, .base (.bl b), kit_ty (by decide +kernel)⟩
  | lst n e => exact ⟨_, .base (.lst e), kit_ty (by decide +kernel)⟩
  | tup n e => exact ⟨_, .base (.tup e), kit_ty (by decide +kernel)⟩
/-- a text, or none -/
inductive IsT (s : Addr) (H : Hp) : V → Option (List Nat) → Prop
  | no {v : V} (h : Oth s H v) : IsT s H v none
  | yes {z : List Nat} (h : z.length ≤ 4000) : IsT s H (.str (ofL z)) (some z)
theorem IsT.ext {s : Addr} {H H' : Hp} {v : V} {tz : Option (List Nat)} (h : IsT s H v tz) (k : ∀ b o, b ≠ s → H b = some o → (∀ ps, o ≠ .tbl ps) → H' b = some o) : IsT s H' v tz := by
  cases h with
  | no h => exact .no (h.ext k)
  | yes h => exact .yes h
theorem IsT.same {s : Addr} {H H' : Hp} {v : V} {tz : Option (List Nat)} (h : IsT s H v tz) (k : Same H H') : IsT s H' v tz := h.ext fun b o _ e _ => k b o e
theorem IsT.but {s : Addr} {H H' : Hp} {v : V} {tz : Option (List Nat)} (h : IsT s H v tz) (k : But s H H') : IsT s H' v tz := h.ext fun b o n e _ => k b o n e
theorem IsT.extN {s : Addr} {H H' : Hp} {v : V} {tz : Option (List Nat)} (h : IsT s H v tz) (k : ExtN H H') : IsT s H' v tz := h.ext fun b o _ e n => k b o e n
/-- letters, as they ought to be -/
def Good (z : List Nat) : Prop := 1 ≤ z.length ∧ z.length ≤ 16 ∧ z.Nodup ∧ ∀ c ∈ z, c ∈ SG
instance (z : List Nat) : Decidable (Good z) := by unfold Good; infer_instance
/-- what is due of a thing -/
def ans (A : List Nat) : Option (List Nat) → Str × V
  | none => ("word", .int (-1))
  | some z => match z.findIdx? (fun c => decide (c ∉ A)) with | some i => ("word", .int (i : Nat)) | none => ("told", .non)
abbrev CXe (w : World) : CXT := L2.CX P w
def spAre : Sp := fun vs H Q _ => ∃ (s : Addr) (v : V) (tz : Option (List Nat)) (lo hi : Int), vs = [v, .int lo, .int hi] ∧ IsT s H v tz ∧ ∀ b : Bool, (b = true ↔ ∃ z, tz = some z ∧ lo ≤ z.length ∧ (z.length : Int) ≤ hi ∧ ∀ c ∈ z, c ∈ SG) → ∀ H', Same H H' → Q (.bl b) H'
theorem alpha_sg : ∀ c : Nat, c < 128 → (Unicode.isAlpha c = true ↔ c ∈ SG) := by
  have h : ∀ c ∈ List.range 128, (Unicode.isAlpha c = decide (c ∈ SG)) := by decide +kernel
  intro c hc
  rw [h c (List.mem_range.mpr hc), decide_eq_true_iff]
theorem ascii_iff (z : List Nat) : Txt.isascii (ofL z) = true ↔ ∀ c ∈ z, c < 128 := by
  show z.toArray.all (fun c => decide (c < 128)) = true ↔ _
  rw [List.all_toArray, List.all_eq_true]
  exact ⟨fun h c hc => of_decide_eq_true (h c hc), fun h c hc => decide_eq_true (h c hc)⟩
theorem isalpha_iff (z : List Nat) : Txt.isalpha (ofL z) = true ↔ z ≠ [] ∧ ∀ c ∈ z, Unicode.isAlpha c = true := by
  show (decide ((ofL z).length > 0) && z.toArray.all Unicode.isAlpha) = true ↔ _
  rw [List.all_toArray, Bool.and_eq_true, List.all_eq_true, decide_eq_true_iff, ofL_len]
  refine ⟨fun ⟨a, b⟩ => ⟨fun e => by rw [e] at a; exact absurd a (by decide), b⟩, fun ⟨a, b⟩ => ⟨List.length_pos_iff.mpr a, b⟩⟩
theorem sg_small : ∀ c ∈ SG, c < 128 := by decide +kernel
theorem sgs_iff {z : List Nat} (h : z ≠ []) : (Txt.isascii (ofL z) = true ∧ Txt.isalpha (ofL z) = true) ↔ ∀ c ∈ z, c ∈ SG := by
  rw [ascii_iff, isalpha_iff]
  refine ⟨fun ⟨a, _, b⟩ c hc => (alpha_sg c (a c hc)).mp (b c hc), fun g => ⟨fun c hc => sg_small c (g c hc), h, fun c hc => (alpha_sg c (sg_small c (g c hc))).mpr (g c hc)⟩⟩
def spIsText : Sp := fun vs H Q _ => ∃ (s : Addr) (v : V) (tz : Option (List Nat)), vs = [v] ∧ IsT s H v tz ∧ ∀ b : Bool, (b = true ↔ ∃ z, tz = some z ∧ ∀ c ∈ z, c ∈ SG) → Q (.bl b) H
theorem ok_is_text (T : Env K mg base) : FnOk P w K mg base CX0 1 T.f_is_text T.d_is_text ["thing"] spIsText := by
  refine T.F_is_text.ok sc_is_text (fun vs H Q E h => ?_) (fun A outer s H vs Q E hr h => ?_)
  · obtain ⟨s, v, tz, rfl, _⟩ := h
    rfl
  · obtain ⟨s, v, tz, rfl, ht, q⟩ := h
    refine ⟨_, (pss_one (ps_ret (pe_and (pe_callB call_isi (by rfl) T.z_isinstance boot_isinstance (pa_cons (pv 0) (pa_cons (pe_bltn (v := .ty "str") (by rfl) T.z_str PyProof.Rows.boot_str rfl) pa_nil))) (pe_one (pe_or (pe_cmpR op_eq (pv 0) pe_str (nomark _)) (pe_one (pe_and (pe_m0 PySem.F.slot_str_isascii PySem.F.type_str_isascii mt_isascii (pv 0)) (pe_one (pe_m0 PySem.F.slot_str_isalpha PySem.F.type_str_isalpha mt_isalpha (pv 0)))))))))), ?_⟩
    cases ht with
    | no ho =>
      obtain ⟨t, h1, h2⟩ := ho.ty (K := K)
      refine ⟨_, rfl, _, _, _, _, _, rfl, .ty "str", h1, h2, ?_⟩
      exact ⟨_, rfl, iteF (q _ (by simp))⟩
    | @yes z hz =>
      refine ⟨_, rfl, _, _, _, _, _, rfl, .ty "str", .base (.str _), rfl, _, rfl, iteT ?_⟩
      refine ⟨_, rfl, rfl, _, rfl, ?_⟩
      by_cases hz0 : z = []
      · subst hz0
        rw [decide_eq_true (show V.str (ofL []) = V.str (Str.ofString "") from rfl)]
        exact iteT (q _ ⟨fun _ => ⟨[], rfl, fun _ h => (nomatch h)⟩, fun _ => rfl⟩)
      · rw [decide_eq_false (fun e => hz0 (congrArg sg (V.str.inj e)))]
        refine iteF ⟨_, rfl, ⟨_, rfl⟩, _, rfl, rfl, trivial, _, rfl, ?_⟩
        cases ea : Txt.isascii (ofL z) with
        | false =>
          refine iteF (q _ ⟨fun h => (by cases h), fun ⟨z', e', h⟩ => ?_⟩)
          cases e'
          rw [((sgs_iff hz0).mpr h).1] at ea
          cases ea
        | true =>
          refine iteT ⟨_, rfl, ⟨_, rfl⟩, _, rfl, rfl, trivial, q _ ⟨fun h => ⟨z, rfl, (sgs_iff hz0).mp ⟨ea, h⟩⟩, fun ⟨z', e', h⟩ => ?_⟩⟩
          cases e'
          exact ((sgs_iff hz0).mpr h).2
theorem ok_are_signs (T : Env K mg base) : FnOk P w K mg base CX0 2 T.f_are_signs T.d_are_signs ["thing", "least", "most"] spAre := by
  refine T.F_are_signs.ok sc_are_signs (fun vs H Q E h => ?_) (fun A outer s H vs Q E hr h => ?_)
  · obtain ⟨s, v, tz, lo, hi, rfl, _⟩ := h
    rfl
  · obtain ⟨s, v, tz, lo, hi, rfl, ht, q⟩ := h
    refine ⟨_, (pss_one (ps_ret (pe_and (pe_call (ok_is_text T) (hr.mono (by decide)) (by rfl) T.g_is_text T.F_is_text.kp T.b_is_text .nil pass0 (pa_cons (pv 0) pa_nil)) (pe_one (pe_chain op_le op_le (pv 1) (pe_callB call_len_str (by rfl) T.z_len PySem.boot_len (pa_cons (pv 0) pa_nil)) (pv 2)))))), ?_⟩
    refine ⟨_, rfl, s, v, tz, rfl, ht, fun b hb => ⟨b, rfl, ?_⟩⟩
    cases b with
    | false => exact iteF (q _ ⟨fun z => (by cases z), fun ⟨z, e, _, _, h⟩ => hb.mpr ⟨z, e, h⟩⟩ _ (Same.refl _))
    | true =>
      obtain ⟨z, rfl, hsg⟩ := hb.mp rfl
      cases ht with
      | yes hz =>
        refine iteT ⟨_, rfl, _, rfl, _, rfl, by rw [ofL_len, sizeLine_eq]; omega, _, _, rfl, rfl, _, rfl, ?_⟩
        rw [ofL_len]
        by_cases h1 : lo ≤ (z.length : Int)
        · rw [decide_eq_true h1]
          refine iteT ⟨_, rfl, _, _, rfl, rfl, q _ ⟨fun h => ⟨z, rfl, h1, of_decide_eq_true h, hsg⟩, fun ⟨z', e', _, h3, _⟩ => ?_⟩ _ (Same.refl _)⟩
          cases e'
          exact decide_eq_true h3
        · rw [decide_eq_false h1]
          refine iteF (q _ ⟨fun z => (by cases z), fun ⟨z', e', h3, _⟩ => ?_⟩ _ (Same.refl _))
          cases e'
          exact absurd h3 h1
def spUnlike : Sp := fun vs H Q _ => ∃ (s : Addr) (v : V) (tz : Option (List Nat)) (hi : Int), vs = [v, .int hi] ∧ IsT s H v tz ∧ ∀ b : Bool, (b = true ↔ ∃ z, tz = some z ∧ 1 ≤ z.length ∧ (z.length : Int) ≤ hi ∧ z.Nodup ∧ ∀ c ∈ z, c ∈ SG) → ∀ H', Same H H' → Q (.bl b) H'
theorem ok_are_unlike_signs (T : Env K mg base) : FnOk P w K mg base CX0 3 T.f_are_unlike_signs T.d_are_unlike_signs ["thing", "most"] spUnlike := by
  refine T.F_are_unlike_signs.ok sc_are_unlike_signs (fun vs H Q E h => ?_) (fun A outer s H vs Q E hr h => ?_)
  · obtain ⟨s, v, tz, hi, rfl, _⟩ := h
    rfl
  · obtain ⟨s, v, tz, hi, rfl, ht, q⟩ := h
    refine ⟨_, pss_one (ps_ret (pe_and (pe_call (ok_are_signs T) (hr.mono (by decide)) (by rfl) T.g_are_signs T.F_are_signs.kp T.b_are_signs .nil pass0 (pa_cons (pv 0) (pa_cons pe_int (pa_cons (pv 1) pa_nil)))) <|
      pe_one (pe_cmpR op_eq (Ms.pe_lst_set (by rfl) T.z_len (by rfl) T.z_set (pv 0)) (pe_callB call_len_str (by rfl) T.z_len PySem.boot_len (pa_cons (pv 0) pa_nil)) (nomark _)))), ?_⟩
    refine ⟨_, rfl, _, rfl, s, v, tz, 1, hi, rfl, ht, fun b hb H1 s1 => ⟨b, rfl, ?_⟩⟩
    cases b with
    | false =>
      refine iteF (q _ ⟨fun z => (by cases z), fun ⟨z, e, h1, h2, _, h3⟩ => ?_⟩ _ s1)
      exact hb.mpr ⟨z, e, by omega, h2, h3⟩
    | true =>
      obtain ⟨z, rfl, h1, h2, h3⟩ := hb.mp rfl
      cases ht with
      | yes hz =>
        refine iteT ⟨_, rfl, _, rfl, by rw [ofL_len]; exact hz, fun m hm hd => ?_⟩
        refine ⟨_, rfl, _, rfl, by rw [ofL_len, sizeLine_eq]; omega, rfl, ?_⟩
        rw [ofL_len] at hm hd ⊢
        refine q _ ⟨fun h => ⟨z, rfl, by omega, h2, ?_, h3⟩, fun ⟨z', e', _, _, h4, _⟩ => ?_⟩ _ s1
        · have h := of_decide_eq_true h
          exact hd.mp (by injection h with h; omega)
        · cases e'
          have := hd.mpr h4
          rw [this]
          exact decide_eq_true rfl

theorem S_app (x y : List Nat) : ofL x ++ ofL y = ofL (x ++ y) := ext_sg (sg_app _ _)
theorem pull {l r : List Nat} {i : Nat} {c : Nat} (h : r[i]? = some c) : ((l ++ [c]) ++ (r.take i ++ r.drop (i + 1))).Perm (l ++ r) := by
  obtain ⟨hi, e⟩ := List.getElem?_eq_some_iff.mp h
  rw [List.append_assoc]
  refine List.Perm.append_left l ?_
  have e2 : r = r.take i ++ c :: r.drop (i + 1) := by
    rw [← e, List.getElem_cons_drop, List.take_append_drop]
  conv => rhs; rw [e2]
  exact (List.perm_middle (a := c) (l₁ := r.take i) (l₂ := r.drop (i + 1))).symm
def spUnl : Sp := fun vs H Q _ => ∃ (a : Addr) (m : Int), vs = [.ref a, .int m] ∧ Src H a ∧ 0 ≤ m ∧ m ≤ 17 ∧ ∀ (l : List Nat) H', (l.length : Int) = m → l.Nodup → (∀ c ∈ l, c ∈ SG) → Src H' a → But a H H' → Q (.str (ofL l)) H'
theorem ok_unlike (T : Env K mg base) : FnOk P w K mg base CX0 3 T.f_y_unlike T.d_y_unlike ["_law_source_here", "_law_many"] spUnl := by
  refine T.F_y_unlike.ok sc_y_unlike (fun vs H Q E h => ?_) (fun A outer s H vs Q E hr h => ?_)
  · obtain ⟨a, m, rfl, _⟩ := h
    rfl
  · obtain ⟨a, m, rfl, hS, m0, m1, q⟩ := h
    have nd := sc_y_unlike.nd
    refine ⟨_, pss_cons (ps_set (i := 2) nd rfl (.inl rfl) pe_str) <|
      pss_cons (ps_set (i := 3) nd rfl (.inl rfl) pe_str) <|
      pss_cons (ps_for PassesOwn.never rfl (pi_range1 rfl T.z_range (pa_cons (pv 1) pa_nil)) (pg_name (i := 4) nd rfl (.inl rfl))
        (pss_cons (ps_set (i := 5) nd rfl (.inl rfl) (pe_call (ok_take T) (hr.mono (by decide)) (by rfl) T.g_y_take T.F_y_take.kp T.b_y_take .nil pass0 (pa_cons (pv 0) (pa_cons (pe_callB call_len_str (by rfl) T.z_len PySem.boot_len (pa_cons (pv 2) pa_nil)) pa_nil)))) <|
         pss_cons (ps_set (i := 3) nd rfl (.inl rfl) (pe_op op_add_str (pv 3) (pe_item_str (pv 2) (pv 5) (fun _ _ => rfl)))) <|
         pss_one (ps_set (i := 2) nd rfl (.inl rfl) (pe_op op_add_str (pe_slice sl_str (pv 2) po_none (po_some (pv 5))) (pe_slice sl_str (pv 2) (po_some (pe_op op_add (pv 5) pe_int)) po_none))))) <|
      pss_one (ps_ret (pv 3)), ?_⟩
    refine ⟨_, rfl, m, rfl, by omega, by omega, ?_⟩
    refine for_range (lo := 0) (n := m.toNat) (fun i σ H' => ∃ l r u v, σ = [some (.ref a), some (.int m), some (.str (ofL r)), some (.str (ofL l)), u, v] ∧ l.length = i ∧ (l ++ r).Perm SG ∧ Src H' a ∧ But a H H')
      ⟨[], SG, none, none, rfl, rfl, List.Perm.refl _, hS, But.refl _ _⟩ (fun i σ H2 hi hP => ?_) (fun σ H2 hP => ?_)
    · obtain ⟨l, r, u, v, rfl, el, hp, hS2, b2⟩ := hP
      have lr : l.length + r.length = 52 := by
        have := hp.length_eq
        rw [List.length_append] at this
        rw [this]
        decide +kernel
      refine ⟨_, rfl, _, rfl, _, rfl, by rw [ofL_len, sizeLine_eq]; omega, a, _, rfl, hS2, by rw [ofL_len]; omega, by rw [ofL_len]; omega, fun r' H3 q0 q1 hS3 b3 => ?_⟩
      rw [ofL_len] at q1
      obtain ⟨j, rfl⟩ := Int.eq_ofNat_of_zero_le q0
      have hj : j < r.length := by omega
      have ej : r[j]? = some r[j] := List.getElem?_eq_getElem hj
      refine ⟨_, rfl, _, rfl, _, rfl, ofL r, j, r[j], rfl, rfl, q0, by omega, by rw [ofL_len]; exact q1, by rw [cps_get, sg_ofL]; exact ej, ?_⟩
      refine ⟨_, _, rfl, rfl, by rw [ofL_len, sizeLine_eq]; show l.length + 1 ≤ _; omega, ?_⟩
      have sz : (ofL r).length ≤ sizeLine := by rw [ofL_len, sizeLine_eq]; omega
      refine ⟨_, rfl, _, rfl, _, rfl, ofL r, rfl, sz, ?_⟩
      refine ⟨_, rfl, _, rfl, _, _, rfl, rfl, _, rfl, ofL r, rfl, sz, ?_⟩
      rw [show ((j : Int) + 1) = ((j + 1 : Nat) : Int) from rfl, cut_to, cut_from, sg_ofL]
      refine ⟨_, _, rfl, rfl, by rw [ofL_len, ofL_len, List.length_take, List.length_drop, sizeLine_eq]; omega, ?_⟩
      rw [S_app]
      refine ⟨l ++ [r[j]], r.take j ++ r.drop (j + 1), some (.int (0 + (i : Nat))), some (.int (j : Nat)), ?_, by rw [List.length_append, el]; rfl, (pull ej).trans hp, hS3, b2.trans b3⟩
      rw [← S_app l [r[j]]]
      rfl
    · obtain ⟨l, r, u, v, rfl, el, hp, hS2, b2⟩ := hP
      have nd2 : (l ++ r).Nodup := hp.nodup_iff.mpr (by decide +kernel)
      refine ⟨_, rfl, q l H2 (by omega) (List.nodup_append.mp nd2).1 (fun c hc => hp.mem_iff.mp (List.mem_append_left _ hc)) hS2 b2⟩

/-! rules: good ones -/
/-- a place: unlike signs, one at least -/
def Pl (z : List Nat) : Prop := 1 ≤ z.length ∧ z.length ≤ 52 ∧ z.Nodup ∧ ∀ c ∈ z, c ∈ SG
abbrev EDG : List Nat := [124]
theorem edg_eq : (Str.ofString "|") = ofL EDG := rfl
theorem edg_no : (124 : Nat) ∉ SG := by decide +kernel
/-- places, the edge perhaps among them -/
def PlE (z : List Nat) : Prop := Pl z ∨ z = EDG
abbrev tx (zs : List (List Nat)) : List V := zs.map fun z => V.str (ofL z)
theorem sg_len52 : SG.length = 52 := by decide +kernel
def spIsPlace : Sp := fun vs H Q _ => ∃ (z : List Nat), vs = [.str (ofL z)] ∧ z.length ≤ 4000 ∧ ∀ b H', (b = true ↔ Pl z) → Same H H' → Q (.bl b) H'
theorem ok_is_place (T : Env K mg base) : FnOk P w K mg base CX0 4 T.f_is_place T.d_is_place ["thing"] spIsPlace := by
  refine T.F_is_place.ok sc_is_place (fun vs H Q E h => ?_) (fun A outer s H vs Q E hr h => ?_)
  · obtain ⟨z, rfl, _⟩ := h
    rfl
  · obtain ⟨z, rfl, hz, q⟩ := h
    refine ⟨_, (pss_one (ps_ret (pe_call (ok_are_unlike_signs T) (hr.mono (by decide)) (by rfl) T.g_are_unlike_signs T.F_are_unlike_signs.kp T.b_are_unlike_signs .nil pass0 (pa_cons (pv 0) (pa_cons (pe_callB call_len_str (by rfl) T.z_len PySem.boot_len (pa_cons (pe_glob (v := .str (ofL SG)) rfl T.v_SIGNS ⟨_, rfl⟩) pa_nil)) pa_nil))))), ?_⟩
    refine ⟨_, rfl, _, rfl, by decide +kernel, T.f_is_place, _, some z, 52, rfl, .yes hz, fun b hb H1 s1 => q b H1 (hb.trans ⟨fun ⟨z', e, h⟩ => ?_, fun h => ⟨z, rfl, h.1, by have := h.2.1; omega, h.2.2⟩⟩) s1⟩
    cases e
    exact ⟨h.1, by have := h.2.1; omega, h.2.2⟩
def spIsEdge : Sp := fun vs H Q _ => ∃ (z : List Nat), vs = [.str (ofL z)] ∧ Q (.bl (decide (z = EDG))) H
theorem ok_is_edge (T : Env K mg base) : FnOk P w K mg base CX0 1 T.f_is_edge T.d_is_edge ["thing"] spIsEdge := by
  refine T.F_is_edge.ok sc_is_edge (fun vs H Q E h => ?_) (fun A outer s H vs Q E hr h => ?_)
  · obtain ⟨z, rfl, _⟩ := h
    rfl
  · obtain ⟨z, rfl, q⟩ := h
    refine ⟨_, (pss_one (ps_ret (pe_and (pe_callB call_isi (by rfl) T.z_isinstance boot_isinstance (pa_cons (pv 0) (pa_cons (pe_bltn (v := .ty "str") (by rfl) T.z_str PyProof.Rows.boot_str rfl) pa_nil))) (pe_one (pe_cmpR op_eq (pv 0) (pe_glob (v := .str "|") rfl T.v_EDGE ⟨_, rfl⟩) (nomark _)))))), ?_⟩
    refine ⟨_, rfl, _, _, _, _, _, rfl, .ty "str", .base (.str _), rfl, _, rfl, iteT ?_⟩
    refine ⟨_, rfl, rfl, ?_⟩
    have e : decide (V.str (ofL z) = V.str (Str.ofString "|")) = decide (z = EDG) := by
      rw [decide_eq_decide, edg_eq]
      exact ⟨fun h => congrArg sg (V.str.inj h), fun h => by rw [h]⟩
    rw [e]
    exact q
instance (z : List Nat) : Decidable (Pl z) := by unfold Pl; infer_instance
theorem tx_at {zs : List (List Nat)} {i : Nat} {v : V} (h : (tx zs)[i]? = some v) : ∃ z, zs[i]? = some z ∧ v = .str (ofL z) := by
  rw [List.getElem?_map] at h
  cases e : zs[i]? with
  | none => rw [e] at h; cases h
  | some z => rw [e] at h; exact ⟨z, rfl, (Option.some.inj h).symm⟩
theorem tx_len (zs : List (List Nat)) : (tx zs).length = zs.length := List.length_map _
theorem small1 {n : Nat} (h : n ≤ 5000) : n < sizeLine := by rw [sizeLine_eq]; omega
theorem small2 {n : Nat} (h : n ≤ 5000) : n ≤ sizeLine := by rw [sizeLine_eq]; omega
theorem map_take_snoc {α β : Type} {xs : List α} {f : α → β} {i : Nat} {x : α} (h : xs[i]? = some x) : (xs.take (i + 1)).map f = (xs.take i).map f ++ [f x] := by
  rw [List.take_add_one, h, List.map_append]
  rfl
def spArePl : Sp := fun vs H Q _ => ∃ (a : Addr) (zs : List (List Nat)), vs = [.ref a] ∧ H a = some (.lst (tx zs)) ∧ zs.length ≤ 100 ∧ (∀ z ∈ zs, z.length ≤ 4000) ∧ ∀ H', Same H H' → Q (.bl (decide (∀ z ∈ zs, Pl z))) H'
theorem ok_are_places (T : Env K mg base) : FnOk P w K mg base CX0 5 T.f_are_places T.d_are_places ["things"] spArePl := by
  refine T.F_are_places.ok sc_are_places (fun vs H Q E h => ?_) (fun A outer s H vs Q E hr h => ?_)
  · obtain ⟨a, zs, rfl, _⟩ := h
    rfl
  · obtain ⟨a, zs, rfl, ha, hn, hl, q⟩ := h
    have nd := sc_are_places.nd
    refine ⟨_, (pss_one (ps_ret (pe_callB (cr_all rfl) (by rfl) T.z_all (by rfl) (pa_cons (pe_lc (own := [("thing", 1)]) (g := gName 1) (tt := tYes) (by rfl) nd (pi_list (pv 0)) (blkOk_by (own := [("thing", 1)]) (N := n_are_places) (sc := defScope s_are_places) (by decide +kernel)) (fun _ _ _ _ _ => pg_name (i := 1) nd rfl (Or.inl rfl)) (fun _ _ _ _ _ => pts_nil) (fun _ _ _ _ _ => by exact (pe_call (ok_is_place T) (hr.mono (by decide)) (by rfl) T.g_is_place T.F_is_place.kp T.b_is_place .nil pass0 (pa_cons (pv 1) pa_nil)))) pa_nil)))), ?_⟩
    refine ⟨_, rfl, a, rfl, ⟨_, SqL.of ha⟩, fun D hD => ?_⟩
    refine lc_list (xs := tx zs) (fun i H' => H' D = some (.lst ((zs.take i).map fun z => V.bl (decide (Pl z)))) ∧ Same H H') ⟨upd_same, same_upd hD⟩ (fun i H' _ ⟨_, s⟩ => SqL.of (s _ _ ha)) ?_ ?_
    · rintro i v H1 hv ⟨hd, s1⟩
      obtain ⟨z, hz, rfl⟩ := tx_at hv
      refine ⟨rfl, _, rfl, z, rfl, hl z (List.mem_of_getElem? hz), fun b H2 hb s2 => ?_⟩
      have eb : b = decide (Pl z) := by
        rw [Bool.eq_iff_iff, hb, decide_eq_true_iff]
      subst eb
      refine ⟨_, s2 _ _ hd, by rw [List.length_map, List.length_take]; exact small1 (by omega), by rw [upd_same, map_take_snoc hz], fun b o e => ?_⟩
      rw [upd_ne (ne_of_none e hD)]
      exact s2 _ _ (s1 _ _ e)
    · rintro H1 ⟨hd, s1⟩
      refine ⟨D, zs.map fun z => decide (Pl z), rfl, SqL.of ?_, ?_⟩
      · rw [hd, tx_len, List.take_length, List.map_map]
        rfl
      · have e : (zs.map fun z => decide (Pl z)).all id = decide (∀ z ∈ zs, Pl z) := by
          rw [Bool.eq_iff_iff, List.all_map, List.all_eq_true, decide_eq_true_iff]
          exact ⟨fun h z hz => of_decide_eq_true (h z hz), fun h z hz => decide_eq_true (h z hz)⟩
        rw [e]
        exact q _ s1
theorem cv_from (xs : List V) (n : Nat) : cutV xs (some (n : Int)) none = xs.drop n := by
  unfold cutV
  rw [HT.sIx_none, HT.sIx_nat]
  by_cases h : n ≤ xs.length
  · rw [Nat.min_eq_left h, ← List.length_drop, List.take_length]
  · have e : xs.length ≤ n := by omega
    rw [Nat.min_eq_right e, Nat.sub_self, List.take_zero, List.drop_eq_nil_of_le e]
theorem cv_to (xs : List V) (n : Nat) : cutV xs none (some (n : Int)) = xs.take n := by
  unfold cutV
  rw [HT.sIx_none, HT.sIx_nat, List.drop_zero, Nat.sub_zero, ← List.take_eq_take_min]
theorem cv_last (xs : List V) : cutV xs none (some (-1)) = xs.dropLast := by
  unfold cutV
  rw [HT.sIx_none, List.drop_zero, Nat.sub_zero, List.dropLast_eq_take]
  have e : HT.sIx xs.length xs.length (some (-1)) = xs.length - 1 := by
    show (if (-1 : Int) < 0 then ((-1 : Int) + (xs.length : Int)).toNat else min (-1 : Int).toNat xs.length) = _
    rw [if_pos (by decide)]
    omega
  rw [e]
def spBeside : Sp := fun vs H Q _ => ∃ (a : Addr) (xs : List V), vs = [.ref a] ∧ H a = some (.lst xs) ∧ Q (.bl (decide (xs.length ≤ 2))) H
theorem ok_is_beside (T : Env K mg base) : FnOk P w K mg base CX0 1 T.f_is_beside T.d_is_beside ["things"] spBeside := by
  refine T.F_is_beside.ok sc_is_beside (fun vs H Q E h => ?_) (fun A outer s H vs Q E hr h => ?_)
  · obtain ⟨a, xs, rfl, _⟩ := h
    rfl
  · obtain ⟨a, xs, rfl, ha, q⟩ := h
    refine ⟨_, (pss_one (ps_ret (pe_and (pe_callB call_isi (by rfl) T.z_isinstance boot_isinstance (pa_cons (pv 0) (pa_cons (pe_bltn (v := .ty "list") (by rfl) T.z_list (by rfl) rfl) pa_nil))) (pe_one (pe_cmpR op_le (pe_callB call_len_seq (by rfl) T.z_len PySem.boot_len (pa_cons (pv 0) pa_nil)) (pe_glob (v := .int 2) rfl T.v_MOST_BESIDE ⟨_, rfl⟩) (nomark _)))))), ?_⟩
    refine ⟨_, rfl, _, _, _, _, _, rfl, .ty "list", .base (.lst ha), kit_ty (r := true) (by decide +kernel), _, rfl, iteT ?_⟩
    refine ⟨_, rfl, a, _, rfl, .inl (SqL.of ha), _, _, rfl, rfl, ?_⟩
    have e : decide ((xs.length : Int) ≤ 2) = decide (xs.length ≤ 2) := by rw [decide_eq_decide]; omega
    rw [← e] at q
    exact q
/-- what may stand behind: the edge first, perhaps -/
def GoodB (zs : List (List Nat)) : Prop := zs.length ≤ 2 ∧ ∃ ps, (zs = ps ∨ zs = EDG :: ps) ∧ ∀ z ∈ ps, Pl z
def GoodA (zs : List (List Nat)) : Prop := zs.length ≤ 2 ∧ ∃ ps, (zs = ps ∨ zs = ps ++ [EDG]) ∧ ∀ z ∈ ps, Pl z
theorem pl_ne {z : List Nat} (h : Pl z) : z ≠ EDG := by
  rintro rfl
  exact edg_no (h.2.2.2 124 List.mem_cons_self)
def spBehind : Sp := fun vs H Q _ => ∃ (a : Addr) (zs : List (List Nat)), vs = [.ref a] ∧ H a = some (.lst (tx zs)) ∧ GoodB zs ∧ ∀ H', Same H H' → Q (.bl true) H'
theorem ok_is_behind (T : Env K mg base) : FnOk P w K mg base CX0 6 T.f_is_behind T.d_is_behind ["things"] spBehind := by
  refine T.F_is_behind.ok sc_is_behind (fun vs H Q E h => ?_) (fun A outer s H vs Q E hr h => ?_)
  · obtain ⟨a, zs, rfl, _⟩ := h
    rfl
  · obtain ⟨a, zs, rfl, ha, ⟨h2, ps, hz, hp⟩, q⟩ := h
    refine ⟨_, (pss_cons (ps_if (pt_not (pt_val (pe_call (ok_is_beside T) (hr.mono (by decide)) (by rfl) T.g_is_beside T.F_is_beside.kp T.b_is_beside .nil pass0 (pa_cons (pv 0) pa_nil))))
        (pss_one (ps_ret pe_bl))
        pss_nil) <|
      (pss_one (ps_ret (pe_call (ok_are_places T) (hr.mono (by decide)) (by rfl) T.g_are_places T.F_are_places.kp T.b_are_places .nil pass0 (pa_cons (pe_ifExp (PW.pt (pw_and (pt_truth (pv 0) (by intro _; rfl)) (pw_and1 (pt_val (pe_call (ok_is_edge T) (hr.mono (by decide)) (by rfl) T.g_is_edge T.F_is_edge.kp T.b_is_edge .nil pass0 (pa_cons (pe_ix ix_list (pv 0) pe_int (fun _ _ => rfl)) pa_nil)))))) (pe_slice sl_list (pv 0) (po_some pe_int) po_none) (pv 0)) pa_nil))))), ?_⟩
    refine ⟨_, rfl, a, _, rfl, ha, ⟨_, rfl, ?_⟩⟩
    rw [tx_len, decide_eq_true h2]
    refine iteF ?_
    have all : ∀ {zs : List (List Nat)}, (∀ z ∈ zs, Pl z) → decide (∀ z ∈ zs, Pl z) = true := fun h => decide_eq_true h
    have plain : ∀ zs' : List (List Nat), (∀ z ∈ zs', Pl z) → zs'.length ≤ 2 → ∀ a' H', H' a' = some (.lst (tx zs')) → Same H H' → spArePl [.ref a'] H' Q (fun _ _ _ => False) := by
      intro zs' h hl a' H' ha' s
      refine ⟨a', zs', rfl, ha', by omega, fun z hz => by have := (h z hz).2.1; omega, fun H2 s2 => ?_⟩
      rw [decide_eq_true h]
      exact q _ (s.trans s2)
    refine ⟨_, rfl, _, .inl ⟨_, SqL.of ha, rfl⟩, ?_⟩
    rcases hz with rfl | rfl
    · cases zs with
      | nil => exact iteF ⟨_, rfl, plain [] hp h2 a H ha (Same.refl _)⟩
      | cons z zs =>
        refine iteT ⟨_, rfl, a, _, _, _, rfl, rfl, SqL.of ha, atI_nat (j := 0) rfl, z, rfl, _, rfl, ?_⟩
        rw [decide_eq_false (pl_ne (hp z List.mem_cons_self))]
        exact iteF ⟨_, rfl, plain _ hp h2 a H ha (Same.refl _)⟩
    · refine iteT ⟨_, rfl, a, _, _, _, rfl, rfl, SqL.of ha, atI_nat (j := 0) rfl, EDG, rfl, _, rfl, ?_⟩
      rw [decide_eq_true rfl]
      refine iteT ⟨_, rfl, _, rfl, a, _, rfl, SqL.of ha, fun p hp' => ?_⟩
      have e : cutV (tx (EDG :: ps)) (some 1) none = tx ps := cv_from _ 1
      rw [e]
      exact plain ps hp (by rw [List.length_cons] at h2; omega) p _ upd_same (same_upd hp')
def spAhead : Sp := fun vs H Q _ => ∃ (a : Addr) (zs : List (List Nat)), vs = [.ref a] ∧ H a = some (.lst (tx zs)) ∧ GoodA zs ∧ ∀ H', Same H H' → Q (.bl true) H'
theorem ok_is_ahead (T : Env K mg base) : FnOk P w K mg base CX0 6 T.f_is_ahead T.d_is_ahead ["things"] spAhead := by
  refine T.F_is_ahead.ok sc_is_ahead (fun vs H Q E h => ?_) (fun A outer s H vs Q E hr h => ?_)
  · obtain ⟨a, zs, rfl, _⟩ := h
    rfl
  · obtain ⟨a, zs, rfl, ha, ⟨h2, ps, hz, hp⟩, q⟩ := h
    refine ⟨_, (pss_cons (ps_if (pt_not (pt_val (pe_call (ok_is_beside T) (hr.mono (by decide)) (by rfl) T.g_is_beside T.F_is_beside.kp T.b_is_beside .nil pass0 (pa_cons (pv 0) pa_nil))))
        (pss_one (ps_ret pe_bl))
        pss_nil) <|
      (pss_one (ps_ret (pe_call (ok_are_places T) (hr.mono (by decide)) (by rfl) T.g_are_places T.F_are_places.kp T.b_are_places .nil pass0 (pa_cons (pe_ifExp (PW.pt (pw_and (pt_truth (pv 0) (by intro _; rfl)) (pw_and1 (pt_val (pe_call (ok_is_edge T) (hr.mono (by decide)) (by rfl) T.g_is_edge T.F_is_edge.kp T.b_is_edge .nil pass0 (pa_cons (pe_ix ix_list (pv 0) (pe_un un_neg pe_int) (fun _ _ => rfl)) pa_nil)))))) (pe_slice sl_list (pv 0) po_none (po_some (pe_un un_neg pe_int))) (pv 0)) pa_nil))))), ?_⟩
    refine ⟨_, rfl, a, _, rfl, ha, ⟨_, rfl, ?_⟩⟩
    rw [tx_len, decide_eq_true h2]
    refine iteF ?_
    have all : ∀ {zs : List (List Nat)}, (∀ z ∈ zs, Pl z) → decide (∀ z ∈ zs, Pl z) = true := fun h => decide_eq_true h
    have plain : ∀ zs' : List (List Nat), (∀ z ∈ zs', Pl z) → zs'.length ≤ 2 → ∀ a' H', H' a' = some (.lst (tx zs')) → Same H H' → spArePl [.ref a'] H' Q (fun _ _ _ => False) := by
      intro zs' h hl a' H' ha' s
      refine ⟨a', zs', rfl, ha', by omega, fun z hz => by have := (h z hz).2.1; omega, fun H2 s2 => ?_⟩
      rw [decide_eq_true h]
      exact q _ (s.trans s2)
    refine ⟨_, rfl, _, .inl ⟨_, SqL.of ha, rfl⟩, ?_⟩
    have last : ∀ (zs : List (List Nat)) (z : List Nat), atI (tx (zs ++ [z])) (-1) = some (.str (ofL z)) := by
      intro zs z
      rw [show tx (zs ++ [z]) = tx zs ++ [.str (ofL z)] from List.map_append]
      exact atI_last _ _
    rcases hz with rfl | rfl
    · rcases List.eq_nil_or_concat zs with rfl | ⟨zs', z, rfl⟩
      · exact iteF ⟨_, rfl, plain [] hp h2 a H ha (Same.refl _)⟩
      · rw [List.concat_eq_append] at *
        have ne : (!(tx (zs' ++ [z])).isEmpty) = true := by simp [tx]
        rw [ne]
        refine iteT ⟨_, rfl, _, rfl, a, _, _, _, rfl, rfl, SqL.of ha, last zs' z, z, rfl, _, rfl, ?_⟩
        rw [decide_eq_false (pl_ne (hp z (List.mem_append_right _ List.mem_cons_self)))]
        exact iteF ⟨_, rfl, plain _ hp h2 a H ha (Same.refl _)⟩
    · have ne : (!(tx (ps ++ [EDG])).isEmpty) = true := by simp [tx]
      rw [ne]
      refine iteT ⟨_, rfl, _, rfl, a, _, _, _, rfl, rfl, SqL.of ha, last ps EDG, EDG, rfl, _, rfl, ?_⟩
      rw [decide_eq_true rfl]
      refine iteT ⟨_, rfl, _, rfl, _, rfl, a, _, rfl, SqL.of ha, fun p hp' => ?_⟩
      have e : cutV (tx (ps ++ [EDG])) none (some (-1)) = tx ps := by
        rw [cv_last, show tx (ps ++ [EDG]) = tx ps ++ [.str (ofL EDG)] from List.map_append, List.dropLast_concat]
      rw [e]
      exact plain ps hp (by rw [List.length_append] at h2; omega) p _ upd_same (same_upd hp')
def spParts : Sp := fun vs H Q _ => ∃ (a c d : Addr) (wh : List (List Nat)) (be : List Nat) (bh ah : List (List Nat)), vs = [.ref a, .str (ofL be), .ref c, .ref d] ∧ H a = some (.lst (tx wh)) ∧ H c = some (.lst (tx bh)) ∧ H d = some (.lst (tx ah)) ∧
  1 ≤ wh.length ∧ wh.length ≤ 3 ∧ (∀ z ∈ wh, Pl z) ∧ be.length ≤ 3 ∧ (∀ c ∈ be, c ∈ SG) ∧ GoodB bh ∧ GoodA ah ∧ ∀ H', Same H H' → Q .non H'
theorem ok_want_parts (T : Env K mg base) : FnOk P w K mg base (CXe w) 7 T.f_want_parts T.d_want_parts ["what", "becomes", "behind", "ahead"] spParts := by
  refine T.F_want_parts.okX sc_want_parts (fun vs H Q E h => ?_) (fun A outer s H vs Q E hr h => ?_)
  · obtain ⟨a, c, d, wh, be, bh, ah, rfl, _⟩ := h
    rfl
  · obtain ⟨a, c, d, wh, be, bh, ah, rfl, ha, hc, hd, w1, w3, hw, b3, hb, gB, gA, q⟩ := h
    refine ⟨_, (pss_cons (ps_if (PW.pt (pw_or (pt_not (pt_val (pe_callB call_isi (by rfl) T.z_isinstance boot_isinstance (pa_cons (pv 0) (pa_cons (pe_bltn (v := .ty "list") (by rfl) T.z_list (by rfl) rfl) pa_nil))))) (pw_or (pt_not (pt_chain op_le op_le pe_int (pe_callB call_len_seq (by rfl) T.z_len PySem.boot_len (pa_cons (pv 0) pa_nil)) (pe_glob (v := .int 3) rfl T.v_MOST_TAKEN ⟨_, rfl⟩))) (pw_or1 (pt_not (pt_val (pe_call (ok_are_places T) (hr.mono (by decide)) (by rfl) T.g_are_places T.F_are_places.kp T.b_are_places .nil pass0 (pa_cons (pv 0) pa_nil))))))))
        (pss_one (Ms.ps_raiseS rfl T.X_NoRule hr (takes_of rfl rfl rfl rfl) (pa_cons pe_str pa_nil)))
        pss_nil) <|
      pss_cons (ps_if (pt_not (pt_val (pe_call (ok_are_signs T) (hr.mono (by decide)) (by rfl) T.g_are_signs T.F_are_signs.kp T.b_are_signs .nil pass0 (pa_cons (pv 1) (pa_cons pe_int (pa_cons (pe_glob (v := .int 3) rfl T.v_MOST_PUT ⟨_, rfl⟩) pa_nil))))))
        (pss_one (Ms.ps_raiseS rfl T.X_NoRule hr (takes_of rfl rfl rfl rfl) (pa_cons pe_str pa_nil)))
        pss_nil) <|
      pss_cons (ps_if (PW.pt (pw_and (pt_cmpR op_notN (pv 2) pe_non (nomark _)) (pw_and1 (pt_not (pt_val (pe_call (ok_is_behind T) (hr.mono (by decide)) (by rfl) T.g_is_behind T.F_is_behind.kp T.b_is_behind .nil pass0 (pa_cons (pv 2) pa_nil)))))))
        (pss_one (Ms.ps_raiseS rfl T.X_NoRule hr (takes_of rfl rfl rfl rfl) (pa_cons pe_str pa_nil)))
        pss_nil) <|
      (pss_one (ps_if (PW.pt (pw_and (pt_cmpR op_notN (pv 3) pe_non (nomark _)) (pw_and1 (pt_not (pt_val (pe_call (ok_is_ahead T) (hr.mono (by decide)) (by rfl) T.g_is_ahead T.F_is_ahead.kp T.b_is_ahead .nil pass0 (pa_cons (pv 3) pa_nil)))))))
        (pss_one (Ms.ps_raiseS rfl T.X_NoRule hr (takes_of rfl rfl rfl rfl) (pa_cons pe_str pa_nil)))
        pss_nil))), ?_⟩
    refine ⟨_, rfl, _, _, _, _, _, rfl, .ty "list", .base (.lst ha), kit_ty (r := true) (by decide +kernel), _, rfl, iteF ?_⟩
    refine ⟨_, rfl, a, _, rfl, .inl (SqL.of ha), _, _, rfl, rfl, _, rfl, ?_⟩
    rw [tx_len, decide_eq_true (by omega)]
    refine iteT ⟨_, _, rfl, rfl, _, rfl, ?_⟩
    rw [decide_eq_true (by omega)]
    refine iteF ⟨_, rfl, a, wh, rfl, ha, by omega, fun z hz => by have := (hw z hz).2.1; omega, fun H1 s1 => ⟨_, rfl, ?_⟩⟩
    rw [decide_eq_true hw]
    refine iteF ?_
    refine ⟨_, rfl, a, _, some be, 0, 3, rfl, .yes (by omega), fun b eb H2 s2 => ?_⟩
    obtain rfl : b = true := eb.mpr ⟨be, rfl, by omega, by omega, hb⟩
    refine ⟨_, rfl, iteF ?_⟩
    have s12 := s1.trans s2
    refine ⟨_, rfl, rfl, _, rfl, ?_⟩
    refine iteT ⟨_, rfl, c, bh, rfl, s12 _ _ hc, gB, fun H3 s3 => ⟨_, rfl, iteF ?_⟩⟩
    have s13 := s12.trans s3
    refine ⟨_, rfl, rfl, _, rfl, ?_⟩
    exact iteT ⟨_, rfl, d, ah, rfl, s13 _ _ hd, gA, fun H4 s4 => ⟨_, rfl, iteF (q _ (s13.trans s4))⟩⟩
/-- the same places, each turned about -/
def Alike (ys zs : List (List Nat)) : Prop := ys.length = zs.length ∧ ∀ (i : Nat) (y z : List Nat), ys[i]? = some y → zs[i]? = some z → y.Perm z
theorem perm_one {z : List Nat} {ys : List Str} (h : ys.Perm (z.map fun c => ⟨#[c]⟩)) : ∃ l : List Nat, l.Perm z ∧ ys = l.map fun c => ofL [c] := by
  have m : ∀ y ∈ ys, (ofL [y.cps[0]!]) = y := by
    intro y hy
    obtain ⟨c, _, rfl⟩ := List.mem_map.mp (h.mem_iff.mp hy)
    rfl
  refine ⟨ys.map fun y => y.cps[0]!, ?_, ?_⟩
  · have := h.map fun y : Str => y.cps[0]!
    rw [List.map_map] at this
    have e : (z.map ((fun y : Str => y.cps[0]!) ∘ fun c => (⟨#[c]⟩ : Str))) = z := by
      rw [show ((fun y : Str => y.cps[0]!) ∘ fun c => (⟨#[c]⟩ : Str)) = id from rfl, List.map_id]
    rwa [e] at this
  · rw [List.map_map]
    exact ((List.map_congr_left (g := id) m).trans (List.map_id _)).symm
def spSortPl : Sp := fun vs H Q _ => ∃ (a : Addr) (zs : List (List Nat)), vs = [.ref a] ∧ H a = some (.lst (tx zs)) ∧ zs.length ≤ 100 ∧ (∀ z ∈ zs, z.length ≤ 100) ∧ ∀ p ys H', H p = none → H' p = some (.lst (tx ys)) → Alike ys zs → Same H H' → Q (.ref p) H'
theorem ok_sorted_places (T : Env K mg base) : FnOk P w K mg base CX0 1 T.f_sorted_places T.d_sorted_places ["places"] spSortPl := by
  refine T.F_sorted_places.ok sc_sorted_places (fun vs H Q E h => ?_) (fun A outer s H vs Q E hr h => ?_)
  · obtain ⟨a, zs, rfl, _⟩ := h
    rfl
  · obtain ⟨a, zs, rfl, ha, hn, hl, q⟩ := h
    have nd := sc_sorted_places.nd
    refine ⟨_, (pss_cons (ps_if (pt_cmpR op_isN (pv 0) pe_non (nomark _))
        (pss_one (ps_ret (pe_lst pa_nil)))
        pss_nil) <|
      (pss_one (ps_ret (pe_lc (own := [("place", 1)]) (g := gName 1) (tt := tYes) (by rfl) nd (pi_list (pv 0)) (blkOk_by (own := [("place", 1)]) (N := n_sorted_places) (sc := defScope s_sorted_places) (by decide +kernel)) (fun _ _ _ _ _ => pg_name (i := 1) nd rfl (Or.inl rfl)) (fun _ _ _ _ _ => pts_nil) (fun _ _ _ _ _ => by exact (Ms.pe_joinK (K := K) rfl pe_str (pe_callB (by exact Ms.cr_sortedT rfl) (by rfl) T.z_sorted (by rfl) (pa_cons (pv 1) pa_nil)))))))), ?_⟩
    refine ⟨_, rfl, rfl, _, rfl, iteF ?_⟩
    refine ⟨_, rfl, a, rfl, ⟨_, SqL.of ha⟩, fun D hD => ?_⟩
    refine lc_list (xs := tx zs) (fun i H' => ∃ ys, H' D = some (.lst (tx ys)) ∧ Alike ys (zs.take i) ∧ Same H H') ⟨[], upd_same, ⟨rfl, fun j y z h => by simp at h⟩, same_upd hD⟩ (fun i H' _ ⟨_, _, _, s⟩ => SqL.of (s _ _ ha)) ?_ ?_
    · rintro i v H1 hv ⟨ys, hd, al, s1⟩
      obtain ⟨z, hz, rfl⟩ := tx_at hv
      have lz := hl z (List.mem_of_getElem? hz)
      refine ⟨rfl, ⟨_, rfl⟩, _, rfl, ofL z, rfl, by rw [ofL_len]; exact small2 (by omega), fun ys' p hp hs hp' => ?_⟩
      obtain ⟨l, pl, rfl⟩ := perm_one hp
      refine ⟨ofL [], p, l.map fun c => ofL [c], rfl, rfl, .inl (SqL.of upd_same), ?_, ?_⟩
      · rw [sum_one, pl.length_eq]
        show z.length + _ * 0 ≤ _
        omega
      rw [txt_join]
      have hd2 := same_upd hp' (o := .lst ((l.map fun c => ofL [c]).map V.str)) _ _ hd
      refine ⟨_, hd2, by rw [tx_len, al.1, List.length_take]; exact small1 (by omega), ys ++ [l], ?_, ⟨by rw [List.length_append, al.1, List.take_add_one, hz, List.length_append]; rfl, fun j y z' hy hz' => ?_⟩, fun b o e => ?_⟩
      · rw [upd_same]
        exact congrArg (fun x => some (HO.lst x)) (List.map_append (f := fun z => V.str (ofL z)) (l₁ := ys) (l₂ := [l])).symm
      · rw [List.take_add_one, hz] at hz'
        rcases Nat.lt_or_ge j ys.length with hj | hj
        · rw [List.getElem?_append_left hj] at hy
          rw [List.getElem?_append_left (by rw [← al.1]; exact hj)] at hz'
          exact al.2 j y z' hy hz'
        · rw [List.getElem?_append_right hj] at hy
          rw [List.getElem?_append_right (by rw [← al.1]; exact hj), ← al.1] at hz'
          have j0 : j - ys.length = 0 := by
            have := (List.getElem?_eq_some_iff.mp hy).1
            simp at this
            omega
          rw [j0] at hy hz'
          cases hy
          cases hz'
          exact pl
      · rw [upd_ne (ne_of_none e hD)]
        exact same_upd hp' _ _ (s1 _ _ e)
    · rintro H1 ⟨ys, hd, al, s1⟩
      rw [tx_len, List.take_length] at al
      exact q D ys H1 hD hd al s1

/-! a rule as an object -/
theorem n_wb : ¬ ("_what" : Str) = "_becomes" := by decide +kernel
theorem n_wh : ¬ ("_what" : Str) = "_behind" := by decide +kernel
theorem n_wa : ¬ ("_what" : Str) = "_ahead" := by decide +kernel
theorem n_bh : ¬ ("_becomes" : Str) = "_behind" := by decide +kernel
theorem n_ba : ¬ ("_becomes" : Str) = "_ahead" := by decide +kernel
theorem n_ha : ¬ ("_behind" : Str) = "_ahead" := by decide +kernel
/-- the fields of a rule -/
structure Rfs (fs : List (Str × V)) (a : Addr) (be : List Nat) (c d : Addr) : Prop where
  w : fs.lookup ("_what" : Str) = some (V.ref a)
  b : fs.lookup ("_becomes" : Str) = some (V.str (ofL be))
  h : fs.lookup ("_behind" : Str) = some (V.ref c)
  a : fs.lookup ("_ahead" : Str) = some (V.ref d)
  no : ∀ m : Str, m ≠ "_what" → m ≠ "_becomes" → m ≠ "_behind" → m ≠ "_ahead" → fs.lookup m = none
theorem put4 (a c d : Addr) (be : List Nat) : Rfs (putF "_ahead" (.ref d) (putF "_behind" (.ref c) (putF "_becomes" (.str (ofL be)) (putF "_what" (.ref a) [])))) a be c d := by
  refine ⟨?_, ?_, ?_, ?_, fun m h1 h2 h3 h4 => ?_⟩
  · rw [lookup_putF, if_neg n_wa, lookup_putF, if_neg n_wh, lookup_putF, if_neg n_wb, lookup_putF, if_pos rfl]
  · rw [lookup_putF, if_neg n_ba, lookup_putF, if_neg n_bh, lookup_putF, if_pos rfl]
  · rw [lookup_putF, if_neg n_ha, lookup_putF, if_pos rfl]
  · rw [lookup_putF, if_pos rfl]
  · rw [lookup_putF, if_neg h4, lookup_putF, if_neg h3, lookup_putF, if_neg h2, lookup_putF, if_neg h1]
    rfl
/-- a rule stands at r: its places, each sorted -/
def IsR (T : Env K mg base) (H : Hp) (r : Addr) (wh : List (List Nat)) (be : List Nat) (bh ah : List (List Nat)) : Prop :=
  ∃ dx fs a c d, H r = some (.ins T.C_Rule dx fs) ∧ Rfs fs a be c d ∧ H a = some (.lst (tx wh)) ∧ H c = some (.lst (tx bh)) ∧ H d = some (.lst (tx ah))
theorem IsR.same {T : Env K mg base} {H H' : Hp} {r : Addr} {wh bh ah : List (List Nat)} {be : List Nat} (h : IsR T H r wh be bh ah) (s : Same H H') : IsR T H' r wh be bh ah := by
  obtain ⟨dx, fs, a, c, d, h1, hf, h2, h3, h4⟩ := h
  exact ⟨dx, fs, a, c, d, s _ _ h1, hf, s _ _ h2, s _ _ h3, s _ _ h4⟩
def spRInit (T : Env K mg base) : Sp := fun vs H Q _ => ∃ (p dx a c d : Addr) (wh : List (List Nat)) (be : List Nat) (bh ah : List (List Nat)), vs = [.ref p, .ref a, .str (ofL be), .ref c, .ref d] ∧ H p = some (.ins T.C_Rule dx []) ∧ H a = some (.lst (tx wh)) ∧ H c = some (.lst (tx bh)) ∧ H d = some (.lst (tx ah)) ∧
  1 ≤ wh.length ∧ wh.length ≤ 3 ∧ (∀ z ∈ wh, Pl z) ∧ be.length ≤ 3 ∧ (∀ c ∈ be, c ∈ SG) ∧ GoodB bh ∧ GoodA ah ∧ ∀ wh' bh' ah' H', Alike wh' wh → Alike bh' bh → Alike ah' ah → IsR T H' p wh' be bh' ah' → But p H H' → Q .non H'
theorem goodB_len {zs : List (List Nat)} (h : GoodB zs) : ∀ z ∈ zs, z.length ≤ 100 := by
  obtain ⟨_, ps, hz, hp⟩ := h
  have e : EDG.length = 1 := rfl
  intro z hz'
  rcases hz with rfl | rfl
  · have := (hp z hz').2.1; omega
  · rcases List.mem_cons.mp hz' with rfl | h
    · omega
    · have := (hp z h).2.1; omega
theorem goodA_len {zs : List (List Nat)} (h : GoodA zs) : ∀ z ∈ zs, z.length ≤ 100 := by
  obtain ⟨_, ps, hz, hp⟩ := h
  have e : EDG.length = 1 := rfl
  intro z hz'
  rcases hz with rfl | rfl
  · have := (hp z hz').2.1; omega
  · rcases List.mem_append.mp hz' with h | h
    · have := (hp z h).2.1; omega
    · rw [List.mem_singleton.mp h]; omega
theorem ok_Rule_init (T : Env K mg base) : FnOk P w K mg base (CXe w) 8 T.f_Rule_init T.d_Rule_init ["self", "what", "becomes", "behind", "ahead"] (spRInit T) := by
  refine T.F_Rule_init.okX sc_Rule_init (fun vs H Q E h => ?_) (fun A outer s H vs Q E hr h => ?_)
  · obtain ⟨p, dx, a, c, d, wh, be, bh, ah, rfl, _⟩ := h
    rfl
  · obtain ⟨p, dx, a, c, d, wh, be, bh, ah, rfl, hp, ha, hc, hd, w1, w3, hw, b3, hb, gB, gA, q⟩ := h
    refine ⟨_, (pss_cons (ps_expr (pe_call (ok_want_parts T) (hr.mono (by decide)) (by rfl) T.g_want_parts T.F_want_parts.kp T.b_want_parts .nil (passes_call (takes_of rfl rfl rfl rfl) (fun _ _ _ _ h => h)) (pa_cons (pv 1) (pa_cons (pv 2) (pa_cons (pv 3) (pa_cons (pv 4) pa_nil)))))) <|
      pss_cons (ps_fld (pv 0) (pe_call (ok_sorted_places T) (hr.mono (by decide)) (by rfl) T.g_sorted_places T.F_sorted_places.kp T.b_sorted_places .nil pass0 (pa_cons (pv 1) pa_nil)) rfl) <|
      pss_cons (ps_fld (pv 0) (pv 2) rfl) <|
      pss_cons (ps_fld (pv 0) (pe_call (ok_sorted_places T) (hr.mono (by decide)) (by rfl) T.g_sorted_places T.F_sorted_places.kp T.b_sorted_places .nil pass0 (pa_cons (pv 3) pa_nil)) rfl) <|
      (pss_one (ps_fld (pv 0) (pe_call (ok_sorted_places T) (hr.mono (by decide)) (by rfl) T.g_sorted_places T.F_sorted_places.kp T.b_sorted_places .nil pass0 (pa_cons (pv 4) pa_nil)) rfl))), ?_⟩
    refine ⟨_, rfl, _, rfl, _, rfl, _, rfl, a, c, d, wh, be, bh, ah, rfl, ha, hc, hd, w1, w3, hw, b3, hb, gB, gA, fun H1 s1 => ?_⟩
    refine ⟨_, rfl, a, wh, rfl, s1 _ _ ha, by omega, fun z hz => by have := (hw z hz).2.1; omega, fun p1 ys1 H2 n1 h1 al1 s2 => ?_⟩
    have s12 := s1.trans s2
    have hp2 := s12 _ _ hp
    have neq : ∀ {H' : Hp} {x : Addr} {xs : List V}, H' p = some (.ins T.C_Rule dx []) → H' x = some (.lst xs) → x ≠ p := fun h1 h2 e => by rw [e, h1] at h2; cases h2
    have np1 : p1 ≠ p := neq hp2 h1
    have nc : c ≠ p := neq hp hc
    have nd' : d ≠ p := neq hp hd
    refine ⟨_, rfl, p, _, dx, _, rfl, hp2, T.cl_Rule, T.na_Rule_what, by show 0 < 1000; decide, ?_⟩
    refine ⟨_, rfl, _, rfl, p, _, dx, _, rfl, upd_same, T.cl_Rule, T.na_Rule_becomes, by show 1 < 1000; decide, ?_⟩
    refine ⟨_, rfl, c, bh, rfl, by rw [upd_ne nc, upd_ne nc]; exact s12 _ _ hc, by have := gB.1; omega, goodB_len gB, fun p2 ys2 H3 n2 h2 al2 s3 => ?_⟩
    have keep3 : ∀ {b o}, b ≠ p → H b = some o → H3 b = some o := fun {b o} n e => s3 _ _ (by rw [upd_ne n, upd_ne n]; exact s12 _ _ e)
    have hp3 := s3 _ _ upd_same
    have h13 : H3 p1 = some (.lst (tx ys1)) := s3 _ _ (by rw [upd_ne np1, upd_ne np1]; exact h1)
    have np2 : p2 ≠ p := fun e => by rw [e, hp3] at h2; cases h2
    refine ⟨_, rfl, p, _, dx, _, rfl, hp3, T.cl_Rule, T.na_Rule_behind, by show 2 < 1000; decide, ?_⟩
    refine ⟨_, rfl, d, ah, rfl, by rw [upd_ne nd']; exact keep3 nd' hd, by have := gA.1; omega, goodA_len gA, fun p3 ys3 H4 n3 h3 al3 s4 => ?_⟩
    have hp4 := s4 _ _ upd_same
    have np3 : p3 ≠ p := fun e => by rw [e, hp4] at h3; cases h3
    have h14 : H4 p1 = some (.lst (tx ys1)) := s4 _ _ (by rw [upd_ne np1]; exact h13)
    have h24 : H4 p2 = some (.lst (tx ys2)) := s4 _ _ (by rw [upd_ne np2]; exact h2)
    refine ⟨_, rfl, p, _, dx, _, rfl, hp4, T.cl_Rule, T.na_Rule_ahead, by show 3 < 1000; decide, ?_⟩
    refine q ys1 ys2 ys3 _ al1 al2 al3 ⟨dx, _, p1, p2, p3, upd_same, put4 _ _ _ _, by rw [upd_ne np1]; exact h14, by rw [upd_ne np2]; exact h24, by rw [upd_ne np3]; exact h3⟩ fun b o n e => ?_
    rw [upd_ne n]
    exact s4 _ _ (by rw [upd_ne n]; exact keep3 n e)
def spLast : Sp := fun vs H Q _ => ∃ (z : List Nat) (m : Nat), vs = [.str (ofL z), .int m] ∧ z.length ≤ 4000 ∧ Q (.str (ofL (z.drop (z.length - m)))) H
theorem ok_last_signs (T : Env K mg base) : FnOk P w K mg base CX0 1 T.f_last_signs T.d_last_signs ["text", "many"] spLast := by
  refine T.F_last_signs.ok sc_last_signs (fun vs H Q E h => ?_) (fun A outer s H vs Q E hr h => ?_)
  · obtain ⟨z, m, rfl, _⟩ := h
    rfl
  · obtain ⟨z, m, rfl, hz, q⟩ := h
    have sz : (ofL z).length ≤ sizeLine := by rw [ofL_len]; exact small2 (by omega)
    refine ⟨_, (pss_one (ps_ret (pe_slice sl_str (pv 0) (po_some (pe_callB (call_max2 rfl) (by rfl) T.z_max (by rfl) (pa_cons pe_int (pa_cons (pe_op op_sub (pe_callB call_len_str (by rfl) T.z_len PySem.boot_len (pa_cons (pv 0) pa_nil)) (pv 1)) pa_nil)))) po_none))), ?_⟩
    refine ⟨_, rfl, _, rfl, _, rfl, sz, _, rfl, _, _, rfl, rfl, _, _, rfl, _, rfl, ofL z, rfl, sz, ?_⟩
    rw [ofL_len]
    have e : (if ((z.length : Nat) : Int) - (m : Nat) > 0 then ((z.length : Nat) : Int) - (m : Nat) else 0) = ((z.length - m : Nat) : Int) := by
      split <;> omega
    rw [e, cut_from, sg_ofL]
    exact q
/-- each sign in its place, none left, no place empty -/
def StandIn (x : List Nat) (ps : List (List Nat)) : Prop := x.length = ps.length ∧ ∀ (i : Nat) (c : Nat) (p : List Nat), x[i]? = some c → ps[i]? = some p → c ∈ p
def spStand : Sp := fun vs H Q _ => ∃ (x : List Nat) (a : Addr) (ps : List (List Nat)), vs = [.str (ofL x), .ref a] ∧ H a = some (.lst (tx ps)) ∧ x.length ≤ 4000 ∧ ps.length ≤ 100 ∧ ∀ b H', (b = true ↔ StandIn x ps) → Same H H' → Q (.bl b) H'
theorem ok_stand_in (T : Env K mg base) : FnOk P w K mg base CX0 1 T.f_stand_in T.d_stand_in ["signs", "places"] spStand := by
  refine T.F_stand_in.ok sc_stand_in (fun vs H Q E h => ?_) (fun A outer s H vs Q E hr h => ?_)
  · obtain ⟨x, a, ps, rfl, _⟩ := h
    rfl
  · obtain ⟨x, a, ps, rfl, ha, hx, hp, q⟩ := h
    have nd := sc_stand_in.nd
    have sx : (ofL x).length ≤ sizeLine := by rw [ofL_len]; exact small2 (by omega)
    refine ⟨_, (pss_one (ps_ret (pe_and (pe_cmpR op_eq (pe_callB call_len_str (by rfl) T.z_len PySem.boot_len (pa_cons (pv 0) pa_nil)) (pe_callB call_len_seq (by rfl) T.z_len PySem.boot_len (pa_cons (pv 1) pa_nil)) (nomark _)) (pe_one (pe_callB (cr_all rfl) (by rfl) T.z_all (by rfl) (pa_cons (pe_lc (own := [("sign", 2), ("place", 3)]) (g := _) (tt := tYes) (by rfl) nd (pi_zs (by rfl) T.z_zip (pa_cons (pv 0) (pa_cons (pv 1) pa_nil))) (blkOk_by (own := [("sign", 2), ("place", 3)]) (N := n_stand_in) (sc := defScope s_stand_in) (by decide +kernel)) (fun _ _ _ _ _ => by exact (Ms.pg_tupK (n := 2) (K := K) rfl (by rfl) (pgs_cons (pg_name (i := 2) nd rfl (by first | exact .inl rfl | exact .inr rfl)) (pgs_cons (pg_name (i := 3) nd rfl (by first | exact .inl rfl | exact .inr rfl)) pgs_nil)))) (fun _ _ _ _ _ => pts_nil) (fun _ _ _ _ _ => by exact (pe_cmpR op_in_sign (pv 2) (pv 3) (by rfl)))) pa_nil)))))), ?_⟩
    refine ⟨_, rfl, _, rfl, sx, _, rfl, a, _, rfl, .inl (SqL.of ha), rfl, _, rfl, ?_⟩
    rw [ofL_len, tx_len]
    by_cases hl : x.length = ps.length
    · rw [decide_eq_true (by rw [hl])]
      refine iteT ⟨_, rfl, _, rfl, ofL x, _, rfl, .inr ⟨_, _, rfl, SqL.of ha, fun D hD => ?_⟩⟩
      generalize eL : List.zipWith (fun c p => decide (c ∈ p)) x ps = L
      have lL : L.length = x.length := by rw [← eL, List.length_zipWith, hl, Nat.min_self]
      have gL : ∀ (i c : Nat) (p : List Nat), x[i]? = some c → ps[i]? = some p → L[i]? = some (decide (c ∈ p)) := by
        intro i c p h1 h2
        rw [← eL, List.getElem?_zipWith, h1, h2]
      refine lc_it (walk_sl (ys := tx ps)) (fun i H' => H' D = some (.lst ((L.take i).map V.bl)) ∧ Same H H') ⟨upd_same, same_upd hD⟩ (fun i H' _ ⟨_, s⟩ => SqL.of (s _ _ ha)) ?_ ?_
      · rintro i v H1 H2 hi ⟨hd, s1⟩ ⟨t, c, y, rfl, ht, rfl, ec, ey⟩
        rw [cps_get, sg_ofL] at ec
        obtain ⟨p, ep, rfl⟩ := tx_at ey
        have s2 := same_upd ht (o := .tup [.str ⟨#[c]⟩, .str (ofL p)])
        refine ⟨t, _, rfl, SqT.of upd_same, rfl, _, _, rfl, _, _, rfl, rfl, rfl, ?_⟩
        refine ⟨_, rfl, _, rfl, c, _, rfl, rfl, _, s2 _ _ hd, by rw [List.length_map, List.length_take]; exact small1 (by omega), ?_, fun b o e => ?_⟩
        · rw [upd_same, map_take_snoc (gL i c p ec ep)]
          rfl
        · rw [upd_ne (ne_of_none e hD)]
          exact s2 _ _ (s1 _ _ e)
      · rintro H1 ⟨hd, s1⟩
        have en : min (ofL x).cps.size (tx ps).length = L.length := by rw [size_sg, sg_ofL, tx_len, lL, hl, Nat.min_self]
        rw [en, List.take_length] at hd
        refine ⟨D, L, rfl, SqL.of hd, q _ _ ⟨fun h => ⟨hl, fun i c p h1 h2 => ?_⟩, fun h => ?_⟩ s1⟩
        · rw [List.all_eq_true] at h
          exact of_decide_eq_true (h _ (List.mem_of_getElem? (gL i c p h1 h2)))
        · rw [List.all_eq_true]
          intro b hb
          obtain ⟨i, hi⟩ := List.mem_iff_getElem?.mp hb
          have hx1 : i < x.length := by have := (List.getElem?_eq_some_iff.mp hi).1; omega
          have h1 := List.getElem?_eq_getElem hx1
          have h2 := List.getElem?_eq_getElem (show i < ps.length by omega)
          rw [gL i _ _ h1 h2] at hi
          cases hi
          exact decide_eq_true (h.2 i _ _ h1 h2)
    · rw [decide_eq_false (fun e => hl (by simp only [V.int.injEq] at e; omega))]
      exact iteF (q false _ ⟨(fun h => by cases h), fun h => absurd h.1 hl⟩ (Same.refl _))
/-! fits -/
def Fits (wh bh ah : List (List Nat)) (w v : List Nat) : Prop :=
  StandIn ((v.take (wh ++ ah).length ++ EDG).take (wh ++ ah).length) (wh ++ ah) ∧ StandIn ((EDG ++ w.drop (w.length - bh.length)).drop ((EDG ++ w.drop (w.length - bh.length)).length - bh.length)) bh
def spFits (T : Env K mg base) : Sp := fun vs H Q _ => ∃ (r : Addr) (wh : List (List Nat)) (be : List Nat) (bh ah : List (List Nat)) (w v : List Nat), vs = [.ref r, .str (ofL w), .str (ofL v)] ∧ IsR T H r wh be bh ah ∧ wh.length ≤ 3 ∧ bh.length ≤ 2 ∧ ah.length ≤ 2 ∧ w.length ≤ 3000 ∧ v.length ≤ 3000 ∧
  ∀ b H', (b = true ↔ Fits wh bh ah w v) → Same H H' → Q (.bl b) H'
theorem ok_Rule_fits (T : Env K mg base) : FnOk P w K mg base CX0 2 T.f_Rule_fits T.d_Rule_fits ["self", "written", "waiting"] (spFits T) := by
  refine T.F_Rule_fits.ok sc_Rule_fits (fun vs H Q E h => ?_) (fun A outer s H vs Q E hr h => ?_)
  · obtain ⟨r, wh, be, bh, ah, w, v, rfl, _⟩ := h
    rfl
  · obtain ⟨r, wh, be, bh, ah, w, v, rfl, ⟨dx, fs, a, c, d, hr1, hf, ha, hc, hd⟩, l1, l2, l3, lw, lv, q⟩ := h
    have nd := sc_Rule_fits.nd
    have sv : (ofL v).length ≤ sizeLine := by rw [ofL_len]; exact small2 (by omega)
    have edg1 : (ofL EDG).length = 1 := rfl
    refine ⟨_, (pss_cons (ps_set (i := 3) nd rfl (by first | exact .inl rfl | exact .inr rfl) (pe_op op_cat (pe_fld (pv 0) rfl) (pe_fld (pv 0) rfl))) <|
      pss_cons (ps_set (i := 4) nd rfl (by first | exact .inl rfl | exact .inr rfl) (pe_slice sl_str (pe_op op_add_str (pe_slice sl_str (pv 2) po_none (po_some (pe_callB call_len_seq (by rfl) T.z_len PySem.boot_len (pa_cons (pv 3) pa_nil)))) (pe_glob (v := .str "|") rfl T.v_EDGE ⟨_, rfl⟩)) po_none (po_some (pe_callB call_len_seq (by rfl) T.z_len PySem.boot_len (pa_cons (pv 3) pa_nil))))) <|
      pss_cons (ps_set (i := 5) nd rfl (by first | exact .inl rfl | exact .inr rfl) (pe_call (ok_last_signs T) (hr.mono (by decide)) (by rfl) T.g_last_signs T.F_last_signs.kp T.b_last_signs .nil pass0 (pa_cons (pe_op op_add_str (pe_glob (v := .str "|") rfl T.v_EDGE ⟨_, rfl⟩) (pe_call (ok_last_signs T) (hr.mono (by decide)) (by rfl) T.g_last_signs T.F_last_signs.kp T.b_last_signs .nil pass0 (pa_cons (pv 1) (pa_cons (pe_callB call_len_seq (by rfl) T.z_len PySem.boot_len (pa_cons (pe_fld (pv 0) rfl) pa_nil)) pa_nil)))) (pa_cons (pe_callB call_len_seq (by rfl) T.z_len PySem.boot_len (pa_cons (pe_fld (pv 0) rfl) pa_nil)) pa_nil)))) <|
      (pss_one (ps_ret (pe_and (pe_call (ok_stand_in T) (hr.mono (by decide)) (by rfl) T.g_stand_in T.F_stand_in.kp T.b_stand_in .nil pass0 (pa_cons (pv 4) (pa_cons (pv 3) pa_nil))) (pe_one (pe_call (ok_stand_in T) (hr.mono (by decide)) (by rfl) T.g_stand_in T.F_stand_in.kp T.b_stand_in .nil pass0 (pa_cons (pv 5) (pa_cons (pe_fld (pv 0) rfl) pa_nil)))))))), ?_⟩
    -- front
    refine ⟨_, rfl, r, _, dx, _, _, rfl, hr1, T.cl_Rule, T.na_Rule_what, hf.w, ?_⟩
    refine ⟨_, rfl, r, _, dx, _, _, rfl, hr1, T.cl_Rule, T.na_Rule_ahead, hf.a, ?_⟩
    refine ⟨_, _, _, _, rfl, rfl, ha, hd, by rw [tx_len, tx_len]; exact small2 (by omega), fun p hp => ?_⟩
    rw [show tx wh ++ tx ah = tx (wh ++ ah) from List.map_append.symm]
    have s1 := same_upd hp (o := .lst (tx (wh ++ ah)))
    have hp1 : upd H p (.lst (tx (wh ++ ah))) p = some (.lst (tx (wh ++ ah))) := upd_same
    generalize upd H p (.lst (tx (wh ++ ah))) = H1 at s1 hp1 ⊢
    have ln : (wh ++ ah).length ≤ 5 := by rw [List.length_append]; omega
    generalize efr : wh ++ ah = fr at *
    -- coming
    refine ⟨_, rfl, _, rfl, p, _, rfl, .inl (SqL.of hp1), _, rfl, ofL v, rfl, sv, ?_⟩
    rw [tx_len, cut_to, sg_ofL]
    have lt1 : (v.take fr.length).length ≤ 5 := by rw [List.length_take]; omega
    refine ⟨_, _, rfl, rfl, by rw [ofL_len, show (Str.ofString "|").length = 1 from rfl]; exact small2 (by omega), ?_⟩
    rw [edg_eq, S_app]
    have lt2 : (v.take fr.length ++ EDG).length ≤ 6 := by rw [List.length_append]; show _ + 1 ≤ _; omega
    refine ⟨_, rfl, p, _, rfl, .inl (SqL.of hp1), _, rfl, _, rfl, by rw [ofL_len]; exact small2 (by omega), ?_⟩
    rw [tx_len, cut_to, sg_ofL]
    -- gone
    have hr2 := s1 _ _ hr1
    have hc2 := s1 _ _ hc
    refine ⟨_, rfl, _, rfl, r, _, dx, _, _, rfl, hr2, T.cl_Rule, T.na_Rule_behind, hf.h, c, _, rfl, .inl (SqL.of hc2), w, _, rfl, by omega, ?_⟩
    rw [tx_len]
    have lg1 : (w.drop (w.length - bh.length)).length ≤ 2 := by rw [List.length_drop]; omega
    refine ⟨_, _, rfl, rfl, by rw [ofL_len, ofL_len, show EDG.length = 1 from rfl]; exact small2 (by omega), ?_⟩
    rw [S_app]
    have lg2 : (EDG ++ w.drop (w.length - bh.length)).length ≤ 3 := by rw [List.length_append]; show 1 + _ ≤ _; omega
    refine ⟨_, rfl, r, _, dx, _, _, rfl, hr2, T.cl_Rule, T.na_Rule_behind, hf.h, c, _, rfl, .inl (SqL.of hc2), _, _, rfl, by omega, ?_⟩
    rw [tx_len]
    -- both
    refine ⟨_, rfl, _, rfl, _, p, fr, rfl, hp1, by rw [List.length_take]; omega, by omega, fun b H2 hb s2 => ⟨b, rfl, ?_⟩⟩
    cases b with
    | false => exact iteF (q false _ ⟨(fun h => by cases h), fun h => hb.mpr (by have := h.1; rw [efr] at this; exact this)⟩ (s1.trans s2))
    | true =>
      have hr3 := s2 _ _ hr2
      have hc3 := s2 _ _ hc2
      refine iteT ⟨_, rfl, _, rfl, r, _, dx, _, _, rfl, hr3, T.cl_Rule, T.na_Rule_behind, hf.h, ?_⟩
      exact ⟨_, c, bh, rfl, hc3, by rw [List.length_drop]; omega, by omega, fun b H3 hb3 s3 => q b _ ⟨fun h => ⟨(by have := hb.mp rfl; rw [← efr] at this; exact this), hb3.mp h⟩, fun h => hb3.mpr h.2⟩ ((s1.trans s2).trans s3)⟩

/-! what fits, one by one -/
def St : List (List Nat) → List Nat → Prop
  | [], _ => True
  | p :: ps, [] => p = EDG
  | p :: ps, c :: v => p ≠ EDG ∧ c ∈ p ∧ St ps v
def OkP (ps : List (List Nat)) : Prop := ∀ (i : Nat) (p : List Nat), ps[i]? = some p → 124 ∉ p ∨ (p = EDG ∧ i + 1 = ps.length)
theorem okP_tail {p : List Nat} {ps : List (List Nat)} (h : OkP (p :: ps)) : OkP ps := fun i q e => by
  rcases h (i + 1) q e with h | ⟨h, l⟩
  · exact .inl h
  · exact .inr ⟨h, by rw [List.length_cons] at l; omega⟩
theorem standIn_cons {c : Nat} {x p : List Nat} {ps : List (List Nat)} : StandIn (c :: x) (p :: ps) ↔ c ∈ p ∧ StandIn x ps := by
  constructor
  · rintro ⟨hl, h⟩
    rw [List.length_cons, List.length_cons] at hl
    exact ⟨h 0 c p rfl rfl, by omega, fun i d q h1 h2 => h (i + 1) d q h1 h2⟩
  · rintro ⟨hc, hl, h⟩
    refine ⟨by rw [List.length_cons, List.length_cons, hl], fun i d q h1 h2 => ?_⟩
    cases i with
    | zero => cases h1; cases h2; exact hc
    | succ i => exact h i d q h1 h2
theorem standIn_nil : StandIn [] [] := ⟨rfl, fun i c p h => by cases h⟩
theorem stand_St : ∀ (ps : List (List Nat)) (v : List Nat), OkP ps → 124 ∉ v → (StandIn ((v.take ps.length ++ EDG).take ps.length) ps ↔ St ps v)
  | [], v, _, _ => ⟨fun _ => trivial, fun _ => standIn_nil⟩
  | p :: ps, [], ok, _ => by
    have e : (([] : List Nat).take (p :: ps).length ++ EDG).take (p :: ps).length = EDG := by rw [List.take_nil, List.nil_append, List.take_of_length_le (by show 1 ≤ ps.length + 1; omega)]
    rw [e]
    show _ ↔ p = EDG
    rcases ok 0 p rfl with h | ⟨rfl, l⟩
    · refine ⟨fun s => absurd (s.2 0 124 p rfl rfl) h, fun e2 => ?_⟩
      rw [e2] at h
      exact absurd List.mem_cons_self h
    · have : ps = [] := by
        rw [List.length_cons] at l
        exact List.length_eq_zero_iff.mp (by omega)
      subst this
      exact ⟨fun _ => rfl, fun _ => standIn_cons.mpr ⟨List.mem_cons_self, standIn_nil⟩⟩
  | p :: ps, c :: v, ok, no => by
    have e : ((c :: v).take (p :: ps).length ++ EDG).take (p :: ps).length = c :: ((v.take ps.length ++ EDG).take ps.length) := rfl
    have hc : c ≠ 124 := fun h => no (by rw [h]; exact List.mem_cons_self)
    rw [e, standIn_cons, stand_St ps v (okP_tail ok) (fun h => no (List.mem_cons_of_mem _ h))]
    show _ ↔ p ≠ EDG ∧ c ∈ p ∧ St ps v
    rcases ok 0 p rfl with h | ⟨rfl, _⟩
    · exact ⟨fun ⟨a, b⟩ => ⟨fun e2 => by rw [e2] at h; exact h List.mem_cons_self, a, b⟩, fun ⟨_, a, b⟩ => ⟨a, b⟩⟩
    · exact ⟨fun ⟨a, _⟩ => absurd (List.mem_singleton.mp a) hc, fun ⟨a, _⟩ => absurd rfl a⟩
theorem standIn_rev {x : List Nat} {ps : List (List Nat)} : StandIn x ps ↔ StandIn x.reverse ps.reverse := by
  have one : ∀ {x : List Nat} {ps : List (List Nat)}, StandIn x ps → StandIn x.reverse ps.reverse := by
    rintro x ps ⟨hl, h⟩
    refine ⟨by rw [List.length_reverse, List.length_reverse, hl], fun i c p h1 h2 => ?_⟩
    have hi : i < x.length := by have := (List.getElem?_eq_some_iff.mp h1).1; rwa [List.length_reverse] at this
    rw [List.getElem?_reverse hi] at h1
    rw [List.getElem?_reverse (by omega)] at h2
    exact h _ c p h1 (by rw [hl]; exact h2)
  exact ⟨one, fun h => by have := one h; rwa [List.reverse_reverse, List.reverse_reverse] at this⟩
theorem standIn_alike {x : List Nat} {ys zs : List (List Nat)} (a : Alike ys zs) : StandIn x ys ↔ StandIn x zs := by
  constructor
  · rintro ⟨hl, h⟩
    refine ⟨hl.trans a.1, fun i c p h1 h2 => ?_⟩
    have hi : i < ys.length := by have := (List.getElem?_eq_some_iff.mp h2).1; rw [a.1]; exact this
    have hy := List.getElem?_eq_getElem hi
    exact (a.2 i _ _ hy h2).mem_iff.mp (h i c _ h1 hy)
  · rintro ⟨hl, h⟩
    refine ⟨hl.trans a.1.symm, fun i c p h1 h2 => ?_⟩
    have hi : i < zs.length := by have := (List.getElem?_eq_some_iff.mp h2).1; rw [← a.1]; exact this
    have hy := List.getElem?_eq_getElem hi
    exact (a.2 i _ _ h2 hy).mem_iff.mpr (h i c _ h1 hy)
theorem gone_eq (w : List Nat) (b : Nat) : ((EDG ++ w.drop (w.length - b)).drop ((EDG ++ w.drop (w.length - b)).length - b)).reverse = (w.reverse.take b ++ EDG).take b := by
  rw [List.reverse_drop, List.reverse_append, List.reverse_drop]
  have e1 : w.reverse.take (w.length - (w.length - b)) = w.reverse.take b := by
    rcases Nat.le_total b w.length with h | h
    · congr 1; omega
    · rw [List.take_of_length_le (by rw [List.length_reverse]; omega), List.take_of_length_le (by rw [List.length_reverse]; omega)]
  rw [e1, show EDG.reverse = EDG from rfl]
  have l : (w.reverse.take b ++ EDG).length = (EDG ++ w.drop (w.length - b)).length := by
    rw [List.length_append, List.length_append, List.length_take, List.length_reverse, List.length_drop]
    show _ + 1 = 1 + _
    omega
  rw [← l]
  rcases Nat.le_total b (w.reverse.take b ++ EDG).length with h | h
  · congr 1; omega
  · rw [List.take_of_length_le (by omega), List.take_of_length_le h]
theorem fits_iff {wh bh ah wh' bh' ah' : List (List Nat)} {w v : List Nat} (a1 : Alike wh' wh) (a2 : Alike bh' bh) (a3 : Alike ah' ah) (o1 : OkP (wh ++ ah)) (o2 : OkP bh.reverse) (nv : 124 ∉ v) (nw : 124 ∉ w) : Fits wh' bh' ah' w v ↔ St (wh ++ ah) v ∧ St bh.reverse w.reverse := by
  have a13 : Alike (wh' ++ ah') (wh ++ ah) := by
    refine ⟨by rw [List.length_append, List.length_append, a1.1, a3.1], fun i y z hy hz => ?_⟩
    rcases Nat.lt_or_ge i wh'.length with h | h
    · rw [List.getElem?_append_left h] at hy
      rw [List.getElem?_append_left (by rw [← a1.1]; exact h)] at hz
      exact a1.2 i y z hy hz
    · rw [List.getElem?_append_right h] at hy
      rw [List.getElem?_append_right (by rw [← a1.1]; exact h), ← a1.1] at hz
      exact a3.2 _ y z hy hz
  unfold Fits
  rw [a13.1, standIn_alike a13, stand_St _ _ o1 nv, a2.1, standIn_alike a2, standIn_rev, gone_eq]
  have := stand_St bh.reverse w.reverse o2 (fun h => nw (List.mem_reverse.mp h))
  rw [List.length_reverse] at this
  rw [this]
theorem pl_no {z : List Nat} (h : Pl z) : 124 ∉ z := fun m => edg_no (h.2.2.2 124 m)
theorem okA {wh ah : List (List Nat)} (h1 : ∀ z ∈ wh, Pl z) (h2 : GoodA ah) : OkP (wh ++ ah) := by
  obtain ⟨_, ps, hz, hp⟩ := h2
  intro i p e
  rcases hz with rfl | rfl
  · refine .inl (pl_no ?_)
    rcases List.mem_append.mp (List.mem_of_getElem? e) with h | h
    · exact h1 p h
    · exact hp p h
  · rw [← List.append_assoc] at e
    rcases Nat.lt_or_ge i (wh ++ ps).length with h | h
    · rw [List.getElem?_append_left h] at e
      refine .inl (pl_no ?_)
      rcases List.mem_append.mp (List.mem_of_getElem? e) with h | h
      · exact h1 p h
      · exact hp p h
    · rw [List.getElem?_append_right h] at e
      have hi : i - (wh ++ ps).length = 0 := by
        have := (List.getElem?_eq_some_iff.mp e).1
        simp at this
        rw [List.length_append] at *
        omega
      rw [hi] at e
      cases e
      refine .inr ⟨rfl, ?_⟩
      rw [← List.append_assoc, List.length_append]
      show _ = _ + 1
      omega
theorem okB {bh : List (List Nat)} (h2 : GoodB bh) : OkP bh.reverse := by
  obtain ⟨h2, ps, hz, hp⟩ := h2
  have := okA (wh := []) (ah := bh.reverse) (fun _ h => nomatch h) ⟨by rw [List.length_reverse]; exact h2, ps.reverse, ?_, fun z hz => hp z (List.mem_reverse.mp hz)⟩
  · exact this
  · rcases hz with rfl | rfl
    · exact .inl rfl
    · exact .inr (by rw [List.reverse_cons])
/-! what the law draws -/
def spStands : Sp := fun vs H Q _ => ∃ (a : Addr) (ps : List (List Nat)) (v : List Nat), vs = [.ref a, .str (ofL v)] ∧ H a = some (.lst (tx ps)) ∧ v.length ≤ 3000 ∧ ∀ b H', (b = true ↔ St ps v) → Same H H' → Q (.bl b) H'
theorem ok_stands (T : Env K mg base) : FnOk P w K mg base CX0 1 T.f_y_stands T.d_y_stands ["_law_places_here", "_law_signs"] spStands := by
  refine T.F_y_stands.ok sc_y_stands (fun vs H Q E h => ?_) (fun A outer s H vs Q E hr h => ?_)
  · obtain ⟨a, ps, v, rfl, _⟩ := h
    rfl
  · obtain ⟨a, ps, v, rfl, ha, hv, q⟩ := h
    have nd := sc_y_stands.nd
    have sv : (ofL v).length ≤ sizeLine := by rw [ofL_len]; exact small2 (by omega)
    refine ⟨_, (pss_cons (ps_for PassesOwn.never rfl (pi_enum (by rfl) T.z_enumerate (pa_cons (pv 0) pa_nil)) (pg_tup (by rfl) (pgs_cons (pg_name (i := 2) nd rfl (by first | exact .inl rfl | exact .inr rfl)) (pgs_cons (pg_name (i := 3) nd rfl (by first | exact .inl rfl | exact .inr rfl)) pgs_nil)))
        (pss_cons (ps_if (pt_cmpR op_eq (pv 3) pe_str (nomark _))
          (pss_one (ps_ret (pe_cmpR op_eq (pe_callB call_len_str (by rfl) T.z_len PySem.boot_len (pa_cons (pv 1) pa_nil)) (pv 2) (nomark _))))
          pss_nil) <|
        (pss_one (ps_if (PW.pt (pw_or (pt_cmpR op_ge (pv 2) (pe_callB call_len_str (by rfl) T.z_len PySem.boot_len (pa_cons (pv 1) pa_nil)) (nomark _)) (pw_or1 (pt_cmpR op_notIn_sign (pe_item_str (pv 1) (pv 2) (fun _ _ => rfl)) (pv 3) (by rfl)))))
          (pss_one (ps_ret pe_bl))
          pss_nil)))) <|
      (pss_one (ps_ret pe_bl))), ?_⟩
    refine ⟨_, rfl, a, _, rfl, SqL.of ha, ?_⟩
    refine for_it (walk_enum (xs := tx ps)) (fun i σ H' => ∃ u u', σ = [some (.ref a), some (.str (ofL v)), u, u'] ∧ Same H H' ∧ i ≤ v.length ∧ (St ps v ↔ St (ps.drop i) (v.drop i))) ⟨none, none, rfl, Same.refl _, Nat.zero_le _, Iff.rfl⟩ (fun i σ H' _ ⟨_, _, _, s, _⟩ => SqL.of (s _ _ ha)) ?_ ?_
    · rintro i x σ H1 H2 hi ⟨u, u', rfl, s1, lv, hst⟩ ⟨t, x1, y1, rfl, ht, rfl, e1, e2⟩
      cases e1
      obtain ⟨p, ep, rfl⟩ := tx_at e2
      have s2 := s1.trans (same_upd ht (o := .tup [.int (i : Nat), .str (ofL p)]))
      have edrop : ps.drop i = p :: ps.drop (i + 1) := by
        obtain ⟨hl, e⟩ := List.getElem?_eq_some_iff.mp ep
        rw [List.drop_eq_getElem_cons hl, e]
      refine ⟨t, _, rfl, SqT.of upd_same, rfl, _, _, rfl, _, _, rfl, rfl, ?_⟩
      refine ⟨_, rfl, rfl, _, rfl, ?_⟩
      rw [edrop] at hst
      by_cases hp : p = EDG
      · subst hp
        rw [edg_eq, decide_eq_true rfl]
        refine iteT ⟨_, rfl, _, rfl, sv, _, rfl, rfl, ?_⟩
        rw [ofL_len]
        refine q _ _ ?_ s2
        rw [hst, decide_eq_true_iff]
        cases ed : v.drop i with
        | nil =>
          have := List.drop_eq_nil_iff.mp ed
          exact ⟨fun _ => rfl, fun _ => congrArg V.int (by omega)⟩
        | cons c r =>
          refine ⟨fun h => ?_, fun h => absurd rfl h.1⟩
          simp only [V.int.injEq] at h
          rw [List.drop_eq_nil_of_le (by omega)] at ed
          cases ed
      · rw [edg_eq, decide_eq_false (fun h => hp (congrArg sg (V.str.inj h)))]
        refine iteF ⟨_, rfl, _, rfl, _, rfl, sv, _, _, rfl, rfl, _, rfl, ?_⟩
        rw [ofL_len]
        by_cases hi2 : v.length ≤ i
        · rw [decide_eq_true (by omega)]
          refine iteT (q false _ ?_ s2)
          rw [hst, List.drop_eq_nil_of_le hi2]
          exact ⟨(fun h => by cases h), fun h => absurd h hp⟩
        · rw [decide_eq_false (by omega)]
          have hlt : i < v.length := by omega
          have ev := List.getElem?_eq_getElem hlt
          have vdrop : v.drop i = v[i] :: v.drop (i + 1) := List.drop_eq_getElem_cons hlt
          refine iteF ⟨_, rfl, _, rfl, ofL v, (i : Nat), v[i], rfl, rfl, by omega, by omega, by rw [ofL_len]; omega, by rw [cps_get, sg_ofL]; exact ev, ?_⟩
          refine ⟨_, rfl, v[i], _, rfl, rfl, _, rfl, ?_⟩
          rw [vdrop] at hst
          by_cases hc : v[i] ∈ p
          · have e : (!decide (v[i] ∈ (ofL p).cps.toList)) = false := by
              show (!decide (v[i] ∈ p)) = false
              simp [hc]
            rw [e]
            exact iteF ⟨_, _, rfl, s2, hlt, hst.trans ⟨fun h => h.2.2, fun h => ⟨hp, hc, h⟩⟩⟩
          · have e : (!decide (v[i] ∈ (ofL p).cps.toList)) = true := by
              show (!decide (v[i] ∈ p)) = true
              simp [hc]
            rw [e]
            exact iteT (q false _ (hst.trans ⟨fun h => absurd h.2.1 hc, (fun h => by cases h)⟩ |>.symm) s2)
    · rintro σ H1 ⟨u, u', rfl, s1, lv, hst⟩
      rw [tx_len, List.drop_length] at hst
      exact q true _ (hst.trans ⟨fun _ => rfl, fun _ => trivial⟩ |>.symm) s1
def In (S z : List Nat) : Prop := ∀ c ∈ z, c ∈ S
/-- some signs -/
structure Sgs (S : List Nat) : Prop where
  a : 1 ≤ S.length
  b : S.length ≤ 52
  c : S.Nodup
  d : ∀ c ∈ S, c ∈ SG
def spPlace : Sp := fun vs H Q _ => ∃ (a : Addr) (S : List Nat), vs = [.ref a, .str (ofL S)] ∧ Src H a ∧ Sgs S ∧ ∀ z H', Pl z → In S z → Src H' a → But a H H' → Q (.str (ofL z)) H'
theorem ok_place (T : Env K mg base) : FnOk P w K mg base CX0 3 T.f_y_place T.d_y_place ["_law_source_here", "_law_signs"] spPlace := by
  refine T.F_y_place.ok sc_y_place (fun vs H Q E h => ?_) (fun A outer s H vs Q E hr h => ?_)
  · obtain ⟨a, S, rfl, _⟩ := h
    rfl
  · obtain ⟨a, S, rfl, hS, sS, q⟩ := h
    have nd := sc_y_place.nd
    have szS : (ofL S).length ≤ sizeLine := by rw [ofL_len]; have := sS.b; exact small2 (by omega)
    refine ⟨_, (pss_cons (ps_set (i := 2) nd rfl (by first | exact .inl rfl | exact .inr rfl) (pe_join pe_str (pe_lc (own := [("_law_sign", 3)]) (g := gName 3) (by rfl) nd (pi_str (pv 1)) (blkOk_by (own := [("_law_sign", 3)]) (N := n_y_place) (sc := defScope s_y_place) (by decide +kernel)) (fun _ _ _ _ _ => pg_name (i := 3) nd rfl (Or.inl rfl)) (fun _ _ _ _ _ => by exact pts_one (pt_cmpR op_eq (pe_call (ok_take T) (hr.mono (by decide)) (by rfl) T.g_y_take T.F_y_take.kp T.b_y_take .nil pass0 (pa_cons (pv 0) (pa_cons pe_int pa_nil))) pe_int (nomark _))) (fun _ _ _ _ _ => by exact (pv 3))))) <|
      (pss_one (ps_ret (pe_op op_add_str (pv 2) (pe_op op_mulS (pe_item_str (pv 1) (pe_call (ok_take T) (hr.mono (by decide)) (by rfl) T.g_y_take T.F_y_take.kp T.b_y_take .nil pass0 (pa_cons (pv 0) (pa_cons (pe_callB call_len_str (by rfl) T.z_len PySem.boot_len (pa_cons (pv 1) pa_nil)) pa_nil))) (fun _ _ => rfl)) (pe_callTy call_int1 (by rfl) T.z_int (by rfl) (pa_cons (pe_cmpR op_eq (pv 2) pe_str (nomark _)) pa_nil))))))), ?_⟩
    refine ⟨⟨_, rfl⟩, _, rfl, ofL S, rfl, fun D hD => ?_⟩
    have naD : a ≠ D := hS.ne hD
    refine lc_it walk_str (fun i H' => ∃ l : List Nat, l.Sublist (S.take i) ∧ H' D = some (.lst (l.map fun c => V.str (ofL [c]))) ∧ Src H' a ∧ ∀ b o, b ≠ a → b ≠ D → H b = some o → H' b = some o)
      ⟨[], List.nil_sublist _, upd_same, hS.same (same_upd hD), fun b o _ n e => by rw [upd_ne n]; exact e⟩ (fun _ _ _ _ => trivial) (fun i x H1 H2 hi hP hY => ?_) (fun H1 hP => ?_)
    · obtain ⟨l, sl, hd, src, k⟩ := hP
      obtain ⟨rfl, c, hc, rfl⟩ := hY
      rw [cps_get, sg_ofL] at hc
      have snoc : (l ++ [c]).Sublist (S.take (i + 1)) := by
        rw [List.take_add_one, hc]
        exact sl.append (List.Sublist.refl _)
      have skip : l.Sublist (S.take (i + 1)) := by
        rw [List.take_add_one]
        exact sl.trans (List.sublist_append_left _ _)
      have ll : l.length ≤ 52 := by have := sl.length_le; rw [List.length_take] at this; have := sS.b; omega
      refine ⟨rfl, _, rfl, a, 2, rfl, src, by decide, by decide, fun r H3 r0 r1 src3 b3 => ⟨rfl, _, rfl, ?_⟩⟩
      have hd3 := b3 D _ naD.symm hd
      refine ite2 (fun _ => ?_) (fun _ => ⟨l, skip, hd3, src3, fun b o n1 n2 e => b3 b o n1 (k b o n1 n2 e)⟩)
      refine ⟨_, rfl, _, hd3, by rw [List.length_map]; exact small1 (by omega), l ++ [c], snoc, by rw [upd_same, List.map_append]; rfl, ?_, fun b o n1 n2 e => by rw [upd_ne n2]; exact b3 b o n1 (k b o n1 n2 e)⟩
      obtain ⟨x, y, z, e⟩ := src3
      exact ⟨x, y, z, by rw [upd_ne naD]; exact e⟩
    · obtain ⟨l, sl, hd, src, k⟩ := hP
      rw [size_sg, sg_ofL, List.take_length] at sl
      have ll : l.length ≤ 52 := by have := sl.length_le; have := sS.b; omega
      refine ⟨ofL [], D, l.map fun c => ofL [c], rfl, rfl, .inl (SqL.of (by rw [hd, List.map_map]; rfl)), ?_, ?_⟩
      · rw [sum_one]
        show l.length + _ * 0 ≤ _
        omega
      rw [txt_join]
      have b1 : But a H H1 := fun b o n e => k b o n (ne_of_none e hD) e
      refine ⟨_, rfl, _, rfl, _, rfl, _, rfl, _, rfl, szS, a, _, rfl, src, by rw [ofL_len]; have := sS.a; omega, by rw [ofL_len]; have := sS.b; omega, fun r H2 r0 r1 src2 b2 => ?_⟩
      rw [ofL_len] at r1
      have hr' : r.toNat < S.length := by omega
      refine ⟨ofL S, r, S[r.toNat], rfl, rfl, r0, by have := sS.b; omega, by rw [ofL_len]; exact r1, by rw [cps_get, sg_ofL, List.getElem?_eq_getElem hr'], ?_⟩
      refine ⟨_, rfl, rfl, .inr ⟨_, rfl, ?_⟩⟩
      have b12 := b1.trans b2
      by_cases hl : l = []
      · subst hl
        rw [decide_eq_true (show V.str (ofL []) = V.str (Str.ofString "") from rfl)]
        refine ⟨_, 1, rfl, rfl, ⟨by decide, fun _ h => by simp at h, fun _ h => by simp at h⟩, ?_⟩
        have e : Txt.mul (⟨#[S[r.toNat]]⟩ : Str) 1 = ofL [S[r.toNat]] := rfl
        rw [e]
        refine ⟨_, _, rfl, rfl, by rw [ofL_len, ofL_len]; exact small2 (by show 0 + 1 ≤ _; omega), ?_⟩
        rw [S_app, List.nil_append]
        refine q _ _ ⟨Nat.le_refl _, by show 1 ≤ 52; omega, by simp, fun c hc => ?_⟩ (fun c hc => ?_) src2 b12
        · rw [List.mem_singleton.mp hc]; exact sS.d _ (List.getElem_mem _)
        · rw [List.mem_singleton.mp hc]; exact List.getElem_mem _
      · rw [decide_eq_false (show ¬ V.str (ofL l) = V.str (Str.ofString "") from fun h => hl (congrArg sg (V.str.inj h)))]
        refine ⟨_, 0, rfl, rfl, ⟨by decide, fun h _ => absurd (show (0 : Int) < 1 by decide) h, fun h _ => absurd (show (0 : Int) < 1 by decide) h⟩, ?_⟩
        have e : Txt.mul (⟨#[S[r.toNat]]⟩ : Str) 0 = ofL [] := rfl
        rw [e]
        refine ⟨_, _, rfl, rfl, by rw [ofL_len, ofL_len]; exact small2 (by show l.length + 0 ≤ _; omega), ?_⟩
        rw [S_app, List.append_nil]
        exact q _ _ ⟨List.length_pos_iff.mpr hl, ll, sl.nodup sS.c, fun c hc => sS.d c (sl.subset hc)⟩ (fun c hc => sl.subset hc) src2 b12
def spPlaces : Sp := fun vs H Q _ => ∃ (a : Addr) (S : List Nat) (lo hi : Int), vs = [.ref a, .str (ofL S), .int lo, .int hi] ∧ Src H a ∧ Sgs S ∧ 0 ≤ lo ∧ lo ≤ hi ∧ hi ≤ 100 ∧
  ∀ p zs H', H p = none → p ≠ a → H' p = some (.lst (tx zs)) → lo ≤ zs.length → (zs.length : Int) ≤ hi → (∀ z ∈ zs, Pl z ∧ In S z) → Src H' a → But a H H' → Q (.ref p) H'
theorem ok_places (T : Env K mg base) : FnOk P w K mg base CX0 4 T.f_y_places T.d_y_places ["_law_source_here", "_law_signs", "_law_least", "_law_most"] spPlaces := by
  refine T.F_y_places.ok sc_y_places (fun vs H Q E h => ?_) (fun A outer s H vs Q E hr h => ?_)
  · obtain ⟨a, S, lo, hi, rfl, _⟩ := h
    rfl
  · obtain ⟨a, S, lo, hi, rfl, hS, sS, h0, h1, h2, q⟩ := h
    have nd := sc_y_places.nd
    refine ⟨_, (pss_one (ps_ret (pe_lc (own := [("_law_k", 4)]) (g := gName 4) (tt := tYes) (by rfl) nd (pi_range1 rfl T.z_range (pa_cons (pe_op op_add (pv 2) (pe_call (ok_take T) (hr.mono (by decide)) (by rfl) T.g_y_take T.F_y_take.kp T.b_y_take .nil pass0 (pa_cons (pv 0) (pa_cons (pe_op op_add (pe_op op_sub (pv 3) (pv 2)) pe_int) pa_nil)))) pa_nil)) (blkOk_by (own := [("_law_k", 4)]) (N := n_y_places) (sc := defScope s_y_places) (by decide +kernel)) (fun _ _ _ _ _ => pg_name (i := 4) nd rfl (Or.inl rfl)) (fun _ _ _ _ _ => pts_nil) (fun _ _ _ _ _ => by exact (pe_call (ok_place T) (hr.mono (by decide)) (by rfl) T.g_y_place T.F_y_place.kp T.b_y_place .nil pass0 (pa_cons (pv 0) (pa_cons (pv 1) pa_nil))))))), ?_⟩
    refine ⟨_, rfl, _, rfl, _, rfl, _, rfl, _, _, rfl, rfl, _, _, rfl, rfl, a, _, rfl, hS, by omega, by omega, fun r H1 r0 r1 src1 b1 => ⟨_, _, rfl, rfl, ?_⟩⟩
    refine ⟨lo + r, rfl, by omega, by omega, fun D hD => ?_⟩
    have naD : a ≠ D := src1.ne hD
    refine lc_range (lo := 0) (n := (lo + r).toNat) (fun i H' => ∃ zs : List (List Nat), zs.length = i ∧ (∀ z ∈ zs, Pl z ∧ In S z) ∧ H' D = some (.lst (tx zs)) ∧ Src H' a ∧ ∀ b o, b ≠ a → b ≠ D → H1 b = some o → H' b = some o)
      ⟨[], rfl, fun _ h => (nomatch h), upd_same, src1.same (same_upd hD), fun b o _ n e => by rw [upd_ne n]; exact e⟩ (fun i H2 hi' hP => ?_) (fun H2 hP => ?_)
    · obtain ⟨zs, el, hz, hd, src2, k2⟩ := hP
      refine ⟨rfl, _, rfl, _, rfl, a, S, rfl, src2, sS, fun z H3 pz iz src3 b3 => ?_⟩
      have hd3 := b3 D _ naD.symm hd
      refine ⟨_, hd3, by rw [tx_len]; exact small1 (by omega), zs ++ [z], by rw [List.length_append, el]; rfl, fun y hy => ?_, by rw [upd_same]; exact congrArg (fun x => some (HO.lst x)) (List.map_append (f := fun z => V.str (ofL z)) (l₁ := zs) (l₂ := [z])).symm, ?_, fun b o n1 n2 e => by rw [upd_ne n2]; exact b3 b o n1 (k2 b o n1 n2 e)⟩
      · rcases List.mem_append.mp hy with hy | hy
        · exact hz y hy
        · rw [List.mem_singleton.mp hy]; exact ⟨pz, iz⟩
      · obtain ⟨x, y, u, e⟩ := src3
        exact ⟨x, y, u, by rw [upd_ne naD]; exact e⟩
    · obtain ⟨zs, el, hz, hd, src2, k2⟩ := hP
      have hD0 : H D = none := b1.free naD.symm hD
      refine q D zs H2 hD0 naD.symm hd (by omega) (by omega) hz src2 (fun b o n e => ?_)
      exact k2 b o n (ne_of_none e hD0) (b1 b o n e)
def spStanding : Sp := fun vs H Q _ => ∃ (a l : Addr) (S : List Nat) (zs : List (List Nat)), vs = [.ref a, .ref l] ∧ Src H a ∧ H l = some (.lst (tx zs)) ∧ zs.length ≤ 100 ∧ (∀ z ∈ zs, z = EDG ∨ Pl z ∧ In S z) ∧
  ∀ t H', t.length ≤ zs.length → In S t → Src H' a → But a H H' → Q (.str (ofL t)) H'
theorem ok_standing (T : Env K mg base) : FnOk P w K mg base CX0 4 T.f_y_standing T.d_y_standing ["_law_source_here", "_law_places_here"] spStanding := by
  refine T.F_y_standing.ok sc_y_standing (fun vs H Q E h => ?_) (fun A outer s H vs Q E hr h => ?_)
  · obtain ⟨a, l, S, zs, rfl, _⟩ := h
    rfl
  · obtain ⟨a, l, S, zs, rfl, hS, hl, hn, hz, q⟩ := h
    have nd := sc_y_standing.nd
    refine ⟨_, (pss_cons (ps_setLc (i := 2) (own := [("_law_place_here", 3)]) (g := gName 3) (by rfl) nd rfl rfl (sw_true rfl rfl rfl (by decide +kernel)) (pi_list (pv 1)) (blkOk_by (own := [("_law_place_here", 3)]) (N := n_y_standing) (sc := defScope s_y_standing) (by decide +kernel)) (fun _ _ _ _ _ => pg_name (i := 3) nd rfl (Or.inl rfl)) (fun _ _ _ _ _ => by exact pts_one (pt_cmpR op_ne (pv 3) pe_str (nomark _))) (fun _ _ _ _ _ => by exact (pv 3))) <|
      (pss_one (ps_ret (pe_join pe_str (pe_lc (own := [("_law_place_here", 3)]) (g := gName 3) (tt := tYes) (by rfl) nd (pi_list (pv 2)) (blkOk_by (own := [("_law_place_here", 3)]) (N := n_y_standing) (sc := defScope s_y_standing) (by decide +kernel)) (fun _ _ _ _ _ => pg_name (i := 3) nd rfl (Or.inl rfl)) (fun _ _ _ _ _ => pts_nil) (fun _ _ _ _ _ => by exact (pe_item_str (pv 3) (pe_call (ok_take T) (hr.mono (by decide)) (by rfl) T.g_y_take T.F_y_take.kp T.b_y_take .nil pass0 (pa_cons (pv 0) (pa_cons (pe_callB call_len_str (by rfl) T.z_len PySem.boot_len (pa_cons (pv 3) pa_nil)) pa_nil))) (fun _ _ => rfl)))))))), ?_⟩
    refine ⟨_, rfl, l, rfl, ⟨_, SqL.of hl⟩, fun D hD => ?_⟩
    have naD : a ≠ D := hS.ne hD
    refine lc_list (xs := tx zs) (fun i H' => ∃ ys : List (List Nat), ys.length ≤ i ∧ (∀ z ∈ ys, Pl z ∧ In S z) ∧ H' D = some (.lst (tx ys)) ∧ Same H H') ⟨[], Nat.le_refl _, fun _ h => (nomatch h), upd_same, same_upd hD⟩ (fun i H' _ ⟨_, _, _, _, s⟩ => SqL.of (s _ _ hl)) ?_ ?_
    · rintro i v H1 hv ⟨ys, ly, hy, hd, s1⟩
      obtain ⟨z, ez, rfl⟩ := tx_at hv
      have hi : i < zs.length := (List.getElem?_eq_some_iff.mp ez).1
      refine ⟨rfl, _, rfl, rfl, _, rfl, ?_⟩
      rcases hz z (List.mem_of_getElem? ez) with rfl | hp
      · rw [edg_eq, decide_eq_true rfl]
        exact iteF ⟨ys, by omega, hy, hd, s1⟩
      · rw [edg_eq, decide_eq_false (fun h => pl_ne hp.1 (congrArg sg (V.str.inj h)))]
        refine iteT ⟨_, rfl, _, hd, by rw [tx_len]; exact small1 (by omega), ys ++ [z], by rw [List.length_append]; show _ + 1 ≤ _; omega, fun y hy' => ?_, by rw [upd_same]; exact congrArg (fun x => some (HO.lst x)) (List.map_append (f := fun z => V.str (ofL z)) (l₁ := ys) (l₂ := [z])).symm, fun b o e => by rw [upd_ne (ne_of_none e hD)]; exact s1 _ _ e⟩
        rcases List.mem_append.mp hy' with h | h
        · exact hy y h
        · rw [List.mem_singleton.mp h]; exact hp
    · rintro H1 ⟨ys, ly, hy, hd, s1⟩
      rw [tx_len] at ly
      have src1 := hS.same s1
      refine ⟨⟨_, rfl⟩, _, rfl, D, rfl, ⟨_, SqL.of hd⟩, fun D2 hD2 => ?_⟩
      have naD2 : a ≠ D2 := src1.ne hD2
      have nDD2 : D ≠ D2 := ne_of_none hd hD2
      refine lc_list (xs := tx ys) (fun i H' => ∃ t : List Nat, t.length = i ∧ In S t ∧ H' D2 = some (.lst (t.map fun c => V.str (ofL [c]))) ∧ Src H' a ∧ ∀ b o, b ≠ a → b ≠ D2 → H1 b = some o → H' b = some o) ⟨[], rfl, fun _ h => (nomatch h), upd_same, src1.same (same_upd hD2), fun b o _ n e => by rw [upd_ne n]; exact e⟩ (fun i H' _ ⟨_, _, _, _, _, k⟩ => SqL.of (k _ _ naD.symm nDD2 hd)) ?_ ?_
      · rintro i v H2 hv ⟨t, lt, ht, hd2, src2, k2⟩
        obtain ⟨z, ez, rfl⟩ := tx_at hv
        have hi : i < ys.length := (List.getElem?_eq_some_iff.mp ez).1
        obtain ⟨pz, iz⟩ := hy z (List.mem_of_getElem? ez)
        refine ⟨rfl, _, rfl, _, rfl, _, rfl, _, rfl, by rw [ofL_len]; have := pz.2.1; exact small2 (by omega), a, _, rfl, src2, by rw [ofL_len]; have := pz.1; omega, by rw [ofL_len]; have := pz.2.1; omega, fun r H3 r0 r1 src3 b3 => ?_⟩
        rw [ofL_len] at r1
        have hr' : r.toNat < z.length := by omega
        have hd3 := b3 D2 _ naD2.symm hd2
        refine ⟨ofL z, r, z[r.toNat], rfl, rfl, r0, by have := pz.2.1; omega, by rw [ofL_len]; exact r1, by rw [cps_get, sg_ofL, List.getElem?_eq_getElem hr'], ?_⟩
        refine ⟨_, hd3, by rw [List.length_map]; exact small1 (by omega), t ++ [z[r.toNat]], by rw [List.length_append, lt]; rfl, fun c hc => ?_, by rw [upd_same, List.map_append]; rfl, ?_, fun b o n1 n2 e => by rw [upd_ne n2]; exact b3 b o n1 (k2 b o n1 n2 e)⟩
        · rcases List.mem_append.mp hc with hc | hc
          · exact ht c hc
          · rw [List.mem_singleton.mp hc]; exact iz _ (List.getElem_mem _)
        · obtain ⟨x, y, u, e⟩ := src3
          exact ⟨x, y, u, by rw [upd_ne naD2]; exact e⟩
      · rintro H2 ⟨t, lt, ht, hd2, src2, k2⟩
        rw [tx_len] at lt
        refine ⟨ofL [], D2, t.map fun c => ofL [c], rfl, rfl, .inl (SqL.of (by rw [hd2, List.map_map]; rfl)), ?_, ?_⟩
        · rw [sum_one]
          show t.length + _ * 0 ≤ _
          omega
        rw [txt_join]
        refine q t H2 (by omega) ht src2 (fun b o n e => ?_)
        have e1 := s1 _ _ e
        exact k2 b o n (ne_of_none e1 hD2) e1
def spSpoil : Sp := fun vs H Q _ => ∃ (a : Addr) (t S : List Nat), vs = [.ref a, .str (ofL t), .str (ofL S)] ∧ Src H a ∧ Sgs S ∧ In S t ∧ t.length ≤ 1000 ∧ ∀ t' H', t'.length ≤ t.length + 1 → In S t' → Src H' a → But a H H' → Q (.str (ofL t')) H'
theorem ok_spoiled (T : Env K mg base) : FnOk P w K mg base CX0 4 T.f_y_spoiled T.d_y_spoiled ["_law_source_here", "_law_text_here", "_law_signs"] spSpoil := by
  refine T.F_y_spoiled.ok sc_y_spoiled (fun vs H Q E h => ?_) (fun A outer s H vs Q E hr h => ?_)
  · obtain ⟨a, t, S, rfl, _⟩ := h
    rfl
  · obtain ⟨a, t, S, rfl, hS, sS, it, lt, q⟩ := h
    have nd := sc_y_spoiled.nd
    have szS : (ofL S).length ≤ sizeLine := by rw [ofL_len]; have := sS.b; exact small2 (by omega)
    have szt : (ofL t).length ≤ sizeLine := by rw [ofL_len]; exact small2 (by omega)
    refine ⟨_, (pss_cons (ps_set (i := 3) nd rfl (by first | exact .inl rfl | exact .inr rfl) (pe_call (ok_take T) (hr.mono (by decide)) (by rfl) T.g_y_take T.F_y_take.kp T.b_y_take .nil pass0 (pa_cons (pv 0) (pa_cons pe_int pa_nil)))) <|
      pss_cons (ps_set (i := 4) nd rfl (by first | exact .inl rfl | exact .inr rfl) (pe_call (ok_take T) (hr.mono (by decide)) (by rfl) T.g_y_take T.F_y_take.kp T.b_y_take .nil pass0 (pa_cons (pv 0) (pa_cons (pe_op op_add (pe_callB call_len_str (by rfl) T.z_len PySem.boot_len (pa_cons (pv 1) pa_nil)) pe_int) pa_nil)))) <|
      pss_cons (ps_set (i := 5) nd rfl (by first | exact .inl rfl | exact .inr rfl) (pe_item_str (pv 2) (pe_call (ok_take T) (hr.mono (by decide)) (by rfl) T.g_y_take T.F_y_take.kp T.b_y_take .nil pass0 (pa_cons (pv 0) (pa_cons (pe_callB call_len_str (by rfl) T.z_len PySem.boot_len (pa_cons (pv 2) pa_nil)) pa_nil))) (fun _ _ => rfl))) <|
      pss_cons (ps_if (pt_cmpR op_eq (pv 3) pe_int (nomark _))
        (pss_one (ps_ret (pe_op op_add_str (pe_op op_add_str (pe_slice sl_str (pv 1) po_none (po_some (pv 4))) (pv 5)) (pe_slice sl_str (pv 1) (po_some (pe_op op_add (pv 4) pe_int)) po_none))))
        pss_nil) <|
      pss_cons (ps_if (pt_cmpR op_eq (pv 3) pe_int (nomark _))
        (pss_one (ps_ret (pe_op op_add_str (pe_op op_add_str (pe_slice sl_str (pv 1) po_none (po_some (pv 4))) (pv 5)) (pe_slice sl_str (pv 1) (po_some (pv 4)) po_none))))
        pss_nil) <|
      pss_cons (ps_if (pt_cmpR op_eq (pv 3) pe_int (nomark _))
        (pss_one (ps_ret (pe_op op_add_str (pe_slice sl_str (pv 1) po_none (po_some (pv 4))) (pe_slice sl_str (pv 1) (po_some (pe_op op_add (pv 4) pe_int)) po_none))))
        pss_nil) <|
      (pss_one (ps_ret (pv 1)))), ?_⟩
    refine ⟨_, rfl, a, 5, rfl, hS, by decide, by decide, fun way H1 w0 w1 src1 b1 => ?_⟩
    refine ⟨_, rfl, _, rfl, _, rfl, szt, _, _, rfl, rfl, a, _, rfl, src1, by rw [ofL_len]; omega, by rw [ofL_len]; omega, fun at_ H2 a0 a1 src2 b2 => ?_⟩
    rw [ofL_len] at a1
    obtain ⟨i, rfl⟩ := Int.eq_ofNat_of_zero_le a0
    refine ⟨_, rfl, _, rfl, _, rfl, _, rfl, szS, a, _, rfl, src2, by rw [ofL_len]; have := sS.a; omega, by rw [ofL_len]; have := sS.b; omega, fun r H3 r0 r1 src3 b3 => ?_⟩
    rw [ofL_len] at r1
    have hr' : r.toNat < S.length := by omega
    refine ⟨ofL S, r, S[r.toNat], rfl, rfl, r0, by have := sS.b; omega, by rw [ofL_len]; exact r1, by rw [cps_get, sg_ofL, List.getElem?_eq_getElem hr'], ?_⟩
    have hc : S[r.toNat] ∈ S := List.getElem_mem _
    generalize S[r.toNat] = c at hc ⊢
    have b13 : But a H H3 := b1.trans (b2.trans b3)
    have inP : ∀ (u v : List Nat), In S u → In S v → In S (u ++ v) := fun u v hu hv d hd => (List.mem_append.mp hd).elim (hu d) (hv d)
    have inT : ∀ n, In S (t.take n) := fun n d hd => it d (List.mem_of_mem_take hd)
    have inD : ∀ n, In S (t.drop n) := fun n d hd => it d (List.mem_of_mem_drop hd)
    have inC : In S [c] := fun d hd => by rw [List.mem_singleton.mp hd]; exact hc
    have e1 : ((i : Nat) : Int) + 1 = ((i + 1 : Nat) : Int) := rfl
    have sl1 : ∀ n, (ofL (t.take n)).length ≤ 1000 := fun n => by rw [ofL_len, List.length_take]; omega
    have sl2 : ∀ n, (ofL (t.drop n)).length ≤ 1000 := fun n => by rw [ofL_len, List.length_drop]; omega
    have sc : (⟨#[c]⟩ : Str) = ofL [c] := rfl
    refine ⟨_, rfl, rfl, _, rfl, ite2 (fun _ => ?_) (fun _ => ?_)⟩
    · refine ⟨_, rfl, _, rfl, _, rfl, ofL t, rfl, szt, ?_⟩
      rw [cut_to, sg_ofL]
      refine ⟨_, rfl, _, _, rfl, rfl, by have := sl1 i; rw [sc, ofL_len [c]]; exact small2 (by show _ + 1 ≤ _; omega), ?_⟩
      refine ⟨_, rfl, _, rfl, _, _, rfl, rfl, _, rfl, ofL t, rfl, szt, ?_⟩
      rw [e1, cut_from, sg_ofL, sc, S_app]
      refine ⟨_, _, rfl, rfl, by have := sl2 (i + 1); rw [ofL_len (_ ++ _), List.length_append, List.length_take]; exact small2 (by show _ + 1 + _ ≤ _; omega), ?_⟩
      rw [S_app]
      refine q _ _ ?_ (inP _ _ (inP _ _ (inT _) inC) (inD _)) src3 b13
      rw [List.length_append, List.length_append, List.length_take, List.length_drop]
      show _ + 1 + _ ≤ _
      omega
    refine ⟨_, rfl, rfl, _, rfl, ite2 (fun _ => ?_) (fun _ => ?_)⟩
    · refine ⟨_, rfl, _, rfl, _, rfl, ofL t, rfl, szt, ?_⟩
      rw [cut_to, sg_ofL]
      refine ⟨_, rfl, _, _, rfl, rfl, by have := sl1 i; rw [sc, ofL_len [c]]; exact small2 (by show _ + 1 ≤ _; omega), ?_⟩
      refine ⟨_, rfl, _, rfl, _, rfl, ofL t, rfl, szt, ?_⟩
      rw [cut_from, sg_ofL, sc, S_app]
      refine ⟨_, _, rfl, rfl, by have := sl2 i; rw [ofL_len (_ ++ _), List.length_append, List.length_take]; exact small2 (by show _ + 1 + _ ≤ _; omega), ?_⟩
      rw [S_app]
      refine q _ _ ?_ (inP _ _ (inP _ _ (inT _) inC) (inD _)) src3 b13
      rw [List.length_append, List.length_append, List.length_take, List.length_drop]
      show _ + 1 + _ ≤ _
      omega
    refine ⟨_, rfl, rfl, _, rfl, ite2 (fun _ => ?_) (fun _ => ?_)⟩
    · refine ⟨_, rfl, _, rfl, _, rfl, ofL t, rfl, szt, ?_⟩
      rw [cut_to, sg_ofL]
      refine ⟨_, rfl, _, rfl, _, _, rfl, rfl, _, rfl, ofL t, rfl, szt, ?_⟩
      rw [e1, cut_from, sg_ofL]
      refine ⟨_, _, rfl, rfl, by have := sl1 i; have := sl2 (i + 1); exact small2 (by omega), ?_⟩
      rw [S_app]
      refine q _ _ ?_ (inP _ _ (inT _) (inD _)) src3 b13
      rw [List.length_append, List.length_take, List.length_drop]
      omega
    · exact ⟨_, rfl, q _ _ (by omega) it src3 b13⟩

/-! the law -/
theorem fm_congr {α β : Type} {f : α → Option β} {g : α → β} : ∀ {l : List α}, (∀ x ∈ l, f x = some (g x)) → l.filterMap f = l.map g
  | [], _ => rfl
  | x :: l, h => by
    rw [List.filterMap_cons, h x List.mem_cons_self]
    exact congrArg (g x :: ·) (fm_congr fun y hy => h y (List.mem_cons_of_mem _ hy))
theorem src_ne {H : Hp} {s p : Addr} {zs : List (List Nat)} (h : Src H s) (hp : H p = some (.lst (tx zs))) : p ≠ s := by
  rintro rfl
  obtain ⟨x, y, z, e⟩ := h
  rw [hp] at e
  cases zs with
  | nil => cases e
  | cons z zs => cases e
theorem picked_rev (z : List Nat) : Ms.pickedS (ofL z) = ofL z.reverse := by
  refine ext_sg ?_
  show (List.filterMap (fun i => (ofL z).cps[i]?) (sliceRange (((ofL z).length : Int) - 1) (-1) (-1))) = z.reverse
  rw [ofL_len]
  have e : sliceRange ((z.length : Int) - 1) (-1) (-1) = (List.range z.length).map fun k => z.length - 1 - k := by
    have c : (if ((z.length : Int) - 1) > -1 then (((z.length : Int) - 1) - (-1) - (-1) - 1) / (-(-1)) else 0).toNat = z.length := by
      split
      · have : (((z.length : Int) - 1) - (-1) - (-1) - 1) / (-(-1)) = z.length := by
          rw [show (-(-1) : Int) = 1 from rfl, Int.ediv_one]
          omega
        rw [this]
        omega
      · omega
    show (List.range (if (-1 : Int) > 0 then _ else _ : Int).toNat).map _ = _
    rw [if_neg (by decide), c]
    refine List.map_congr_left fun k hk => ?_
    have := List.mem_range.mp hk
    show ((z.length : Int) - 1 + -1 * (k : Int)).toNat = _
    omega
  rw [e, List.filterMap_map]
  have f : ∀ k ∈ List.range z.length, ((fun i => (ofL z).cps[i]?) ∘ fun k => z.length - 1 - k) k = some (z.reverse.getD k 0) := by
    intro k hk
    have hk := List.mem_range.mp hk
    show (ofL z).cps[z.length - 1 - k]? = _
    rw [cps_get, sg_ofL, List.getD_eq_getElem?_getD, List.getElem?_reverse hk]
    rw [List.getElem?_eq_getElem (by omega)]
    rfl
  rw [fm_congr f]
  apply List.ext_getElem
  · rw [List.length_map, List.length_range, List.length_reverse]
  · intro i h1 h2
    rw [List.getElem_map, List.getElem_range]
    show z.reverse.getD i 0 = _
    rw [List.getD_eq_getElem?_getD, List.getElem?_eq_getElem h2]
    rfl
def EB (k : Int) : List (List Nat) := if k = 1 then [EDG] else []
theorem rep_EB {k : Int} (h : k = 0 ∨ k = 1) : (List.replicate k.toNat [V.str (Str.ofString "|")]).flatten = tx (EB k) := by
  rcases h with rfl | rfl <;> rfl
theorem EB_len {k : Int} (h : k = 0 ∨ k = 1) : ((EB k).length : Int) = k := by
  rcases h with rfl | rfl <;> rfl
theorem goodB_mk {k : Int} {zs : List (List Nat)} (h : k = 0 ∨ k = 1) (hl : (zs.length : Int) ≤ 2 - k) (hp : ∀ z ∈ zs, Pl z) : GoodB (EB k ++ zs) := by
  rcases h with rfl | rfl
  · exact ⟨by show zs.length ≤ 2; omega, zs, .inl rfl, hp⟩
  · exact ⟨by show zs.length + 1 ≤ 2; omega, zs, .inr rfl, hp⟩
theorem goodA_mk {k : Int} {zs : List (List Nat)} (h : k = 0 ∨ k = 1) (hl : (zs.length : Int) ≤ 2 - k) (hp : ∀ z ∈ zs, Pl z) : GoodA (zs ++ EB k) := by
  rcases h with rfl | rfl
  · exact ⟨by rw [show zs ++ EB 0 = zs from List.append_nil _]; omega, zs, .inl (List.append_nil _), hp⟩
  · exact ⟨by rw [List.length_append]; show _ + 1 ≤ 2; omega, zs, .inr rfl, hp⟩
theorem EB_mem {k : Int} {z : List Nat} (h : z ∈ EB k) : z = EDG := by
  unfold EB at h
  split at h
  · exact List.mem_singleton.mp h
  · cases h
abbrev LCX : CXT := CX0
abbrev lvl : Nat := 11
theorem lcx0 {H : Hp} {s : Shared} {e : Value} {s' : Shared} (h : LCX [] H s (fun _ _ _ => False) e s') : False := h
def spLaw (K : PySem.W.Frag) (TL : List (Addr × Str)) : Sp := fun vs H Q _ => ∃ (a : Addr) (ns : List Int), vs = [.ref a] ∧ SqL K H a (ns.map V.int) ∧ ns.length ≤ 63 ∧ Tabs TL H ∧ ∀ H', Q (.bl true) H'
theorem IsR.but {T : Env K mg base} {H H' : Hp} {r s : Addr} {wh bh ah : List (List Nat)} {be : List Nat} (h : IsR T H r wh be bh ah) (hs : Src H s) (b : But s H H') : IsR T H' r wh be bh ah := by
  obtain ⟨dx, fs, a, c, d, h1, hf, h2, h3, h4⟩ := h
  have nr : r ≠ s := fun e => by
    obtain ⟨x, y, z, e2⟩ := hs
    rw [e, e2] at h1
    cases h1
  exact ⟨dx, fs, a, c, d, b _ _ nr h1, hf, b _ _ (src_ne hs h2) h2, b _ _ (src_ne hs h3) h3, b _ _ (src_ne hs h4) h4⟩
/-- within a turn -/
def MidT (H9 : Hp) (a s pw pb pa r : Addr) (c ed : Int) (S : List Nat) (W : List Nat → List Nat → Option V → Prop) (σ : L2.St) (H : Hp) : Prop :=
  ∃ k w v y12 y13, σ = [some (.ref a), some (.int c), some (.ref s), some (.int ed), some (.str (ofL S)), some (.ref pw), some (.ref pb), some (.ref pa), some (.ref r), k, some (.str (ofL w)), some (.str (ofL v)), y12, y13] ∧ W w v y12 ∧ w.length ≤ 20 ∧ v.length ≤ 20 ∧ In S w ∧ In S v ∧ Src H s ∧ But s H9 H
theorem in_app {S x y : List Nat} (h1 : In S x) (h2 : In S y) : In S (x ++ y) := fun c h => (List.mem_append.mp h).elim (h1 c) (h2 c)
set_option maxHeartbeats 16000000 in
theorem ok_law (T : Env K mg base) : FnOk P w K mg base LCX lvl T.f_y_law T.d_y_law ["_law_script"] (spLaw K T.TL) := by
  refine T.F_y_law.ok sc_y_law (fun vs H Q E h => ?_) (fun A outer s H vs Q E hr h => ?_)
  · obtain ⟨a, ns, rfl, _⟩ := h
    rfl
  · obtain ⟨a, ns, rfl, hS, hlen, hT, q⟩ := h
    have nd := sc_y_law.nd
    refine ⟨_, (pss_cons (ps_for PassesOwn.never rfl (pi_list (pe_slice sl_list (pe_op op_catS (pv 0) (pe_lst (pa_cons pe_int pa_nil))) po_none (po_some pe_int))) (pg_name (i := 1) nd rfl (by first | exact .inl rfl | exact .inr rfl))
        (pss_cons (ps_set (i := 2) nd rfl (by first | exact .inl rfl | exact .inr rfl) (pe_call (ok_source T) (hr.mono (by decide)) (by rfl) T.g_y_source T.F_y_source.kp T.b_y_source .nil pass0 (pa_cons (pv 1) pa_nil))) <|
        pss_cons (ps_set (i := 3) nd rfl (by first | exact .inl rfl | exact .inr rfl) (pe_call (ok_take T) (hr.mono (by decide)) (by rfl) T.g_y_take T.F_y_take.kp T.b_y_take .nil pass0 (pa_cons (pv 2) (pa_cons pe_int pa_nil)))) <|
        pss_cons (ps_set (i := 4) nd rfl (by first | exact .inl rfl | exact .inr rfl) (pe_call (ok_unlike T) (hr.mono (by decide)) (by rfl) T.g_y_unlike T.F_y_unlike.kp T.b_y_unlike .nil pass0 (pa_cons (pv 2) (pa_cons (pe_op op_add pe_int (pe_call (ok_take T) (hr.mono (by decide)) (by rfl) T.g_y_take T.F_y_take.kp T.b_y_take .nil pass0 (pa_cons (pv 2) (pa_cons pe_int pa_nil)))) pa_nil)))) <|
        pss_cons (ps_set (i := 5) nd rfl (by first | exact .inl rfl | exact .inr rfl) (pe_call (ok_places T) (hr.mono (by decide)) (by rfl) T.g_y_places T.F_y_places.kp T.b_y_places .nil pass0 (pa_cons (pv 2) (pa_cons (pv 4) (pa_cons pe_int (pa_cons pe_int pa_nil)))))) <|
        pss_cons (ps_set (i := 6) nd rfl (by first | exact .inl rfl | exact .inr rfl) (pe_op op_cat (pe_op op_rep (pe_lst (pa_cons pe_str pa_nil)) (pe_op op_modN (pv 3) pe_int)) (pe_call (ok_places T) (hr.mono (by decide)) (by rfl) T.g_y_places T.F_y_places.kp T.b_y_places .nil pass0 (pa_cons (pv 2) (pa_cons (pv 4) (pa_cons pe_int (pa_cons (pe_op op_sub pe_int (pe_op op_modN (pv 3) pe_int)) pa_nil))))))) <|
        pss_cons (ps_set (i := 7) nd rfl (by first | exact .inl rfl | exact .inr rfl) (pe_op op_cat (pe_call (ok_places T) (hr.mono (by decide)) (by rfl) T.g_y_places T.F_y_places.kp T.b_y_places .nil pass0 (pa_cons (pv 2) (pa_cons (pv 4) (pa_cons pe_int (pa_cons (pe_op op_sub pe_int (pe_op op_fdivN (pv 3) pe_int)) pa_nil))))) (pe_op op_rep (pe_lst (pa_cons pe_str pa_nil)) (pe_op op_fdivN (pv 3) pe_int)))) <|
        pss_cons (ps_set (i := 8) nd rfl (by first | exact .inl rfl | exact .inr rfl) (pe_make T.M_Rule (ok_Rule_init T) (hr.mono (by decide)) (by rfl) T.g_Rule T.b5_Rule_init.choose_spec.2 T.b5_Rule_init.choose_spec.1 (passes_call (E := fun _ _ _ => False) L2.takes0 (fun _ _ _ _ h => h)) (pa_cons (pv 5) (pa_cons (pe_slice sl_str (pv 4) po_none (po_some pe_int)) (pa_cons (pv 6) (pa_cons (pv 7) pa_nil)))))) <|
        (pss_one (ps_for PassesOwn.never rfl (pi_range1 rfl T.z_range (pa_cons pe_int pa_nil)) (pg_name (i := 9) nd rfl (by first | exact .inl rfl | exact .inr rfl))
          (pss_cons (ps_set (i := 10) nd rfl (by first | exact .inl rfl | exact .inr rfl) (pe_call (ok_spoiled T) (hr.mono (by decide)) (by rfl) T.g_y_spoiled T.F_y_spoiled.kp T.b_y_spoiled .nil pass0 (pa_cons (pv 2) (pa_cons (pe_call (ok_standing T) (hr.mono (by decide)) (by rfl) T.g_y_standing T.F_y_standing.kp T.b_y_standing .nil pass0 (pa_cons (pv 2) (pa_cons (pv 6) pa_nil))) (pa_cons (pv 4) pa_nil))))) <|
          pss_cons (ps_set (i := 11) nd rfl (by first | exact .inl rfl | exact .inr rfl) (pe_call (ok_spoiled T) (hr.mono (by decide)) (by rfl) T.g_y_spoiled T.F_y_spoiled.kp T.b_y_spoiled .nil pass0 (pa_cons (pv 2) (pa_cons (pe_call (ok_standing T) (hr.mono (by decide)) (by rfl) T.g_y_standing T.F_y_standing.kp T.b_y_standing .nil pass0 (pa_cons (pv 2) (pa_cons (pe_op op_cat (pv 5) (pv 7)) pa_nil))) (pa_cons (pv 4) pa_nil))))) <|
          C8.pss_cut (ps_if (pt_cmpR op_eq (pe_call (ok_take T) (hr.mono (by decide)) (by rfl) T.g_y_take T.F_y_take.kp T.b_y_take .nil pass0 (pa_cons (pv 2) (pa_cons pe_int pa_nil))) pe_int (nomark _))
            (pss_one (ps_set (i := 10) nd rfl (by first | exact .inl rfl | exact .inr rfl) (pe_op op_add_str (pe_call (ok_text T) (hr.mono (by decide)) (by rfl) T.g_y_text T.F_y_text.kp T.b_y_text .nil pass0 (pa_cons (pv 2) (pa_cons (pv 4) (pa_cons pe_int pa_nil)))) (pv 10))))
            pss_nil) <|
          C8.pss_cut (ps_if (pt_cmpR op_eq (pe_call (ok_take T) (hr.mono (by decide)) (by rfl) T.g_y_take T.F_y_take.kp T.b_y_take .nil pass0 (pa_cons (pv 2) (pa_cons pe_int pa_nil))) pe_int (nomark _))
            (pss_one (ps_set (i := 11) nd rfl (by first | exact .inl rfl | exact .inr rfl) (pe_op op_add_str (pv 11) (pe_call (ok_text T) (hr.mono (by decide)) (by rfl) T.g_y_text T.F_y_text.kp T.b_y_text .nil pass0 (pa_cons (pv 2) (pa_cons (pv 4) (pa_cons pe_int pa_nil)))))))
            pss_nil) <|
          C8.pss_cut (ps_if (pt_cmpR op_eq (pe_call (ok_take T) (hr.mono (by decide)) (by rfl) T.g_y_take T.F_y_take.kp T.b_y_take .nil pass0 (pa_cons (pv 2) (pa_cons pe_int pa_nil))) pe_int (nomark _))
            (pss_one (ps_set (i := 11) nd rfl (by first | exact .inl rfl | exact .inr rfl) (pe_call (ok_text T) (hr.mono (by decide)) (by rfl) T.g_y_text T.F_y_text.kp T.b_y_text .nil pass0 (pa_cons (pv 2) (pa_cons (pv 4) (pa_cons pe_int pa_nil))))))
            pss_nil) <|
          C8.pss_cut (ps_set (i := 12) nd rfl (by first | exact .inl rfl | exact .inr rfl) (pe_and (pe_call (ok_stands T) (hr.mono (by decide)) (by rfl) T.g_y_stands T.F_y_stands.kp T.b_y_stands .nil pass0 (pa_cons (pe_op op_cat (pv 5) (pv 7)) (pa_cons (pv 11) pa_nil))) (pe_one (pe_call (ok_stands T) (hr.mono (by decide)) (by rfl) T.g_y_stands T.F_y_stands.kp T.b_y_stands .nil pass0 (pa_cons (pe_revL (pv 6)) (pa_cons (Ms.pe_revS (pv 10)) pa_nil)))))) <|
          pss_cons (ps_if (pt_cmpR op_ne (pe_meth (pv 8) T.cl_Rule T.m_Rule_fits (ok_Rule_fits T) (hr.mono (by decide)) T.b_Rule_fits .nil pass0 (pa_cons (pv 10) (pa_cons (pv 11) pa_nil))) (pv 12) (nomark _))
            (pss_one (ps_ret pe_bl))
            pss_nil) <|
          pss_cons (ps_set (i := 13) nd rfl (by first | exact .inl rfl | exact .inr rfl) (pe_meth (pv 8) T.cl_Rule T.m_Rule_fits (ok_Rule_fits T) (hr.mono (by decide)) T.b_Rule_fits .nil pass0 (pa_cons (pv 10) (pa_cons (pv 11) pa_nil)))) <|
          pss_cons (ps_if (PW.pt (pw_or (pt_not (pt_val (pe_callB call_isi (by rfl) T.z_isinstance boot_isinstance (pa_cons (pv 13) (pa_cons (pe_bltn (v := .ty "bool") (by rfl) T.z_bool (by rfl) rfl) pa_nil))))) (pw_or1 (pt_cmpR op_ne (pv 13) (pv 12) (nomark _)))))
            (pss_one (ps_ret pe_bl))
            pss_nil) <|
          (pss_one (ps_if (PW.pt (pw_or (pt_cmpR op_notBl (pe_meth (pv 8) T.cl_Rule T.m_Rule_fits (ok_Rule_fits T) (hr.mono (by decide)) T.b_Rule_fits .nil pass0 (pa_cons pe_str (pa_cons pe_str pa_nil))) pe_bl (nomark _)) (pw_or1 (pt_cmpR op_notBl (pe_meth (pv 8) T.cl_Rule T.m_Rule_fits (ok_Rule_fits T) (hr.mono (by decide)) T.b_Rule_fits .nil pass0 (pa_cons (pv 11) (pa_cons pe_str pa_nil))) pe_bl (nomark _)))))
            (pss_one (ps_ret pe_bl))
            pss_nil))))))) <|
      (pss_one (ps_ret pe_bl))), ?_⟩
    refine ⟨_, rfl, by show 1 ≤ sizeLine; decide, fun l hl => ?_⟩
    have s1 := same_upd (H := H) (o := .lst [.int 0]) hl
    refine ⟨a, l, _, _, rfl, rfl, s1.seq hS, SqL.of upd_same, ?_, fun p hp => ?_⟩
    · rw [List.length_map, sizeLine_eq]
      show ns.length + 1 ≤ _
      omega
    have s2 := s1.trans (same_upd (o := .lst (ns.map V.int ++ [.int 0])) hp)
    refine ⟨_, rfl, p, _, rfl, SqL.of upd_same, fun p2 hp2 => ?_⟩
    obtain ⟨cs, ec⟩ := cells ns 4
    rw [ec]
    refine ⟨p2, rfl, ⟨_, SqL.of upd_same⟩, ?_⟩
    generalize hH1 : upd (upd (upd H l (.lst [.int 0])) p (.lst (ns.map V.int ++ [.int 0]))) p2 (.lst (cs.map V.int)) = H1
    have hp1 : H1 p2 = some (.lst (cs.map V.int)) := by rw [← hH1, upd_same]
    refine for_list (xs := cs.map V.int) (fun i σ H' => ∃ y1 y2 y3 y4 y5 y6 y7 y8 y9 y10 y11 y12 y13, σ = [some (.ref a), y1, y2, y3, y4, y5, y6, y7, y8, y9, y10, y11, y12, y13] ∧ Same H1 H') ⟨_, _, _, _, _, _, _, _, _, _, _, _, _, rfl, Same.refl _⟩ (fun i σ H' _ ⟨_, _, _, _, _, _, _, _, _, _, _, _, _, _, hs⟩ => SqL.of (hs _ _ hp1)) ?_ (fun σ H' ⟨_, _, _, _, _, _, _, _, _, _, _, _, _, e, hs⟩ => q _)
    rintro ix v σ H2 hi ⟨y1, y2, y3, y4, y5, y6, y7, y8, y9, y10, y11, y12, y13, rfl, hs⟩
    obtain ⟨c, rfl⟩ := cell_at hi
    -- the draws
    refine ⟨_, rfl, c, rfl, fun s hs0 H3 hs3 src3 => ?_⟩
    have keep : ∀ {H' : Hp}, But s H3 H' → Same H1 H' := fun {H'} b x o e => b x o (ne_of_none (hs _ _ e) hs0) (hs3 _ _ (hs _ _ e))
    refine ⟨_, rfl, s, 4, rfl, src3, by decide, by decide, fun ed H4 e0 e1 src4 b4 => ?_⟩
    refine ⟨_, rfl, _, rfl, s, 3, rfl, src4, by decide, by decide, fun r1 H5 c0 c1 src5 b5 => ⟨_, _, rfl, rfl, s, _, rfl, src5, by omega, by omega, fun S H6 eS ndS sgS src6 b6 => ?_⟩⟩
    have sS : Sgs S := ⟨by omega, by omega, ndS, sgS⟩
    have szS : (ofL S).length ≤ sizeLine := by rw [ofL_len]; exact small2 (by omega)
    refine ⟨_, rfl, _, rfl, s, S, 1, 3, rfl, src6, sS, by decide, by decide, by decide, fun pw wh H7 nw npw hw w1 w3 whP src7 b7 => ?_⟩
    have kB : ed.fmod 2 = 0 ∨ ed.fmod 2 = 1 := by have := fm ed (show (0 : Int) < 2 by decide); omega
    have kA : ed.fdiv 2 = 0 ∨ ed.fdiv 2 = 1 := by rw [fd ed (show (0 : Int) < 2 by decide)]; omega
    -- behind
    refine ⟨by show 1 ≤ sizeLine; decide, fun l1 hl1 => ?_⟩
    refine ⟨_, rfl, _, _, rfl, rfl, (by show (2 : Int) ≠ 0; decide), l1, _, _, rfl, rfl, upd_same, by omega, by omega, by show 1 * (ed.fmod 2).toNat ≤ _; exact small2 (by omega), fun l2 hl2 => ?_⟩
    rw [rep_EB kB]
    have s7 := (same_upd hl1 (o := .lst [.str (Str.ofString "|")])).trans (same_upd hl2 (o := .lst (tx (EB (ed.fmod 2)))))
    have hl2' : upd (upd H7 l1 (.lst [.str (Str.ofString "|")])) l2 (.lst (tx (EB (ed.fmod 2)))) l2 = some (.lst (tx (EB (ed.fmod 2)))) := upd_same
    generalize upd (upd H7 l1 (.lst [.str (Str.ofString "|")])) l2 (.lst (tx (EB (ed.fmod 2)))) = H8 at s7 hl2' ⊢
    refine ⟨_, rfl, _, rfl, _, rfl, _, _, rfl, rfl, (by show (2 : Int) ≠ 0; decide), _, _, rfl, rfl, s, S, 0, _, rfl, src7.same s7, sS, by decide, by omega, by omega, fun p3 zb H9 n3 np3 h3 z0 z2 zbP src9 b9 => ?_⟩
    have nl2 : l2 ≠ s := src_ne (src7.same s7) hl2'
    have lB : ((EB (ed.fmod 2)).length : Int) = ed.fmod 2 := EB_len kB
    refine ⟨_, _, _, _, rfl, rfl, b9 _ _ nl2 hl2', h3, by rw [tx_len, tx_len]; exact small2 (by omega), fun pb hpb => ?_⟩
    rw [show tx (EB (ed.fmod 2)) ++ tx zb = tx (EB (ed.fmod 2) ++ zb) from List.map_append.symm]
    have gB : GoodB (EB (ed.fmod 2) ++ zb) := goodB_mk kB z2 (fun z hz => (zbP z hz).1)
    have mB : ∀ z ∈ EB (ed.fmod 2) ++ zb, z = EDG ∨ Pl z ∧ In S z := fun z hz => (List.mem_append.mp hz).elim (fun h => .inl (EB_mem h)) (fun h => .inr (zbP z h))
    generalize EB (ed.fmod 2) ++ zb = bh at gB mB ⊢
    have s9 := same_upd hpb (o := .lst (tx bh))
    have hpb' : upd H9 pb (.lst (tx bh)) pb = some (.lst (tx bh)) := upd_same
    have hw9 : H9 pw = some (.lst (tx wh)) := b9 _ _ npw (s7 _ _ hw)
    have hw10 := s9 _ _ hw9
    have src10 := src9.same s9
    have b10 := ((Same.but (a := s) s7).trans b9).trans (Same.but s9)
    generalize upd H9 pb (.lst (tx bh)) = H10 at s9 hpb' hw10 src10 b10 ⊢
    -- ahead
    refine ⟨_, rfl, _, rfl, _, rfl, _, _, rfl, rfl, ⟨by decide, by decide⟩, _, _, rfl, rfl, s, S, 0, _, rfl, src10, sS, by decide, by omega, by omega, fun p4 za H11 n4 np4 h4 z0' z2' zaP src11 b11 => ?_⟩
    refine ⟨by show 1 ≤ sizeLine; decide, fun l3 hl3 => ?_⟩
    refine ⟨_, rfl, _, _, rfl, rfl, ⟨by decide, by decide⟩, l3, _, _, rfl, rfl, upd_same, by omega, by omega, by show 1 * (ed.fdiv 2).toNat ≤ _; exact small2 (by omega), fun l4 hl4 => ?_⟩
    rw [rep_EB kA]
    have s11 := (same_upd hl3 (o := .lst [.str (Str.ofString "|")])).trans (same_upd hl4 (o := .lst (tx (EB (ed.fdiv 2)))))
    have hl4' : upd (upd H11 l3 (.lst [.str (Str.ofString "|")])) l4 (.lst (tx (EB (ed.fdiv 2)))) l4 = some (.lst (tx (EB (ed.fdiv 2)))) := upd_same
    generalize upd (upd H11 l3 (.lst [.str (Str.ofString "|")])) l4 (.lst (tx (EB (ed.fdiv 2)))) = H12 at s11 hl4' ⊢
    have lA : ((EB (ed.fdiv 2)).length : Int) = ed.fdiv 2 := EB_len kA
    refine ⟨_, _, _, _, rfl, rfl, s11 _ _ h4, hl4', by rw [tx_len, tx_len]; exact small2 (by omega), fun pa hpa => ?_⟩
    rw [show tx za ++ tx (EB (ed.fdiv 2)) = tx (za ++ EB (ed.fdiv 2)) from List.map_append.symm]
    have gA : GoodA (za ++ EB (ed.fdiv 2)) := goodA_mk kA z2' (fun z hz => (zaP z hz).1)
    have mA : ∀ z ∈ za ++ EB (ed.fdiv 2), z = EDG ∨ Pl z ∧ In S z := fun z hz => (List.mem_append.mp hz).elim (fun h => .inr (zaP z h)) (fun h => .inl (EB_mem h))
    generalize za ++ EB (ed.fdiv 2) = ah at gA mA ⊢
    have s12 := same_upd hpa (o := .lst (tx ah))
    have npb : pb ≠ s := src_ne src10 hpb'
    have hpa' : upd H12 pa (.lst (tx ah)) pa = some (.lst (tx ah)) := upd_same
    have hw12 := s12 _ _ (s11 _ _ (b11 _ _ npw hw10))
    have hb12 := s12 _ _ (s11 _ _ (b11 _ _ npb hpb'))
    have src12 := (src11.same s11).same s12
    have b12 := ((b10.trans b11).trans (Same.but s11)).trans (Same.but s12)
    generalize upd H12 pa (.lst (tx ah)) = H13 at s12 hpa' hw12 hb12 src12 b12 ⊢
    -- the rule
    refine ⟨_, rfl, _, rfl, _, rfl, ofL S, rfl, szS, _, rfl, _, rfl, fun r dx nr ndx nrd => ?_⟩
    have sr : Same H13 (upd (upd H13 dx (.own r)) r (.ins T.C_Rule dx [])) := (same_upd ndx).trans (same_upd (by rw [upd_ne nrd.symm]; exact nr))
    have inB : ∀ c ∈ S.take 1, c ∈ SG := fun c h => sgS c (List.mem_of_mem_take h)
    have eb : cutS (ofL S) none (some ((1 : Nat) : Int)) = ofL (S.take 1) := by rw [cut_to, sg_ofL]
    refine ⟨r, dx, pw, pb, pa, wh, S.take 1, bh, ah, by rw [← eb]; rfl, upd_same, sr _ _ hw12, sr _ _ hb12, sr _ _ hpa', by omega, by omega, fun z hz => (whP z hz).1, by rw [List.length_take]; omega, inB, gB, gA, fun wh' bh' ah' H15 aw ab aa isr b15 => ⟨rfl, ?_⟩⟩
    have hw15 : H15 pw = some (.lst (tx wh)) := b15 _ _ (ne_of_none hw12 nr) (sr _ _ hw12)
    have hb15 : H15 pb = some (.lst (tx bh)) := b15 _ _ (ne_of_none hb12 nr) (sr _ _ hb12)
    have ha15 : H15 pa = some (.lst (tx ah)) := b15 _ _ (ne_of_none hpa' nr) (sr _ _ hpa')
    have src15 : Src H15 s := by
      obtain ⟨x, y, z, e⟩ := src12
      exact ⟨x, y, z, b15 _ _ (ne_of_none e nr) (sr _ _ e)⟩
    have b1315 : But s H13 H15 := fun x o _ e => b15 _ _ (ne_of_none e nr) (sr _ _ e)
    have b315 : But s H3 H15 := ((((b4.trans b5).trans b6).trans b7).trans b12).trans b1315
    have nw15 : pw ≠ s := npw
    have npa : pa ≠ s := src_ne src12 hpa'
    have lw3 : wh.length ≤ 3 := by omega
    have lB2 : bh.length ≤ 2 := gB.1
    have lA2 : ah.length ≤ 2 := gA.1
    have oA := okA (fun z hz => (whP z hz).1) gA
    have oB := okB gB
    have noS : ∀ {x : List Nat}, In S x → 124 ∉ x := fun {x} h m => edg_no (sgS _ (h _ m))
    have mWA : ∀ z ∈ wh ++ ah, z = EDG ∨ Pl z ∧ In S z := fun z hz => (List.mem_append.mp hz).elim (fun h => .inr (whP z h)) (mA z)
    clear b12 b11 b10 b9 b7 b6 b5 b4 s12 s11 s9 s7
    -- the turns
    refine ⟨4, rfl, by decide, by decide, ?_⟩
    refine for_range (lo := 0) (n := 4) (fun i σ H' => ∃ y9 y10 y11 y12 y13, σ = [some (.ref a), some (.int c), some (.ref s), some (.int ed), some (.str (ofL S)), some (.ref pw), some (.ref pb), some (.ref pa), some (.ref r), y9, y10, y11, y12, y13] ∧ Src H' s ∧ But s H15 H')
      ⟨_, _, _, _, _, rfl, src15, But.refl _ _⟩ (fun i σ H16 hi hP => ?_) (fun σ H16 hP => ?_)
    · obtain ⟨y9, y10, y11, y12, y13, rfl, src16, b16⟩ := hP
      -- written
      refine ⟨_, rfl, _, rfl, _, rfl, s, pb, S, bh, rfl, src16, b16 _ _ npb hb15, by omega, mB, fun t1 H17 lt1 it1 src17 b17 => ⟨_, rfl, s, t1, S, rfl, src17, sS, it1, by omega, fun t2 H18 lt2 it2 src18 b18 => ?_⟩⟩
      have b18 := (b16.trans b17).trans b18
      -- waiting
      refine ⟨_, rfl, _, rfl, _, rfl, _, rfl, _, _, _, _, rfl, rfl, b18 _ _ npw hw15, b18 _ _ npa ha15, by rw [tx_len, tx_len]; exact small2 (by omega), fun p hp => ?_⟩
      rw [show tx wh ++ tx ah = tx (wh ++ ah) from List.map_append.symm]
      have sp := same_upd hp (o := .lst (tx (wh ++ ah)))
      refine ⟨s, p, S, wh ++ ah, rfl, src18.same sp, upd_same, by rw [List.length_append]; omega, mWA, fun t3 H19 lt3 it3 src19 b19 => ⟨_, rfl, s, t3, S, rfl, src19, sS, it3, by rw [List.length_append] at lt3; omega, fun t4 H20 lt4 it4 src20 b20 => ?_⟩⟩
      have b20 := ((b18.trans (Same.but sp)).trans b19).trans b20
      rw [List.length_append] at lt3
      -- longer
      refine ⟨MidT H15 a s pw pb pa r c ed S (fun w v _ => w.length ≤ 10 ∧ v.length ≤ 10), ⟨_, rfl, s, 3, rfl, src20, by decide, by decide, fun r1 H21 _ _ src21 b21 => ⟨rfl, _, rfl, ite2 (fun _ => ?_) (fun _ => ?_)⟩⟩, ?_⟩
      · refine ⟨_, rfl, _, rfl, s, S, 3, rfl, src21, by omega, by omega, by decide, by decide, fun l H22 ll il src22 b22 => ⟨_, rfl, _, _, rfl, rfl, by rw [ofL_len, ofL_len]; exact small2 (by omega), ?_⟩⟩
        rw [S_app]
        exact ⟨_, _, _, _, _, rfl, ⟨by rw [List.length_append]; omega, by omega⟩, by rw [List.length_append]; omega, by omega, in_app il it2, it4, src22, (b20.trans b21).trans b22⟩
      · exact ⟨_, _, _, _, _, rfl, ⟨by omega, by omega⟩, by omega, by omega, it2, it4, src21, b20.trans b21⟩
      rintro σ H23 ⟨k, w1', v1, u12, u13, rfl, ⟨a10, b10⟩, _, _, iw, iv, src23, b23⟩
      refine ⟨MidT H15 a s pw pb pa r c ed S (fun w v _ => w.length ≤ 10), ⟨_, rfl, s, 3, rfl, src23, by decide, by decide, fun r1 H21 _ _ src21 b21 => ⟨rfl, _, rfl, ite2 (fun _ => ?_) (fun _ => ?_)⟩⟩, ?_⟩
      · refine ⟨_, rfl, _, rfl, _, rfl, s, S, 3, rfl, src21, by omega, by omega, by decide, by decide, fun l H22 ll il src22 b22 => ⟨_, _, rfl, rfl, by rw [ofL_len, ofL_len]; exact small2 (by omega), ?_⟩⟩
        rw [S_app]
        exact ⟨_, _, _, _, _, rfl, by omega, by omega, by rw [List.length_append]; omega, iw, in_app iv il, src22, (b23.trans b21).trans b22⟩
      · exact ⟨_, _, _, _, _, rfl, by omega, by omega, by omega, iw, iv, src21, b23.trans b21⟩
      clear b23 src23 iw iv b10 a10
      rintro σ H23 ⟨k, w1', v1, u12, u13, rfl, a10, _, bv, iw, iv, src23, b23⟩
      refine ⟨MidT H15 a s pw pb pa r c ed S (fun _ _ _ => True), ⟨_, rfl, s, 6, rfl, src23, by decide, by decide, fun r1 H21 _ _ src21 b21 => ⟨rfl, _, rfl, ite2 (fun _ => ?_) (fun _ => ?_)⟩⟩, ?_⟩
      · refine ⟨_, rfl, _, rfl, s, S, 5, rfl, src21, by omega, by omega, by decide, by decide, fun l H22 ll il src22 b22 => ?_⟩
        exact ⟨_, _, _, _, _, rfl, trivial, by omega, by omega, iw, il, src22, (b23.trans b21).trans b22⟩
      · exact ⟨_, _, _, _, _, rfl, trivial, by omega, bv, iw, iv, src21, b23.trans b21⟩
      clear b23 src23 iw iv bv a10
      rintro σ H23 ⟨k, wr, wt, u12, u13, rfl, _, lw, lv, iw, iv, src23, b23⟩
      -- due
      refine ⟨MidT H15 a s pw pb pa r c ed S (fun w v y => ∃ due : Bool, y = some (.bl due) ∧ (due = true ↔ St (wh ++ ah) v ∧ St bh.reverse w.reverse)), ?_, ?_⟩
      · refine ⟨_, rfl, _, rfl, _, _, _, _, rfl, rfl, b23 _ _ npw hw15, b23 _ _ npa ha15, by rw [tx_len, tx_len]; exact small2 (by omega), fun p hp => ?_⟩
        rw [show tx wh ++ tx ah = tx (wh ++ ah) from List.map_append.symm]
        have sp := same_upd hp (o := .lst (tx (wh ++ ah)))
        refine ⟨_, rfl, p, wh ++ ah, wt, rfl, upd_same, by omega, fun b1 H24 hb1 s24 => ⟨b1, rfl, ?_⟩⟩
        have b24 := (b23.trans (Same.but sp)).trans (Same.but s24)
        have src24 := (src23.same sp).same s24
        cases b1 with
        | false => exact iteF ⟨_, _, _, _, _, rfl, ⟨false, rfl, ⟨(fun h => by cases h), fun h => hb1.mpr h.1⟩⟩, lw, lv, iw, iv, src24, b24⟩
        | true =>
          refine iteT ⟨_, rfl, pb, _, rfl, SqL.of (b24 _ _ npb hb15), fun p2 hp2 => ?_⟩
          rw [show (tx bh).reverse = tx bh.reverse from List.map_reverse.symm]
          have sp2 := same_upd hp2 (o := .lst (tx bh.reverse))
          refine ⟨_, rfl, ofL wr, rfl, by rw [ofL_len]; exact small2 (by omega), ?_⟩
          rw [picked_rev]
          refine ⟨p2, bh.reverse, wr.reverse, rfl, upd_same, by rw [List.length_reverse]; omega, fun b2 H25 hb2 s25 => ?_⟩
          exact ⟨_, _, _, _, _, rfl, ⟨b2, rfl, ⟨fun h => ⟨hb1.mp rfl, hb2.mp h⟩, fun h => hb2.mpr h.2⟩⟩, lw, lv, iw, iv, (src24.same sp2).same s25, (b24.trans (Same.but sp2)).trans (Same.but s25)⟩
      clear b23 src23 iw iv lw lv
      rintro σ H26 ⟨k, wr, wt, u12, u13, rfl, ⟨due, rfl, hd⟩, lw, lv, iw, iv, src26, b26⟩
      have is26 := isr.but src15 b26
      have fit : ∀ {b : Bool}, (b = true ↔ Fits wh' bh' ah' wr wt) → b = due := fun {b} h => by
        have e := h.trans ((fits_iff aw ab aa oA oB (noS iv) (noS iw)).trans hd.symm)
        cases b <;> cases due <;> simp at e ⊢
      have lw' : wh'.length ≤ 3 := by rw [aw.1]; exact lw3
      have lb' : bh'.length ≤ 2 := by rw [ab.1]; exact lB2
      have la' : ah'.length ≤ 2 := by rw [aa.1]; exact lA2
      obtain ⟨dx1, fs, x1, x2, x3, hr1, hf, g1, g2, g3⟩ := is26
      have is26 : IsR T H26 r wh' (S.take 1) bh' ah' := ⟨dx1, fs, x1, x2, x3, hr1, hf, g1, g2, g3⟩
      refine ⟨_, rfl, r, dx1, fs, rfl, hr1, hf.no _ (by decide +kernel) (by decide +kernel) (by decide +kernel) (by decide +kernel), ?_⟩
      refine ⟨_, rfl, _, rfl, r, wh', S.take 1, bh', ah', wr, wt, rfl, is26, lw', lb', la', by omega, by omega, fun b H27 hb s27 => ?_⟩
      rw [fit hb]
      refine ⟨_, rfl, rfl, _, rfl, ?_⟩
      rw [decide_eq_true rfl]
      refine iteF ?_
      -- again
      have hr2 := s27 _ _ hr1
      have noM : fs.lookup (Str.ofString "fits") = none := hf.no _ (by decide +kernel) (by decide +kernel) (by decide +kernel) (by decide +kernel)
      refine ⟨_, rfl, r, dx1, fs, rfl, hr2, noM, ?_⟩
      refine ⟨_, rfl, _, rfl, r, wh', S.take 1, bh', ah', wr, wt, rfl, is26.same s27, lw', lb', la', by omega, by omega, fun b2 H28 hb2 s28 => ?_⟩
      rw [fit hb2]
      -- a bool
      refine ⟨_, rfl, _, _, _, _, _, rfl, .ty "bool", .base (.bl _), kit_ty (r := true) (by decide +kernel), _, rfl, iteF ?_⟩
      refine ⟨_, rfl, _, rfl, rfl, _, rfl, ?_⟩
      rw [decide_eq_true rfl]
      refine iteF ?_
      -- never on nothing
      have none_ : ∀ {b : Bool} {x : List Nat}, In S x → (b = true ↔ Fits wh' bh' ah' x []) → b = false := fun {b x} ix h => by
        cases b with
        | false => rfl
        | true =>
          have e := (h.trans (fits_iff aw ab aa oA oB (fun h => by cases h) (noS ix))).mp rfl
          have e := e.1
          cases ew : wh with
          | nil => rw [ew] at w1; exact absurd w1 (by decide)
          | cons p ps =>
            rw [ew] at e
            have hp := whP p (by rw [ew]; exact List.mem_cons_self)
            exact absurd (show p = EDG from e) (pl_ne hp.1)
      have s278 := s27.trans s28
      refine ⟨_, rfl, r, dx1, fs, rfl, s278 _ _ hr1, noM, ?_⟩
      refine ⟨r, wh', S.take 1, bh', ah', [], [], rfl, is26.same s278, lw', lb', la', by decide, by decide, fun b3 H29 hb3 s29 => ?_⟩
      obtain rfl := none_ (fun c h => by cases h) hb3
      refine ⟨false, false, rfl, rfl, _, rfl, ?_⟩
      refine iteF ?_
      refine ⟨_, rfl, r, dx1, fs, rfl, s29 _ _ (s278 _ _ hr1), noM, ?_⟩
      refine ⟨_, rfl, r, wh', S.take 1, bh', ah', wt, [], rfl, is26.same (s278.trans s29), lw', lb', la', by omega, by decide, fun b4 H30 hb4 s30 => ?_⟩
      obtain rfl := none_ iv hb4
      refine ⟨false, false, rfl, rfl, _, rfl, ?_⟩
      refine iteF ?_
      have sl := (s278.trans s29).trans s30
      exact ⟨_, _, _, _, _, rfl, src26.same sl, b26.trans (Same.but sl)⟩
    · obtain ⟨y9, y10, y11, y12, y13, rfl, src16, b16⟩ := hP
      exact ⟨_, _, _, _, _, _, _, _, _, _, _, _, _, rfl, keep (b315.trans b16)⟩

theorem all_mk {l : PySem.W.OpenLaw} (el : l.prog = prg) {q : Program} (eq : ∀ x ∈ ([] : List Str), ((recsOf q).any fun e => e.name == x) = true) {w : World} {K : PySem.W.Frag} {h : Heap} {mg : Str → Option Value} {fa : Addr} (X : K.In h) (G : h.Ns mainGlobals mg) (hfa : mg "law" = some (.ref fa)) (own : OwnTabs K mg q h)
    {C_Rule f0 cd0 f1 cd1 f2 cd2 f3 cd3 f4 cd4 f5 cd5 f6 cd6 f7 cd7 f8 cd8 f9 cd9 f10 cd10 f11 cd11 f12 cd12 f13 cd13 f14 cd14 f15 cd15 f16 cd16 f17 cd17 f18 cd18 f19 cd19 f20 cd20 f21 cd21 f22 cd22 f23 cd23 f24 cd24 dt24 f25 cd25 f26 cd26 f27 cd27 f28 cd28 f29 cd29 C_NoRule I_NoRule C_SeamError : Addr}
    {od0 an0 od1 an1 od2 an2 od3 an3 od4 an4 od5 an5 od6 an6 od7 an7 od8 an8 od9 an9 od10 an10 od11 an11 od12 an12 od13 an13 od14 an14 od15 an15 od16 an16 od17 an17 od18 an18 od19 an19 od20 an20 od21 an21 od22 an22 od23 an23 od24 an24 td24 od25 an25 od26 an26 od27 an27 od28 an28 od29 an29 : Option Addr}
    {sl0 sl1 sl2 sl3 sl4 sl5 sl6 sl7 sl8 sl9 sl10 sl11 sl12 sl13 sl14 sl15 sl16 sl17 sl18 sl19 sl20 sl21 sl22 sl23 sl24 ts24 sl25 sl26 sl27 sl28 sl29 : Array (Option Value)}
    {oc0 kV0 dc0 pm0 ct0 oc1 kV1 dc1 pm1 ct1 oc2 kV2 dc2 pm2 ct2 oc3 kV3 dc3 pm3 ct3 oc4 kV4 dc4 pm4 ct4 oc5 kV5 dc5 pm5 ct5 oc6 kV6 dc6 pm6 ct6 oc7 kV7 dc7 pm7 ct7 oc8 kV8 dc8 pm8 ct8 oc9 kV9 dc9 pm9 ct9 oc10 kV10 dc10 pm10 ct10 oc11 kV11 dc11 pm11 ct11 oc12 kV12 dc12 pm12 ct12 oc13 kV13 dc13 pm13 ct13 oc14 kV14 dc14 pm14 ct14 oc15 kV15 dc15 pm15 ct15 oc16 kV16 dc16 pm16 ct16 oc17 kV17 dc17 pm17 ct17 oc18 kV18 dc18 pm18 ct18 oc19 kV19 dc19 pm19 ct19 oc20 kV20 dc20 pm20 ct20 oc21 kV21 dc21 pm21 ct21 oc22 kV22 dc22 pm22 ct22 oc23 kV23 dc23 pm23 ct23 oc24 kV24 dc24 pm24 ct24 tc24 oc25 kV25 dc25 pm25 ct25 oc26 kV26 dc26 pm26 ct26 oc27 kV27 dc27 pm27 ct27 oc28 kV28 dc28 pm28 ct28 oc29 kV29 dc29 pm29 ct29 : Value}
    {tn24 : Nat}
    {tk_SIGNS tk_EDGE tk_MOST_TAKEN tk_MOST_PUT tk_MOST_BESIDE : Tok}
    (v_Rule : PySem.W.nsIn K mainGlobals "Rule" = some (some (.ref C_Rule))) (pg_Rule : PySem.W.plainGet K C_Rule Str.empty = true) (hd_Rule : PySem.W.hasDictIn K C_Rule = true) (po_Rule : PySem.W.plainOver K C_Rule = true) (sa_Rule : PySem.W.findIn K (.ref C_Rule) "__setattr__" = some (some (.builtin "object.__setattr__"))) (mk_Rule : PySem.W.makesIn K C_Rule = true) (kc_Rule : PySem.W.keepIn K (.ref C_Rule) = true)
    (na_Rule_what : PySem.W.findIn K (.ref C_Rule) "_what" = some none)
    (na_Rule_becomes : PySem.W.findIn K (.ref C_Rule) "_becomes" = some none)
    (na_Rule_behind : PySem.W.findIn K (.ref C_Rule) "_behind" = some none)
    (na_Rule_ahead : PySem.W.findIn K (.ref C_Rule) "_ahead" = some none)
    (a0 : PySem.W.nsIn K mainGlobals "is_text" = some (some (.ref f0))) (l0 : K.lookup f0 = some ⟨oc0, od0, .func (PySem.W.fnOf "is_text" "is_text" (defArgs s_is_text) (defBody s_is_text) (defScope s_is_text) .none kV0 dc0 pm0 an0 (.ref cd0) ct0), sl0⟩) (c0 : PySem.W.codeIn K (.ref cd0) "is_text" = true) (k0 : PySem.W.keepIn K (.ref f0) = true)
    (a1 : PySem.W.nsIn K mainGlobals "are_signs" = some (some (.ref f1))) (l1 : K.lookup f1 = some ⟨oc1, od1, .func (PySem.W.fnOf "are_signs" "are_signs" (defArgs s_are_signs) (defBody s_are_signs) (defScope s_are_signs) .none kV1 dc1 pm1 an1 (.ref cd1) ct1), sl1⟩) (c1 : PySem.W.codeIn K (.ref cd1) "are_signs" = true) (k1 : PySem.W.keepIn K (.ref f1) = true)
    (a2 : PySem.W.nsIn K mainGlobals "are_unlike_signs" = some (some (.ref f2))) (l2 : K.lookup f2 = some ⟨oc2, od2, .func (PySem.W.fnOf "are_unlike_signs" "are_unlike_signs" (defArgs s_are_unlike_signs) (defBody s_are_unlike_signs) (defScope s_are_unlike_signs) .none kV2 dc2 pm2 an2 (.ref cd2) ct2), sl2⟩) (c2 : PySem.W.codeIn K (.ref cd2) "are_unlike_signs" = true) (k2 : PySem.W.keepIn K (.ref f2) = true)
    (a3 : PySem.W.nsIn K mainGlobals "last_signs" = some (some (.ref f3))) (l3 : K.lookup f3 = some ⟨oc3, od3, .func (PySem.W.fnOf "last_signs" "last_signs" (defArgs s_last_signs) (defBody s_last_signs) (defScope s_last_signs) .none kV3 dc3 pm3 an3 (.ref cd3) ct3), sl3⟩) (c3 : PySem.W.codeIn K (.ref cd3) "last_signs" = true) (k3 : PySem.W.keepIn K (.ref f3) = true)
    (a4 : PySem.W.nsIn K mainGlobals "is_place" = some (some (.ref f4))) (l4 : K.lookup f4 = some ⟨oc4, od4, .func (PySem.W.fnOf "is_place" "is_place" (defArgs s_is_place) (defBody s_is_place) (defScope s_is_place) .none kV4 dc4 pm4 an4 (.ref cd4) ct4), sl4⟩) (c4 : PySem.W.codeIn K (.ref cd4) "is_place" = true) (k4 : PySem.W.keepIn K (.ref f4) = true)
    (a5 : PySem.W.nsIn K mainGlobals "is_edge" = some (some (.ref f5))) (l5 : K.lookup f5 = some ⟨oc5, od5, .func (PySem.W.fnOf "is_edge" "is_edge" (defArgs s_is_edge) (defBody s_is_edge) (defScope s_is_edge) .none kV5 dc5 pm5 an5 (.ref cd5) ct5), sl5⟩) (c5 : PySem.W.codeIn K (.ref cd5) "is_edge" = true) (k5 : PySem.W.keepIn K (.ref f5) = true)
    (a6 : PySem.W.nsIn K mainGlobals "are_places" = some (some (.ref f6))) (l6 : K.lookup f6 = some ⟨oc6, od6, .func (PySem.W.fnOf "are_places" "are_places" (defArgs s_are_places) (defBody s_are_places) (defScope s_are_places) .none kV6 dc6 pm6 an6 (.ref cd6) ct6), sl6⟩) (c6 : PySem.W.codeIn K (.ref cd6) "are_places" = true) (k6 : PySem.W.keepIn K (.ref f6) = true)
    (a7 : PySem.W.nsIn K mainGlobals "is_beside" = some (some (.ref f7))) (l7 : K.lookup f7 = some ⟨oc7, od7, .func (PySem.W.fnOf "is_beside" "is_beside" (defArgs s_is_beside) (defBody s_is_beside) (defScope s_is_beside) .none kV7 dc7 pm7 an7 (.ref cd7) ct7), sl7⟩) (c7 : PySem.W.codeIn K (.ref cd7) "is_beside" = true) (k7 : PySem.W.keepIn K (.ref f7) = true)
    (a8 : PySem.W.nsIn K mainGlobals "is_behind" = some (some (.ref f8))) (l8 : K.lookup f8 = some ⟨oc8, od8, .func (PySem.W.fnOf "is_behind" "is_behind" (defArgs s_is_behind) (defBody s_is_behind) (defScope s_is_behind) .none kV8 dc8 pm8 an8 (.ref cd8) ct8), sl8⟩) (c8 : PySem.W.codeIn K (.ref cd8) "is_behind" = true) (k8 : PySem.W.keepIn K (.ref f8) = true)
    (a9 : PySem.W.nsIn K mainGlobals "is_ahead" = some (some (.ref f9))) (l9 : K.lookup f9 = some ⟨oc9, od9, .func (PySem.W.fnOf "is_ahead" "is_ahead" (defArgs s_is_ahead) (defBody s_is_ahead) (defScope s_is_ahead) .none kV9 dc9 pm9 an9 (.ref cd9) ct9), sl9⟩) (c9 : PySem.W.codeIn K (.ref cd9) "is_ahead" = true) (k9 : PySem.W.keepIn K (.ref f9) = true)
    (a10 : PySem.W.nsIn K mainGlobals "want_parts" = some (some (.ref f10))) (l10 : K.lookup f10 = some ⟨oc10, od10, .func (PySem.W.fnOf "want_parts" "want_parts" (defArgs s_want_parts) (defBody s_want_parts) (defScope s_want_parts) .none kV10 dc10 pm10 an10 (.ref cd10) ct10), sl10⟩) (c10 : PySem.W.codeIn K (.ref cd10) "want_parts" = true) (k10 : PySem.W.keepIn K (.ref f10) = true)
    (a11 : PySem.W.nsIn K mainGlobals "sorted_places" = some (some (.ref f11))) (l11 : K.lookup f11 = some ⟨oc11, od11, .func (PySem.W.fnOf "sorted_places" "sorted_places" (defArgs s_sorted_places) (defBody s_sorted_places) (defScope s_sorted_places) .none kV11 dc11 pm11 an11 (.ref cd11) ct11), sl11⟩) (c11 : PySem.W.codeIn K (.ref cd11) "sorted_places" = true) (k11 : PySem.W.keepIn K (.ref f11) = true)
    (a12 : PySem.W.nsIn K mainGlobals "stand_in" = some (some (.ref f12))) (l12 : K.lookup f12 = some ⟨oc12, od12, .func (PySem.W.fnOf "stand_in" "stand_in" (defArgs s_stand_in) (defBody s_stand_in) (defScope s_stand_in) .none kV12 dc12 pm12 an12 (.ref cd12) ct12), sl12⟩) (c12 : PySem.W.codeIn K (.ref cd12) "stand_in" = true) (k12 : PySem.W.keepIn K (.ref f12) = true)
    (a13 : PySem.W.nsIn K mainGlobals "dotted" = some (some (.ref f13))) (l13 : K.lookup f13 = some ⟨oc13, od13, .func (PySem.W.fnOf "dotted" "dotted" (defArgs s_dotted) (defBody s_dotted) (defScope s_dotted) .none kV13 dc13 pm13 an13 (.ref cd13) ct13), sl13⟩) (c13 : PySem.W.codeIn K (.ref cd13) "dotted" = true) (k13 : PySem.W.keepIn K (.ref f13) = true)
    (a14 : PySem.W.nsIn K mainGlobals "_law_mixed" = some (some (.ref f14))) (l14 : K.lookup f14 = some ⟨oc14, od14, .func (PySem.W.fnOf "_law_mixed" "_law_mixed" (defArgs s_y_mixed) (defBody s_y_mixed) (defScope s_y_mixed) .none kV14 dc14 pm14 an14 (.ref cd14) ct14), sl14⟩) (c14 : PySem.W.codeIn K (.ref cd14) "_law_mixed" = true) (k14 : PySem.W.keepIn K (.ref f14) = true)
    (a15 : PySem.W.nsIn K mainGlobals "_law_source" = some (some (.ref f15))) (l15 : K.lookup f15 = some ⟨oc15, od15, .func (PySem.W.fnOf "_law_source" "_law_source" (defArgs s_y_source) (defBody s_y_source) (defScope s_y_source) .none kV15 dc15 pm15 an15 (.ref cd15) ct15), sl15⟩) (c15 : PySem.W.codeIn K (.ref cd15) "_law_source" = true) (k15 : PySem.W.keepIn K (.ref f15) = true)
    (a16 : PySem.W.nsIn K mainGlobals "_law_take" = some (some (.ref f16))) (l16 : K.lookup f16 = some ⟨oc16, od16, .func (PySem.W.fnOf "_law_take" "_law_take" (defArgs s_y_take) (defBody s_y_take) (defScope s_y_take) .none kV16 dc16 pm16 an16 (.ref cd16) ct16), sl16⟩) (c16 : PySem.W.codeIn K (.ref cd16) "_law_take" = true) (k16 : PySem.W.keepIn K (.ref f16) = true)
    (a17 : PySem.W.nsIn K mainGlobals "_law_unlike" = some (some (.ref f17))) (l17 : K.lookup f17 = some ⟨oc17, od17, .func (PySem.W.fnOf "_law_unlike" "_law_unlike" (defArgs s_y_unlike) (defBody s_y_unlike) (defScope s_y_unlike) .none kV17 dc17 pm17 an17 (.ref cd17) ct17), sl17⟩) (c17 : PySem.W.codeIn K (.ref cd17) "_law_unlike" = true) (k17 : PySem.W.keepIn K (.ref f17) = true)
    (a18 : PySem.W.nsIn K mainGlobals "_law_place" = some (some (.ref f18))) (l18 : K.lookup f18 = some ⟨oc18, od18, .func (PySem.W.fnOf "_law_place" "_law_place" (defArgs s_y_place) (defBody s_y_place) (defScope s_y_place) .none kV18 dc18 pm18 an18 (.ref cd18) ct18), sl18⟩) (c18 : PySem.W.codeIn K (.ref cd18) "_law_place" = true) (k18 : PySem.W.keepIn K (.ref f18) = true)
    (a19 : PySem.W.nsIn K mainGlobals "_law_places" = some (some (.ref f19))) (l19 : K.lookup f19 = some ⟨oc19, od19, .func (PySem.W.fnOf "_law_places" "_law_places" (defArgs s_y_places) (defBody s_y_places) (defScope s_y_places) .none kV19 dc19 pm19 an19 (.ref cd19) ct19), sl19⟩) (c19 : PySem.W.codeIn K (.ref cd19) "_law_places" = true) (k19 : PySem.W.keepIn K (.ref f19) = true)
    (a20 : PySem.W.nsIn K mainGlobals "_law_text" = some (some (.ref f20))) (l20 : K.lookup f20 = some ⟨oc20, od20, .func (PySem.W.fnOf "_law_text" "_law_text" (defArgs s_y_text) (defBody s_y_text) (defScope s_y_text) .none kV20 dc20 pm20 an20 (.ref cd20) ct20), sl20⟩) (c20 : PySem.W.codeIn K (.ref cd20) "_law_text" = true) (k20 : PySem.W.keepIn K (.ref f20) = true)
    (a21 : PySem.W.nsIn K mainGlobals "_law_standing" = some (some (.ref f21))) (l21 : K.lookup f21 = some ⟨oc21, od21, .func (PySem.W.fnOf "_law_standing" "_law_standing" (defArgs s_y_standing) (defBody s_y_standing) (defScope s_y_standing) .none kV21 dc21 pm21 an21 (.ref cd21) ct21), sl21⟩) (c21 : PySem.W.codeIn K (.ref cd21) "_law_standing" = true) (k21 : PySem.W.keepIn K (.ref f21) = true)
    (a22 : PySem.W.nsIn K mainGlobals "_law_spoiled" = some (some (.ref f22))) (l22 : K.lookup f22 = some ⟨oc22, od22, .func (PySem.W.fnOf "_law_spoiled" "_law_spoiled" (defArgs s_y_spoiled) (defBody s_y_spoiled) (defScope s_y_spoiled) .none kV22 dc22 pm22 an22 (.ref cd22) ct22), sl22⟩) (c22 : PySem.W.codeIn K (.ref cd22) "_law_spoiled" = true) (k22 : PySem.W.keepIn K (.ref f22) = true)
    (a23 : PySem.W.nsIn K mainGlobals "_law_stands" = some (some (.ref f23))) (l23 : K.lookup f23 = some ⟨oc23, od23, .func (PySem.W.fnOf "_law_stands" "_law_stands" (defArgs s_y_stands) (defBody s_y_stands) (defScope s_y_stands) .none kV23 dc23 pm23 an23 (.ref cd23) ct23), sl23⟩) (c23 : PySem.W.codeIn K (.ref cd23) "_law_stands" = true) (k23 : PySem.W.keepIn K (.ref f23) = true)
    (a24 : PySem.W.findIn K (.ref C_Rule) "__init__" = some (some (.ref f24))) (i24 : PySem.W.isFn K (.ref f24) = true) (l24 : K.lookup f24 = some ⟨oc24, od24, .func (PySem.W.fnOf "__init__" "Rule.__init__" (defArgs s_Rule_init) (defBody s_Rule_init) (defScope s_Rule_init) (.ref dt24) kV24 dc24 pm24 an24 (.ref cd24) ct24), sl24⟩) (c24 : PySem.W.codeIn K (.ref cd24) "Rule.__init__" = true) (k24 : PySem.W.keepIn K (.ref f24) = true)
    (t24 : K.lookup dt24 = some ⟨tc24, td24, .seq #[.none, .none] tn24, ts24⟩)
    (a25 : PySem.W.findIn K (.ref C_Rule) "fits" = some (some (.ref f25))) (i25 : PySem.W.isFn K (.ref f25) = true) (l25 : K.lookup f25 = some ⟨oc25, od25, .func (PySem.W.fnOf "fits" "Rule.fits" (defArgs s_Rule_fits) (defBody s_Rule_fits) (defScope s_Rule_fits) .none kV25 dc25 pm25 an25 (.ref cd25) ct25), sl25⟩) (c25 : PySem.W.codeIn K (.ref cd25) "Rule.fits" = true) (k25 : PySem.W.keepIn K (.ref f25) = true)
    (a26 : PySem.W.findIn K (.ref C_Rule) "put" = some (some (.ref f26))) (i26 : PySem.W.isFn K (.ref f26) = true) (l26 : K.lookup f26 = some ⟨oc26, od26, .func (PySem.W.fnOf "put" "Rule.put" (defArgs s_Rule_put) (defBody s_Rule_put) (defScope s_Rule_put) .none kV26 dc26 pm26 an26 (.ref cd26) ct26), sl26⟩) (c26 : PySem.W.codeIn K (.ref cd26) "Rule.put" = true) (k26 : PySem.W.keepIn K (.ref f26) = true)
    (a27 : PySem.W.findIn K (.ref C_Rule) "__eq__" = some (some (.ref f27))) (i27 : PySem.W.isFn K (.ref f27) = true) (l27 : K.lookup f27 = some ⟨oc27, od27, .func (PySem.W.fnOf "__eq__" "Rule.__eq__" (defArgs s_Rule_eq) (defBody s_Rule_eq) (defScope s_Rule_eq) .none kV27 dc27 pm27 an27 (.ref cd27) ct27), sl27⟩) (c27 : PySem.W.codeIn K (.ref cd27) "Rule.__eq__" = true) (k27 : PySem.W.keepIn K (.ref f27) = true)
    (a28 : PySem.W.findIn K (.ref C_Rule) "__str__" = some (some (.ref f28))) (i28 : PySem.W.isFn K (.ref f28) = true) (l28 : K.lookup f28 = some ⟨oc28, od28, .func (PySem.W.fnOf "__str__" "Rule.__str__" (defArgs s_Rule_str) (defBody s_Rule_str) (defScope s_Rule_str) .none kV28 dc28 pm28 an28 (.ref cd28) ct28), sl28⟩) (c28 : PySem.W.codeIn K (.ref cd28) "Rule.__str__" = true) (k28 : PySem.W.keepIn K (.ref f28) = true)
    (a29 : PySem.W.nsIn K mainGlobals "law" = some (some (.ref f29))) (l29 : K.lookup f29 = some ⟨oc29, od29, .func (PySem.W.fnOf "law" "law" (defArgs s_y_law) (defBody s_y_law) (defScope s_y_law) .none kV29 dc29 pm29 an29 (.ref cd29) ct29), sl29⟩) (c29 : PySem.W.codeIn K (.ref cd29) "law" = true) (k29 : PySem.W.keepIn K (.ref f29) = true)
    (v_SIGNS : PySem.W.nsIn K mainGlobals "SIGNS" = some (some (.str "ABCDEFGHIJKLMNOPQRSTUVWXYZabcdefghijklmnopqrstuvwxyz" tk_SIGNS)))
    (v_EDGE : PySem.W.nsIn K mainGlobals "EDGE" = some (some (.str "|" tk_EDGE)))
    (v_MOST_TAKEN : PySem.W.nsIn K mainGlobals "MOST_TAKEN" = some (some (.int 3 tk_MOST_TAKEN)))
    (v_MOST_PUT : PySem.W.nsIn K mainGlobals "MOST_PUT" = some (some (.int 3 tk_MOST_PUT)))
    (v_MOST_BESIDE : PySem.W.nsIn K mainGlobals "MOST_BESIDE" = some (some (.int 2 tk_MOST_BESIDE)))
    (x_NoRule : PySem.Sx.Txt prg K mg "NoRule" "what" C_NoRule I_NoRule)
    (v_SeamError : PySem.W.nsIn K mainGlobals "SeamError" = some (some (.ref C_SeamError)))
    (m_NoRule_SeamError : PySem.W.exmOne K (.ref C_NoRule) (.ref C_SeamError) = some true)
    (z_ValueError : PySem.W.nsIn K mainGlobals "ValueError" = some none)
    (z_all : PySem.W.nsIn K mainGlobals "all" = some none)
    (z_bool : PySem.W.nsIn K mainGlobals "bool" = some none)
    (z_enumerate : PySem.W.nsIn K mainGlobals "enumerate" = some none)
    (z_int : PySem.W.nsIn K mainGlobals "int" = some none)
    (z_isinstance : PySem.W.nsIn K mainGlobals "isinstance" = some none)
    (z_len : PySem.W.nsIn K mainGlobals "len" = some none)
    (z_list : PySem.W.nsIn K mainGlobals "list" = some none)
    (z_max : PySem.W.nsIn K mainGlobals "max" = some none)
    (z_range : PySem.W.nsIn K mainGlobals "range" = some none)
    (z_set : PySem.W.nsIn K mainGlobals "set" = some none)
    (z_sorted : PySem.W.nsIn K mainGlobals "sorted" = some none)
    (z_str : PySem.W.nsIn K mainGlobals "str" = some none)
    (z_zip : PySem.W.nsIn K mainGlobals "zip" = some none) :
    LawAtS l w K LCX lvl 63 "_law_script" mg fa h := by
  have e := hfa.symm.trans (PySem.W.mg_of X G a29)
  cases e
  refine ⟨PySem.W.fnOf "law" "law" (defArgs s_y_law) (defBody s_y_law) (defScope s_y_law) .none kV29 dc29 pm29 an29 (.ref cd29) ct29, [], spLaw K [], (fun p hp => by cases hp),
    (fun p hp => by cases hp),
    (fun p hp => by cases hp),
    fun s v => .of_eq rfl, fun H a ns hl _ hH hS => ⟨a, ns, rfl, hS, hl, (fun p hp => by cases hp), fun _ => rfl⟩, fun base _ _ hT => ?_⟩
  rw [el]
  exact ok_law (T := {
    C_Rule := _
    g_Rule := PySem.W.mg_of X G v_Rule
    cl_Rule := ⟨pg_Rule, hd_Rule, po_Rule, sa_Rule⟩
    na_Rule_what := na_Rule_what
    na_Rule_becomes := na_Rule_becomes
    na_Rule_behind := na_Rule_behind
    na_Rule_ahead := na_Rule_ahead
    f_is_text := _
    d_is_text := _
    c_is_text := _
    F_is_text := (func_mk (st := s_is_text) l0 c0 k0 (.inl ⟨rfl, rfl⟩))
    g_is_text := PySem.W.mg_of X G a0
    b_is_text := (func_mk (st := s_is_text) l0 c0 k0 (.inl ⟨rfl, rfl⟩)).binds (ps := ["thing"]) fun _ _ _ _ _ us hl => match us, hl with | [_], _ => rfl
    f_are_signs := _
    d_are_signs := _
    c_are_signs := _
    F_are_signs := (func_mk (st := s_are_signs) l1 c1 k1 (.inl ⟨rfl, rfl⟩))
    g_are_signs := PySem.W.mg_of X G a1
    b_are_signs := (func_mk (st := s_are_signs) l1 c1 k1 (.inl ⟨rfl, rfl⟩)).binds (ps := ["thing", "least", "most"]) fun _ _ _ _ _ us hl => match us, hl with | [_, _, _], _ => rfl
    f_are_unlike_signs := _
    d_are_unlike_signs := _
    c_are_unlike_signs := _
    F_are_unlike_signs := (func_mk (st := s_are_unlike_signs) l2 c2 k2 (.inl ⟨rfl, rfl⟩))
    g_are_unlike_signs := PySem.W.mg_of X G a2
    b_are_unlike_signs := (func_mk (st := s_are_unlike_signs) l2 c2 k2 (.inl ⟨rfl, rfl⟩)).binds (ps := ["thing", "most"]) fun _ _ _ _ _ us hl => match us, hl with | [_, _], _ => rfl
    f_last_signs := _
    d_last_signs := _
    c_last_signs := _
    F_last_signs := (func_mk (st := s_last_signs) l3 c3 k3 (.inl ⟨rfl, rfl⟩))
    g_last_signs := PySem.W.mg_of X G a3
    b_last_signs := (func_mk (st := s_last_signs) l3 c3 k3 (.inl ⟨rfl, rfl⟩)).binds (ps := ["text", "many"]) fun _ _ _ _ _ us hl => match us, hl with | [_, _], _ => rfl
    f_is_place := _
    d_is_place := _
    c_is_place := _
    F_is_place := (func_mk (st := s_is_place) l4 c4 k4 (.inl ⟨rfl, rfl⟩))
    g_is_place := PySem.W.mg_of X G a4
    b_is_place := (func_mk (st := s_is_place) l4 c4 k4 (.inl ⟨rfl, rfl⟩)).binds (ps := ["thing"]) fun _ _ _ _ _ us hl => match us, hl with | [_], _ => rfl
    f_is_edge := _
    d_is_edge := _
    c_is_edge := _
    F_is_edge := (func_mk (st := s_is_edge) l5 c5 k5 (.inl ⟨rfl, rfl⟩))
    g_is_edge := PySem.W.mg_of X G a5
    b_is_edge := (func_mk (st := s_is_edge) l5 c5 k5 (.inl ⟨rfl, rfl⟩)).binds (ps := ["thing"]) fun _ _ _ _ _ us hl => match us, hl with | [_], _ => rfl
    f_are_places := _
    d_are_places := _
    c_are_places := _
    F_are_places := (func_mk (st := s_are_places) l6 c6 k6 (.inl ⟨rfl, rfl⟩))
    g_are_places := PySem.W.mg_of X G a6
    b_are_places := (func_mk (st := s_are_places) l6 c6 k6 (.inl ⟨rfl, rfl⟩)).binds (ps := ["things"]) fun _ _ _ _ _ us hl => match us, hl with | [_], _ => rfl
    f_is_beside := _
    d_is_beside := _
    c_is_beside := _
    F_is_beside := (func_mk (st := s_is_beside) l7 c7 k7 (.inl ⟨rfl, rfl⟩))
    g_is_beside := PySem.W.mg_of X G a7
    b_is_beside := (func_mk (st := s_is_beside) l7 c7 k7 (.inl ⟨rfl, rfl⟩)).binds (ps := ["things"]) fun _ _ _ _ _ us hl => match us, hl with | [_], _ => rfl
    f_is_behind := _
    d_is_behind := _
    c_is_behind := _
    F_is_behind := (func_mk (st := s_is_behind) l8 c8 k8 (.inl ⟨rfl, rfl⟩))
    g_is_behind := PySem.W.mg_of X G a8
    b_is_behind := (func_mk (st := s_is_behind) l8 c8 k8 (.inl ⟨rfl, rfl⟩)).binds (ps := ["things"]) fun _ _ _ _ _ us hl => match us, hl with | [_], _ => rfl
    f_is_ahead := _
    d_is_ahead := _
    c_is_ahead := _
    F_is_ahead := (func_mk (st := s_is_ahead) l9 c9 k9 (.inl ⟨rfl, rfl⟩))
    g_is_ahead := PySem.W.mg_of X G a9
    b_is_ahead := (func_mk (st := s_is_ahead) l9 c9 k9 (.inl ⟨rfl, rfl⟩)).binds (ps := ["things"]) fun _ _ _ _ _ us hl => match us, hl with | [_], _ => rfl
    f_want_parts := _
    d_want_parts := _
    c_want_parts := _
    F_want_parts := (func_mk (st := s_want_parts) l10 c10 k10 (.inl ⟨rfl, rfl⟩))
    g_want_parts := PySem.W.mg_of X G a10
    b_want_parts := (func_mk (st := s_want_parts) l10 c10 k10 (.inl ⟨rfl, rfl⟩)).binds (ps := ["what", "becomes", "behind", "ahead"]) fun _ _ _ _ _ us hl => match us, hl with | [_, _, _, _], _ => rfl
    f_sorted_places := _
    d_sorted_places := _
    c_sorted_places := _
    F_sorted_places := (func_mk (st := s_sorted_places) l11 c11 k11 (.inl ⟨rfl, rfl⟩))
    g_sorted_places := PySem.W.mg_of X G a11
    b_sorted_places := (func_mk (st := s_sorted_places) l11 c11 k11 (.inl ⟨rfl, rfl⟩)).binds (ps := ["places"]) fun _ _ _ _ _ us hl => match us, hl with | [_], _ => rfl
    f_stand_in := _
    d_stand_in := _
    c_stand_in := _
    F_stand_in := (func_mk (st := s_stand_in) l12 c12 k12 (.inl ⟨rfl, rfl⟩))
    g_stand_in := PySem.W.mg_of X G a12
    b_stand_in := (func_mk (st := s_stand_in) l12 c12 k12 (.inl ⟨rfl, rfl⟩)).binds (ps := ["signs", "places"]) fun _ _ _ _ _ us hl => match us, hl with | [_, _], _ => rfl
    f_dotted := _
    d_dotted := _
    c_dotted := _
    F_dotted := (func_mk (st := s_dotted) l13 c13 k13 (.inl ⟨rfl, rfl⟩))
    g_dotted := PySem.W.mg_of X G a13
    b_dotted := (func_mk (st := s_dotted) l13 c13 k13 (.inl ⟨rfl, rfl⟩)).binds (ps := ["places"]) fun _ _ _ _ _ us hl => match us, hl with | [_], _ => rfl
    f_y_mixed := _
    d_y_mixed := _
    c_y_mixed := _
    F_y_mixed := (func_mk (st := s_y_mixed) l14 c14 k14 (.inl ⟨rfl, rfl⟩))
    g_y_mixed := PySem.W.mg_of X G a14
    b_y_mixed := (func_mk (st := s_y_mixed) l14 c14 k14 (.inl ⟨rfl, rfl⟩)).binds (ps := ["_law_cell", "_law_k"]) fun _ _ _ _ _ us hl => match us, hl with | [_, _], _ => rfl
    f_y_source := _
    d_y_source := _
    c_y_source := _
    F_y_source := (func_mk (st := s_y_source) l15 c15 k15 (.inl ⟨rfl, rfl⟩))
    g_y_source := PySem.W.mg_of X G a15
    b_y_source := (func_mk (st := s_y_source) l15 c15 k15 (.inl ⟨rfl, rfl⟩)).binds (ps := ["_law_cell"]) fun _ _ _ _ _ us hl => match us, hl with | [_], _ => rfl
    f_y_take := _
    d_y_take := _
    c_y_take := _
    F_y_take := (func_mk (st := s_y_take) l16 c16 k16 (.inl ⟨rfl, rfl⟩))
    g_y_take := PySem.W.mg_of X G a16
    b_y_take := (func_mk (st := s_y_take) l16 c16 k16 (.inl ⟨rfl, rfl⟩)).binds (ps := ["_law_source_here", "_law_many"]) fun _ _ _ _ _ us hl => match us, hl with | [_, _], _ => rfl
    f_y_unlike := _
    d_y_unlike := _
    c_y_unlike := _
    F_y_unlike := (func_mk (st := s_y_unlike) l17 c17 k17 (.inl ⟨rfl, rfl⟩))
    g_y_unlike := PySem.W.mg_of X G a17
    b_y_unlike := (func_mk (st := s_y_unlike) l17 c17 k17 (.inl ⟨rfl, rfl⟩)).binds (ps := ["_law_source_here", "_law_many"]) fun _ _ _ _ _ us hl => match us, hl with | [_, _], _ => rfl
    f_y_place := _
    d_y_place := _
    c_y_place := _
    F_y_place := (func_mk (st := s_y_place) l18 c18 k18 (.inl ⟨rfl, rfl⟩))
    g_y_place := PySem.W.mg_of X G a18
    b_y_place := (func_mk (st := s_y_place) l18 c18 k18 (.inl ⟨rfl, rfl⟩)).binds (ps := ["_law_source_here", "_law_signs"]) fun _ _ _ _ _ us hl => match us, hl with | [_, _], _ => rfl
    f_y_places := _
    d_y_places := _
    c_y_places := _
    F_y_places := (func_mk (st := s_y_places) l19 c19 k19 (.inl ⟨rfl, rfl⟩))
    g_y_places := PySem.W.mg_of X G a19
    b_y_places := (func_mk (st := s_y_places) l19 c19 k19 (.inl ⟨rfl, rfl⟩)).binds (ps := ["_law_source_here", "_law_signs", "_law_least", "_law_most"]) fun _ _ _ _ _ us hl => match us, hl with | [_, _, _, _], _ => rfl
    f_y_text := _
    d_y_text := _
    c_y_text := _
    F_y_text := (func_mk (st := s_y_text) l20 c20 k20 (.inl ⟨rfl, rfl⟩))
    g_y_text := PySem.W.mg_of X G a20
    b_y_text := (func_mk (st := s_y_text) l20 c20 k20 (.inl ⟨rfl, rfl⟩)).binds (ps := ["_law_source_here", "_law_signs", "_law_most"]) fun _ _ _ _ _ us hl => match us, hl with | [_, _, _], _ => rfl
    f_y_standing := _
    d_y_standing := _
    c_y_standing := _
    F_y_standing := (func_mk (st := s_y_standing) l21 c21 k21 (.inl ⟨rfl, rfl⟩))
    g_y_standing := PySem.W.mg_of X G a21
    b_y_standing := (func_mk (st := s_y_standing) l21 c21 k21 (.inl ⟨rfl, rfl⟩)).binds (ps := ["_law_source_here", "_law_places_here"]) fun _ _ _ _ _ us hl => match us, hl with | [_, _], _ => rfl
    f_y_spoiled := _
    d_y_spoiled := _
    c_y_spoiled := _
    F_y_spoiled := (func_mk (st := s_y_spoiled) l22 c22 k22 (.inl ⟨rfl, rfl⟩))
    g_y_spoiled := PySem.W.mg_of X G a22
    b_y_spoiled := (func_mk (st := s_y_spoiled) l22 c22 k22 (.inl ⟨rfl, rfl⟩)).binds (ps := ["_law_source_here", "_law_text_here", "_law_signs"]) fun _ _ _ _ _ us hl => match us, hl with | [_, _, _], _ => rfl
    f_y_stands := _
    d_y_stands := _
    c_y_stands := _
    F_y_stands := (func_mk (st := s_y_stands) l23 c23 k23 (.inl ⟨rfl, rfl⟩))
    g_y_stands := PySem.W.mg_of X G a23
    b_y_stands := (func_mk (st := s_y_stands) l23 c23 k23 (.inl ⟨rfl, rfl⟩)).binds (ps := ["_law_places_here", "_law_signs"]) fun _ _ _ _ _ us hl => match us, hl with | [_, _], _ => rfl
    f_Rule_init := _
    d_Rule_init := _
    c_Rule_init := _
    F_Rule_init := (func_mk (st := s_Rule_init) l24 c24 k24 (Ms.dfl_two (v1 := .non) (v2 := .non) t24 rfl rfl))
    M_Rule := ⟨mk_Rule, a24, i24, kc_Rule⟩
    b3_Rule_init := (func_mk (st := s_Rule_init) l24 c24 k24 (Ms.dfl_two (v1 := .non) (v2 := .non) t24 rfl rfl)).toD.binds1 (ps := ["self", "what", "becomes", "behind", "ahead"]) 3 0 (by simp) rfl fun _ _ _ _ _ _ _ us its h1 h2 => match us, h1, its, h2 with | [_, _, _], _, [_, _], _ => ⟨_, rfl, rfl⟩
    b4_Rule_init := (func_mk (st := s_Rule_init) l24 c24 k24 (Ms.dfl_two (v1 := .non) (v2 := .non) t24 rfl rfl)).toD.binds1 (ps := ["self", "what", "becomes", "behind", "ahead"]) 4 1 (by simp) rfl fun _ _ _ _ _ _ _ us its h1 h2 => match us, h1, its, h2 with | [_, _, _, _], _, [_, _], _ => ⟨_, rfl, rfl⟩
    b5_Rule_init := (func_mk (st := s_Rule_init) l24 c24 k24 (Ms.dfl_two (v1 := .non) (v2 := .non) t24 rfl rfl)).toD.binds1 (ps := ["self", "what", "becomes", "behind", "ahead"]) 5 2 (by simp) rfl fun _ _ _ _ _ _ _ us its h1 h2 => match us, h1, its, h2 with | [_, _, _, _, _], _, [_, _], _ => ⟨_, rfl, rfl⟩
    f_Rule_fits := _
    d_Rule_fits := _
    c_Rule_fits := _
    F_Rule_fits := (func_mk (st := s_Rule_fits) l25 c25 k25 (.inl ⟨rfl, rfl⟩))
    m_Rule_fits := ⟨a25, i25, k25⟩
    b_Rule_fits := (func_mk (st := s_Rule_fits) l25 c25 k25 (.inl ⟨rfl, rfl⟩)).binds (ps := ["self", "written", "waiting"]) fun _ _ _ _ _ us hl => match us, hl with | [_, _, _], _ => rfl
    f_Rule_put := _
    d_Rule_put := _
    c_Rule_put := _
    F_Rule_put := (func_mk (st := s_Rule_put) l26 c26 k26 (.inl ⟨rfl, rfl⟩))
    m_Rule_put := ⟨a26, i26, k26⟩
    b_Rule_put := (func_mk (st := s_Rule_put) l26 c26 k26 (.inl ⟨rfl, rfl⟩)).binds (ps := ["self"]) fun _ _ _ _ _ us hl => match us, hl with | [_], _ => rfl
    f_Rule_eq := _
    d_Rule_eq := _
    c_Rule_eq := _
    F_Rule_eq := (func_mk (st := s_Rule_eq) l27 c27 k27 (.inl ⟨rfl, rfl⟩))
    m_Rule_eq := ⟨a27, i27, k27⟩
    b_Rule_eq := (func_mk (st := s_Rule_eq) l27 c27 k27 (.inl ⟨rfl, rfl⟩)).binds (ps := ["self", "other"]) fun _ _ _ _ _ us hl => match us, hl with | [_, _], _ => rfl
    f_Rule_str := _
    d_Rule_str := _
    c_Rule_str := _
    F_Rule_str := (func_mk (st := s_Rule_str) l28 c28 k28 (.inl ⟨rfl, rfl⟩))
    m_Rule_str := ⟨a28, i28, k28⟩
    b_Rule_str := (func_mk (st := s_Rule_str) l28 c28 k28 (.inl ⟨rfl, rfl⟩)).binds (ps := ["self"]) fun _ _ _ _ _ us hl => match us, hl with | [_], _ => rfl
    f_y_law := _
    d_y_law := _
    c_y_law := _
    F_y_law := (func_mk (st := s_y_law) l29 c29 k29 (.inl ⟨rfl, rfl⟩))
    g_y_law := PySem.W.mg_of X G a29
    b_y_law := (func_mk (st := s_y_law) l29 c29 k29 (.inl ⟨rfl, rfl⟩)).binds (ps := ["_law_script"]) fun _ _ _ _ _ us hl => match us, hl with | [_], _ => rfl
    t_SIGNS := _
    v_SIGNS := PySem.W.mg_of X G v_SIGNS
    t_EDGE := _
    v_EDGE := PySem.W.mg_of X G v_EDGE
    t_MOST_TAKEN := _
    v_MOST_TAKEN := PySem.W.mg_of X G v_MOST_TAKEN
    t_MOST_PUT := _
    v_MOST_PUT := PySem.W.mg_of X G v_MOST_PUT
    t_MOST_BESIDE := _
    v_MOST_BESIDE := PySem.W.mg_of X G v_MOST_BESIDE
    C_NoRule := _
    I_NoRule := _
    X_NoRule := x_NoRule
    C_SeamError := _
    v_SeamError := PySem.W.mg_of X G v_SeamError
    m_NoRule_SeamError := m_NoRule_SeamError
    z_ValueError := PySem.W.mg_none_of X G z_ValueError
    z_all := PySem.W.mg_none_of X G z_all
    z_bool := PySem.W.mg_none_of X G z_bool
    z_enumerate := PySem.W.mg_none_of X G z_enumerate
    z_int := PySem.W.mg_none_of X G z_int
    z_isinstance := PySem.W.mg_none_of X G z_isinstance
    z_len := PySem.W.mg_none_of X G z_len
    z_list := PySem.W.mg_none_of X G z_list
    z_max := PySem.W.mg_none_of X G z_max
    z_range := PySem.W.mg_none_of X G z_range
    z_set := PySem.W.mg_none_of X G z_set
    z_sorted := PySem.W.mg_none_of X G z_sorted
    z_str := PySem.W.mg_none_of X G z_str
    z_zip := PySem.W.mg_none_of X G z_zip })
end M
open PySem PySem.W PyProof.Rows
set_option maxRecDepth 100000 in
set_option maxHeartbeats 0 in
theorem PySem.Challenge.cw_markseam_k23_a_rule_fits_holds : PySem.Challenge.rw_markseam_k23_a_rule_fits.Holds := by
  w_on; o_law; k_head; (case hw => w_witness2)
  k_fill
  refine Ms.walk_tabs (l := PySem.Challenge.rw_markseam_k23_a_rule_fits) (n := 63) (k := M.lvl) (x := "_law_script") (CX := fun _ => M.LCX) rfl (by decide) rfl ⟨rfl, by decide, by decide⟩ (fun w h Y => by first | exact PySem.W.kIn_of Y | exact PySem.W.km_in_of Y) ?F (fun _ _ _ _ _ h => M.lcx0 h)
  case F =>
    intro w mg fa h KX G hmg own
    refine' M.all_mk rfl (by decide +kernel) KX G hmg own ?v_Rule ?pg_Rule ?hd_Rule ?po_Rule ?sa_Rule ?mk_Rule ?kc_Rule ?na_Rule_what ?na_Rule_becomes ?na_Rule_behind ?na_Rule_ahead ?a0 ?l0 ?c0 ?k0 ?a1 ?l1 ?c1 ?k1 ?a2 ?l2 ?c2 ?k2 ?a3 ?l3 ?c3 ?k3 ?a4 ?l4 ?c4 ?k4 ?a5 ?l5 ?c5 ?k5 ?a6 ?l6 ?c6 ?k6 ?a7 ?l7 ?c7 ?k7 ?a8 ?l8 ?c8 ?k8 ?a9 ?l9 ?c9 ?k9 ?a10 ?l10 ?c10 ?k10 ?a11 ?l11 ?c11 ?k11 ?a12 ?l12 ?c12 ?k12 ?a13 ?l13 ?c13 ?k13 ?a14 ?l14 ?c14 ?k14 ?a15 ?l15 ?c15 ?k15 ?a16 ?l16 ?c16 ?k16 ?a17 ?l17 ?c17 ?k17 ?a18 ?l18 ?c18 ?k18 ?a19 ?l19 ?c19 ?k19 ?a20 ?l20 ?c20 ?k20 ?a21 ?l21 ?c21 ?k21 ?a22 ?l22 ?c22 ?k22 ?a23 ?l23 ?c23 ?k23 ?a24 ?i24 ?l24 ?c24 ?k24 ?t24 ?a25 ?i25 ?l25 ?c25 ?k25 ?a26 ?i26 ?l26 ?c26 ?k26 ?a27 ?i27 ?l27 ?c27 ?k27 ?a28 ?i28 ?l28 ?c28 ?k28 ?a29 ?l29 ?c29 ?k29 ?v_SIGNS ?v_EDGE ?v_MOST_TAKEN ?v_MOST_PUT ?v_MOST_BESIDE ?x_NoRule ?v_SeamError ?m_NoRule_SeamError ?z_ValueError ?z_all ?z_bool ?z_enumerate ?z_int ?z_isinstance ?z_len ?z_list ?z_max ?z_range ?z_set ?z_sorted ?z_str ?z_zip
    (case v_Rule => k_is)
    (case pg_Rule => k_is)
    (case hd_Rule => k_is)
    (case po_Rule => k_is)
    (case sa_Rule => k_is)
    (case mk_Rule => k_is)
    (case kc_Rule => k_is)
    (case na_Rule_what => k_is)
    (case na_Rule_becomes => k_is)
    (case na_Rule_behind => k_is)
    (case na_Rule_ahead => k_is)
    (case a0 => k_is)
    (case l0 => k_is)
    (case c0 => k_is)
    (case k0 => k_is)
    (case a1 => k_is)
    (case l1 => k_is)
    (case c1 => k_is)
    (case k1 => k_is)
    (case a2 => k_is)
    (case l2 => k_is)
    (case c2 => k_is)
    (case k2 => k_is)
    (case a3 => k_is)
    (case l3 => k_is)
    (case c3 => k_is)
    (case k3 => k_is)
    (case a4 => k_is)
    (case l4 => k_is)
    (case c4 => k_is)
    (case k4 => k_is)
    (case a5 => k_is)
    (case l5 => k_is)
    (case c5 => k_is)
    (case k5 => k_is)
    (case a6 => k_is)
    (case l6 => k_is)
    (case c6 => k_is)
    (case k6 => k_is)
    (case a7 => k_is)
    (case l7 => k_is)
    (case c7 => k_is)
    (case k7 => k_is)
    (case a8 => k_is)
    (case l8 => k_is)
    (case c8 => k_is)
    (case k8 => k_is)
    (case a9 => k_is)
    (case l9 => k_is)
    (case c9 => k_is)
    (case k9 => k_is)
    (case a10 => k_is)
    (case l10 => k_is)
    (case c10 => k_is)
    (case k10 => k_is)
    (case a11 => k_is)
    (case l11 => k_is)
    (case c11 => k_is)
    (case k11 => k_is)
    (case a12 => k_is)
    (case l12 => k_is)
    (case c12 => k_is)
    (case k12 => k_is)
    (case a13 => k_is)
    (case l13 => k_is)
    (case c13 => k_is)
    (case k13 => k_is)
    (case a14 => k_is)
    (case l14 => k_is)
    (case c14 => k_is)
    (case k14 => k_is)
    (case a15 => k_is)
    (case l15 => k_is)
    (case c15 => k_is)
    (case k15 => k_is)
    (case a16 => k_is)
    (case l16 => k_is)
    (case c16 => k_is)
    (case k16 => k_is)
    (case a17 => k_is)
    (case l17 => k_is)
    (case c17 => k_is)
    (case k17 => k_is)
    (case a18 => k_is)
    (case l18 => k_is)
    (case c18 => k_is)
    (case k18 => k_is)
    (case a19 => k_is)
    (case l19 => k_is)
    (case c19 => k_is)
    (case k19 => k_is)
    (case a20 => k_is)
    (case l20 => k_is)
    (case c20 => k_is)
    (case k20 => k_is)
    (case a21 => k_is)
    (case l21 => k_is)
    (case c21 => k_is)
    (case k21 => k_is)
    (case a22 => k_is)
    (case l22 => k_is)
    (case c22 => k_is)
    (case k22 => k_is)
    (case a23 => k_is)
    (case l23 => k_is)
    (case c23 => k_is)
    (case k23 => k_is)
    (case a24 => k_is)
    (case i24 => k_is)
    (case l24 => k_is)
    (case c24 => k_is)
    (case k24 => k_is)
    (case t24 => k_is)
    (case a25 => k_is)
    (case i25 => k_is)
    (case l25 => k_is)
    (case c25 => k_is)
    (case k25 => k_is)
    (case a26 => k_is)
    (case i26 => k_is)
    (case l26 => k_is)
    (case c26 => k_is)
    (case k26 => k_is)
    (case a27 => k_is)
    (case i27 => k_is)
    (case l27 => k_is)
    (case c27 => k_is)
    (case k27 => k_is)
    (case a28 => k_is)
    (case i28 => k_is)
    (case l28 => k_is)
    (case c28 => k_is)
    (case k28 => k_is)
    (case a29 => k_is)
    (case l29 => k_is)
    (case c29 => k_is)
    (case k29 => k_is)
    (case v_SIGNS => k_is)
    (case v_EDGE => k_is)
    (case v_MOST_TAKEN => k_is)
    (case v_MOST_PUT => k_is)
    (case v_MOST_BESIDE => k_is)
    (case x_NoRule => 
      refine' PySem.Sx.Txt.of (nm := "NoRule") (fld := "what") KX G ?gC ?cls1 ?cls2 ?cls3 ?sa ?ga ?gg ?noN ?iC ?tC ?kC ?exC ?vaC ?meC ?tyC ?isC ?hdC ?opq ?sup ?l1 ?l2 ?l3 ?l4 ?l5 ?l6 ?top ?fne ?fks ?fkc ?fdb ?te ?bnd ?ev
      (case gC => k_is)
      (case cls1 => k_is)
      (case cls2 => first | rfl | decide +kernel)
      (case cls3 => first | rfl | with_unfolding_all rfl | decide +kernel)
      (case sa => k_is)
      (case ga => k_is)
      (case gg => k_is)
      (case noN => k_is)
      (case iC => k_is)
      (case tC => k_is)
      (case kC => k_is)
      (case exC => k_is)
      (case vaC => k_is)
      (case meC => k_is)
      (case tyC => k_is)
      (case isC => k_is)
      (case hdC => k_is)
      (case opq => k_is)
      (case sup => k_is)
      (case l1 => k_is)
      (case l2 => k_is)
      (case l3 => k_is)
      (case l4 => first | rfl | k_is)
      (case l5 => first | rfl | decide +kernel)
      (case l6 => k_is)
      (case top => first | rfl | decide +kernel)
      (case fne => first | rfl | decide +kernel)
      (case fks => first | rfl | decide +kernel)
      (case fkc => first | rfl | decide +kernel)
      (case fdb => first | rfl | decide +kernel)
      (case te => first | k_is | rfl | decide +kernel)
      (case bnd => exact fun s x v => .of_eq rfl)
      (case ev => exact ⟨_, fun L => rfl⟩))
    (case v_SeamError => k_is)
    (case m_NoRule_SeamError => first | k_is | rfl | decide +kernel)
    (case z_ValueError => k_is)
    (case z_all => k_is)
    (case z_bool => k_is)
    (case z_enumerate => k_is)
    (case z_int => k_is)
    (case z_isinstance => k_is)
    (case z_len => k_is)
    (case z_list => k_is)
    (case z_max => k_is)
    (case z_range => k_is)
    (case z_set => k_is)
    (case z_sorted => k_is)
    (case z_str => k_is)
    (case z_zip => k_is)
#print axioms PySem.Challenge.cw_markseam_k23_a_rule_fits_holds

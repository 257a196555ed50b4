import PyProof.Rows.All
import Wide.All
import OpenK.AllK
import Wide.FinOn
import HandS.ForMost
import HandS.Walk
import HandS.Wide
import HandS.IsInst
import KE.GoesMore
import KE.GoesEnum
import HandS.Codes
import HandS.StrMore
import HandS.TryOnly
import HandS.Style
import PyProof.Rows.SetFrom
import HandS.ForExc
import HandS.Defaults
import HandS.Lambda
import HandS.EndTab
import HandS.EndOwn
import HandS.TryMany
import HandS.ExcInit
import KE.KExcSuper
import HandS.ExcIs
import KE.KExcIs
import HandS.ExcValue
import HandS.Sort
import PyProof.CollectStr
import PyProof.Rows.SortShellAny
import HandS.MakeKw
import HandS.MakeKwOnly
import PySem.Challenge.RW_markseam_k02_the_common_start
set_option Elab.async false
set_option linter.all false
set_option maxRecDepth 100000
/-! Own rules: zip of two texts, of a text and a list; enumerate of a text. -/
namespace Ms
open PySem PySem.Spec PyProof.Rows L2
/-- the five new cells of a zip, over two one-cell iterators -/
theorem five {c n : Nat} (h : c ∈ [n + 4, n + 2, n + 3, n, n + 1]) : n ≤ c := by
  have q : c = n + 4 ∨ c = n + 2 ∨ c = n + 3 ∨ c = n ∨ c = n + 1 := by simpa using h
  omega
/-- signs of two texts in new pairs -/
def Jss (x y : Str) : It :=
  ⟨fun i _ => i < x.cps.size ∧ i < y.cps.size,
   fun i H v H' => ∃ T c d, v = .ref T ∧ H T = none ∧ H' = upd H T (.tup [.str ⟨#[c]⟩, .str ⟨#[d]⟩]) ∧ x.cps[i]? = some c ∧ y.cps[i]? = some d,
   fun i _ => i ≤ x.cps.size ∧ i ≤ y.cps.size ∧ (i = x.cps.size ∨ i = y.cps.size)⟩
theorem ltn {a n : Nat} (h : a < n) (i : Nat) : a ≠ n + i := by omega
/-- how the cells of such a zip lie -/
structure Apt (z TI TO i1 i2 : Addr) : Prop where
  e1 : TI ≠ z
  e2 : TO ≠ z
  e3 : i1 ≠ z
  e4 : i2 ≠ z
  e5 : TI ≠ TO
  e6 : TI ≠ i1
  e7 : TI ≠ i2
  e8 : TO ≠ i1
  e9 : TO ≠ i2
  e0 : i1 ≠ i2
theorem apt (n : Nat) : Apt (n + 4) (n + 2) (n + 3) n (n + 1) := by constructor <;> (show ¬ (@Eq Nat _ _); omega)
theorem Apt.ss {z TI TO i1 i2 : Addr} (D : Apt z TI TO i1 i2) : ZipSep2 z TI TO i1 i2 [i1] [i2] where
  TIz := D.e1
  TOz := D.e2
  TITO := D.e5
  TIi1 := D.e6
  mem1 := List.mem_singleton.mpr rfl
  zf1 := fun h => D.e3 (List.mem_singleton.mp h).symm
  Tf1 := fun h => D.e8 (List.mem_singleton.mp h)
  TIi2 := D.e7
  mem2 := List.mem_singleton.mpr rfl
  zf2 := fun h => D.e4 (List.mem_singleton.mp h).symm
  Tf2 := fun h => D.e9 (List.mem_singleton.mp h)
  sep1_2 := fun h => D.e0 (List.mem_singleton.mp h)
  sep2_1 := fun h => D.e0 (List.mem_singleton.mp h).symm
theorem Apt.sl {z TI TO i1 i2 l : Addr} (D : Apt z TI TO i1 i2) (h1 : l ≠ z) (h2 : l ≠ TO) (h3 : l ≠ i1) : ZipSep2 z TI TO i1 i2 [i1] [i2, l] where
  TIz := D.e1
  TOz := D.e2
  TITO := D.e5
  TIi1 := D.e6
  mem1 := List.mem_singleton.mpr rfl
  zf1 := fun h => D.e3 (List.mem_singleton.mp h).symm
  Tf1 := fun h => D.e8 (List.mem_singleton.mp h)
  TIi2 := D.e7
  mem2 := List.mem_cons_self ..
  zf2 := fun h => (List.mem_cons.mp h).elim (fun q => D.e4 q.symm) fun q => h1 (List.mem_singleton.mp q).symm
  Tf2 := fun h => (List.mem_cons.mp h).elim D.e9 fun q => h2 (List.mem_singleton.mp q).symm
  sep1_2 := fun h => (List.mem_cons.mp h).elim D.e0 fun q => h3 (List.mem_singleton.mp q).symm
  sep2_1 := fun h => D.e0 (List.mem_singleton.mp h).symm
theorem lt5 {h : Heap} {z TI TO i1 i2 : Addr} (l1 : ∃ o, h.get? z = some o) (l2 : ∃ o, h.get? TI = some o) (l3 : ∃ o, h.get? TO = some o) (l4 : ∃ o, h.get? i1 = some o) (l5 : ∃ o, h.get? i2 = some o) :
    ∀ c ∈ [z, TI, TO, i1, i2], c < h.objs.size := fun c hc => by
  have q : c = z ∨ c = TI ∨ c = TO ∨ c = i1 ∨ c = i2 := by simpa using hc
  have lt : ∀ {a : Addr}, (∃ o, h.get? a = some o) → a < h.objs.size := fun ⟨_, e⟩ => Heap.lt_size e
  rcases q with q | q | q | q | q
  all_goals rw [q]
  · exact lt l1
  · exact lt l2
  · exact lt l3
  · exact lt l4
  · exact lt l5
theorem turn_ss {P : Program} {w : World} {K : PySem.W.Frag} {elts : List Expr} {kk : Nat} {tpos : Pos} {x y : Str} {t u : Tok} {z TI TO i1 i2 : Addr} (D : Apt z TI TO i1 i2) :
    Turn P w K (.Tuple elts kk tpos) (Jss x y) [z, TI, TO, i1, i2] z
      (fun i h => IsZip h z TI TO .none ∧ IsTupOf2 h TI (.ref i1) (.ref i2) ∧ (∃ a b, IsTupOf2 h TO a b) ∧ h.IsStrIter i1 (strIterType x) x t i ∧ h.IsStrIter i2 (strIterType y) y u i) where
  mem := by simp
  obj := fun i h st c hc => by
    obtain ⟨hz, hTI, ⟨a, b, hTO⟩, ⟨o1, m1, _, d1⟩, ⟨o2, m2, _, d2⟩⟩ := st
    have q : c = z ∨ c = TI ∨ c = TO ∨ c = i1 ∨ c = i2 := by simpa using hc
    rcases q with q | q | q | q | q
    all_goals rw [q]
    · exact ⟨_, hz, fun v q => nomatch q⟩
    · exact ⟨_, hTI, fun v q => nomatch q⟩
    · exact ⟨_, hTO, fun v q => nomatch q⟩
    · exact ⟨o1, m1, fun v q => by rw [d1] at q; cases q⟩
    · exact ⟨o2, m2, fun v q => by rw [d2] at q; cases q⟩
  keep := fun i h h' st k => by
    obtain ⟨hz, hTI, ⟨a, b, hTO⟩, ⟨o1, m1, r1⟩, ⟨o2, m2, r2⟩⟩ := st
    exact ⟨k z (by simp) _ hz, k TI (by simp) _ hTI, ⟨a, b, k TO (by simp) _ hTO⟩, ⟨o1, k i1 (by simp) _ m1, r1⟩, ⟨o2, k i2 (by simp) _ m2, r2⟩⟩
  item := by
    intro X hP hw hK hc i pins s σ H E I hf st hg
    subst hP hw hK
    obtain ⟨hz, hTI, ⟨a0, b0, hTO⟩, h1, h2⟩ := st
    obtain ⟨g1, g2⟩ := hg
    have lv := lt5 ⟨_, hz⟩ ⟨_, hTI⟩ ⟨_, hTO⟩ (let ⟨o, e, _⟩ := h1; ⟨o, e⟩) (let ⟨o, e, _⟩ := h2; ⟨o, e⟩)
    have hh : X.A.in1.handled = none := I.ok.hd hc
    refine wpAny_pyNext_zipD2_item D.ss (Draws.text hh i1 x t) (Draws.text hh i2 y u) hz hTI hTO h1 h2 g1 g2 fun v1 v2 h' tk y1 y2 z' TO' h1' h2' hT hsz hk => ?_
    obtain ⟨c, u1, ec, rfl⟩ := y1
    obtain ⟨d, u2, ed, rfl⟩ := y2
    refine ⟨_, rfl, wpAny_letOwnedTupleGo_zip (s := { s with heap := h', toks := tk }) z' fun h'' z'' sb => ?_⟩
    have nz : z ≠ s.heap.objs.size := Nat.ne_of_lt (lv z (by simp))
    have hT2 : h''.get? s.heap.objs.size = some { cls := .type "tuple", data := .seq #[.str ⟨#[c]⟩ u1, .str ⟨#[d]⟩ u2] } := (sb.2 _ nz.symm).trans hT
    have new : ObjOk X.prog X.w (upd H s.heap.objs.size (.tup [.str ⟨#[c]⟩, .str ⟨#[d]⟩])) h'' s.heap.objs.size (.tup [.str ⟨#[c]⟩, .str ⟨#[d]⟩]) :=
      ⟨by show 2 ≤ sizeLine; decide, _, .cons ⟨u1, rfl⟩ (.cons ⟨u2, rfl⟩ .nil), ⟨_, hT2, rfl, _, rfl⟩⟩
    have I1 : Inv X pins σ (upd H s.heap.objs.size (.tup [.str ⟨#[c]⟩, .str ⟨#[d]⟩])) { s with heap := h'', toks := tk } :=
      I.turnedNew (ch := [z, TI, TO, i1, i2]) (fun b o hb q => (sb.2 b fun e => hb (by simp [e])).trans (hk b o (fun e => hb (by simp [e])) (fun e => hb (by simp [e])) (fun e => hb (by simp [e])) (fun e => hb (by simp [e])) q)) hf (Nat.le_refl _) new
    refine ⟨.ref s.heap.objs.size, _, I1, rfl, ⟨_, c, d, rfl, I.hok.fresh (Nat.le_refl _), rfl, ec, ed⟩, ⟨z'', ?_, ⟨_, _, (sb.2 _ D.e2).trans TO'⟩, ?_, ?_⟩, fun b hb => ?_⟩
    · exact (sb.2 _ D.e1).trans (hk _ _ D.e1 D.e5 D.e6 D.e7 hTI)
    · obtain ⟨o, e, r⟩ := h1'
      exact ⟨o, (sb.2 _ D.e3).trans e, r⟩
    · obtain ⟨o, e, r⟩ := h2'
      exact ⟨o, (sb.2 _ D.e4).trans e, r⟩
    · rw [upd_ne (Nat.ne_of_lt (lv b hb))]
      exact (hf b hb).1
  done := by
    intro X hP hw hK hc i pins s σ H E I hf st hg
    subst hP hw hK
    obtain ⟨hz, hTI, ⟨a0, b0, hTO⟩, h1, h2⟩ := st
    have hh : X.A.in1.handled = none := I.ok.hd hc
    exact wpAny_pyNext_zipD2_end D.ss (Draws.text hh i1 x t) (Draws.text hh i2 y u) hz hTI hTO h1 h2 hg.1 hg.2.1 hg.2.2 fun h' tk hk => ⟨rfl, I.turnedL (t' := tk) (ch := [z, TI, TO, i1, i2]) (fun b o hb q =>
      hk b o (fun e => hb (by simp [e])) (fun e => hb (by simp [e])) (fun e => hb (by simp [e])) (fun e => hb (by simp [e])) q) hf⟩
  self := fun A i s Q E st h => wpAny_pyIter_zip st.1 h
/-- signs of a text, items of the list at a as it stands at each turn, in new pairs -/
def Jsl (K : PySem.W.Frag) (x : Str) (a : Addr) : It :=
  ⟨fun i H => i < x.cps.size ∧ ∃ ys v, SqL K H a ys ∧ ys[i]? = some v,
   fun i H v H' => ∃ T c y, v = .ref T ∧ H T = none ∧ H' = upd H T (.tup [.str ⟨#[c]⟩, y]) ∧ x.cps[i]? = some c ∧ ∀ ys, SqL K H a ys → ys[i]? = some y,
   fun i H => ∃ ys, SqL K H a ys ∧ i ≤ x.cps.size ∧ i ≤ ys.length ∧ (i = x.cps.size ∨ i = ys.length)⟩
theorem turn_sl {P : Program} {w : World} {K : PySem.W.Frag} {elts : List Expr} {kk : Nat} {tpos : Pos} {x : Str} {a : Addr} {t : Tok} {z TI TO i1 i2 : Addr} (D : Apt z TI TO i1 i2) (n1 : a ≠ z) (n2 : a ≠ TO) (n3 : a ≠ i1) (n4 : a ≠ i2) :
    Turn P w K (.Tuple elts kk tpos) (Jsl K x a) [z, TI, TO, i1, i2] z
      (fun i h => IsZip h z TI TO .none ∧ IsTupOf2 h TI (.ref i1) (.ref i2) ∧ (∃ a b, IsTupOf2 h TO a b) ∧ h.IsStrIter i1 (strIterType x) x t i ∧ h.IsListIter i2 a i) where
  mem := by simp
  obj := fun i h st c hc => by
    obtain ⟨hz, hTI, ⟨a, b, hTO⟩, ⟨o1, m1, _, d1⟩, ⟨o2, m2, _, d2⟩⟩ := st
    have q : c = z ∨ c = TI ∨ c = TO ∨ c = i1 ∨ c = i2 := by simpa using hc
    rcases q with q | q | q | q | q
    all_goals rw [q]
    · exact ⟨_, hz, fun v q => nomatch q⟩
    · exact ⟨_, hTI, fun v q => nomatch q⟩
    · exact ⟨_, hTO, fun v q => nomatch q⟩
    · exact ⟨o1, m1, fun v q => by rw [d1] at q; cases q⟩
    · exact ⟨o2, m2, fun v q => by rw [d2] at q; cases q⟩
  keep := fun i h h' st k => by
    obtain ⟨hz, hTI, ⟨a, b, hTO⟩, ⟨o1, m1, r1⟩, ⟨o2, m2, r2⟩⟩ := st
    exact ⟨k z (by simp) _ hz, k TI (by simp) _ hTI, ⟨a, b, k TO (by simp) _ hTO⟩, ⟨o1, k i1 (by simp) _ m1, r1⟩, ⟨o2, k i2 (by simp) _ m2, r2⟩⟩
  item := by
    intro X hP hw hK hc i pins s σ H E I hf st hg
    subst hP hw hK
    obtain ⟨hz, hTI, ⟨a0, b0, hTO⟩, h1, h2⟩ := st
    obtain ⟨g1, ys, v, hys, hv⟩ := hg
    obtain ⟨its, rv, p, _⟩ := I.list hys
    obtain ⟨uv, huv, ruv⟩ := rv.get hv
    have lv := lt5 ⟨_, hz⟩ ⟨_, hTI⟩ ⟨_, hTO⟩ (let ⟨o, e, _⟩ := h1; ⟨o, e⟩) (let ⟨o, e, _⟩ := h2; ⟨o, e⟩)
    have hh : X.A.in1.handled = none := I.ok.hd hc
    have g2 : i < its.toArray.size := by
      have q := (List.getElem?_eq_some_iff.mp huv).1
      simpa using q
    refine wpAny_pyNext_zipD2_item (D.sl n1 n2 n3) (Draws.text hh i1 x t) (Draws.list hh i2 a n4 its.toArray) hz hTI hTO h1 ⟨h2, p.isList⟩ g1 g2 fun v1 v2 h' tk y1 y2 z' TO' h1' h2' hT hsz hk => ?_
    obtain ⟨c, u1, ec, rfl⟩ := y1
    have ev : v2 = uv := by
      have q : its[i]? = some v2 := by simpa using y2
      rw [huv] at q
      exact (Option.some.inj q).symm
    subst ev
    refine ⟨_, rfl, wpAny_letOwnedTupleGo_zip (s := { s with heap := h', toks := tk }) z' fun h'' z'' sb => ?_⟩
    have nz : z ≠ s.heap.objs.size := Nat.ne_of_lt (lv z (by simp))
    have hT2 : h''.get? s.heap.objs.size = some { cls := .type "tuple", data := .seq #[.str ⟨#[c]⟩ u1, v2] } := (sb.2 _ nz.symm).trans hT
    have new : ObjOk X.prog X.w (upd H s.heap.objs.size (.tup [.str ⟨#[c]⟩, v])) h'' s.heap.objs.size (.tup [.str ⟨#[c]⟩, v]) :=
      ⟨by show 2 ≤ sizeLine; decide, _, .cons ⟨u1, rfl⟩ (.cons ruv .nil), ⟨_, hT2, rfl, _, rfl⟩⟩
    have I1 : Inv X pins σ (upd H s.heap.objs.size (.tup [.str ⟨#[c]⟩, v])) { s with heap := h'', toks := tk } :=
      I.turnedNew (ch := [z, TI, TO, i1, i2]) (fun b o hb q => (sb.2 b fun e => hb (by simp [e])).trans (hk b o (fun e => hb (by simp [e])) (fun e => hb (by simp [e])) (fun e => hb (by simp [e])) (fun e => hb (by simp [e])) q)) hf (Nat.le_refl _) new
    refine ⟨.ref s.heap.objs.size, _, I1, rfl, ⟨_, c, v, rfl, I.hok.fresh (Nat.le_refl _), rfl, ec, fun l hl => by rw [I.list_inj hl hys]; exact hv⟩, ⟨z'', ?_, ⟨_, _, (sb.2 _ D.e2).trans TO'⟩, ?_, ?_⟩, fun b hb => ?_⟩
    · exact (sb.2 _ D.e1).trans (hk _ _ D.e1 D.e5 D.e6 D.e7 hTI)
    · obtain ⟨o, e, r⟩ := h1'
      exact ⟨o, (sb.2 _ D.e3).trans e, r⟩
    · obtain ⟨⟨o, e, r⟩, _⟩ := h2'
      exact ⟨o, (sb.2 _ D.e4).trans e, r⟩
    · rw [upd_ne (Nat.ne_of_lt (lv b hb))]
      exact (hf b hb).1
  done := by
    intro X hP hw hK hc i pins s σ H E I hf st hg
    subst hP hw hK
    obtain ⟨hz, hTI, ⟨a0, b0, hTO⟩, h1, h2⟩ := st
    obtain ⟨ys, hys, g1, g2, g3⟩ := hg
    obtain ⟨its, rv, p, _⟩ := I.list hys
    have hl := rv.length
    have hh : X.A.in1.handled = none := I.ok.hd hc
    exact wpAny_pyNext_zipD2_end (D.sl n1 n2 n3) (Draws.text hh i1 x t) (Draws.list hh i2 a n4 its.toArray) hz hTI hTO h1 ⟨h2, p.isList⟩ g1 (by simp; omega) (by simp; omega) fun h' tk hk => ⟨rfl, I.turnedL (t' := tk) (ch := [z, TI, TO, i1, i2]) (fun b o hb q =>
      hk b o (fun e => hb (by simp [e])) (fun e => hb (by simp [e])) (fun e => hb (by simp [e])) (fun e => hb (by simp [e])) q) hf⟩
  self := fun A i s Q E st h => wpAny_pyIter_zip st.1 h
/-- zip(text, text | list) -/
def iZs (K : PySem.W.Frag) (ta : TA) : TI := fun σ H R => ta σ H fun vs H1 => ∃ (x : Str) (v : V), vs = [.str x, v] ∧ ((∃ y, v = .str y ∧ R (Jss x y) H1) ∨ ∃ a ys, v = .ref a ∧ SqL K H1 a ys ∧ R (Jsl K x a) H1)
theorem pi_zs {X : Cx} {e e2 : Expr} {ta : TA} {p pos tpos : Pos} {elts : List Expr} {kk : Nat} (hg : Gl X "zip") (hm : X.mg "zip" = none) (ha : PA X [e, e2] ta)
    (hs : starEach [e, e2] X.env = (false, eval e X.env) :: starEach [e2] X.env := by rfl) (hpl : (backTo pos (starEach [e2] X.env)).any (·.1) = false := by rfl) :
    PI X (.Tuple elts kk tpos) (.Call (.Name "zip" p) [e, e2] [] pos) (iZs X.K ta) := by
  refine ⟨fun pins s σ H R I h => Call_ (ld_blt I hg hm PyProof.Rows.boot_zip (PyProof.Rows.callWith_type1 (thn (ha.run pos pins s σ H _ I h) fun us s1 ⟨vs, H1, I1, r1, q1⟩ => ?_) hs hpl))⟩
  obtain ⟨x, v, rfl, q1⟩ := q1
  cases r1 with
  | cons r rr =>
    cases rr with
    | cons r' rr =>
      cases rr
      obtain ⟨t, rfl⟩ := r
      rcases q1 with ⟨y, rfl, q⟩ | ⟨a, ys, rfl, hq, q⟩
      · obtain ⟨u, rfl⟩ := r'
        refine zip_begins2 (begins_text x t) (begins_text y u) trivial trivial fun h' hz hTI hTO h1 h2 hsz hk => wpAny_pyIter_zip hz ?_
        have I2 : Inv X pins σ H1 { s1 with heap := h' } := I1.kept (t' := s1.toks) hk
        exact ⟨s1.heap.objs.size + 4, [s1.heap.objs.size + 4, s1.heap.objs.size + 2, s1.heap.objs.size + 3, s1.heap.objs.size, s1.heap.objs.size + 1], _, _, H1, rfl, I2, turn_ss (t := t) (u := u) (apt _), ⟨hz, hTI, ⟨_, _, hTO⟩, ⟨_, h1, rfl, rfl⟩, ⟨_, h2, rfl, rfl⟩⟩,
          fun c hc => I1.fpOk (five hc) (I1.hok.fresh (five hc)), q⟩
      · obtain rfl : _ = Value.ref a := r'
        obtain ⟨its, rv, p1, _⟩ := I1.list hq
        have la : a < s1.heap.objs.size := p1.lt
        refine zip_begins2 (begins_text x t) (begins_list a its.toArray) trivial p1.isList fun h' hz hTI hTO h1 h2 hsz hk => wpAny_pyIter_zip hz ?_
        have I2 : Inv X pins σ H1 { s1 with heap := h' } := I1.kept (t' := s1.toks) hk
        exact ⟨s1.heap.objs.size + 4, [s1.heap.objs.size + 4, s1.heap.objs.size + 2, s1.heap.objs.size + 3, s1.heap.objs.size, s1.heap.objs.size + 1], _, _, H1, rfl, I2,
          turn_sl (t := t) (apt _) (ltn la 4) (ltn la 3) (ltn la 0) (ltn la 1), ⟨hz, hTI, ⟨_, _, hTO⟩, ⟨_, h1, rfl, rfl⟩, ⟨_, h2, rfl, rfl⟩⟩,
          fun c hc => I1.fpOk (five hc) (I1.hok.fresh (five hc)), q⟩
/-- enumerate(text): each sign with its place in a new pair -/
def Jes (x : Str) : It :=
  ⟨fun i _ => i < x.cps.size, fun i H v H' => ∃ T c, v = .ref T ∧ H T = none ∧ H' = upd H T (.tup [.int (i : Nat), .str ⟨#[c]⟩]) ∧ x.cps[i]? = some c, fun i _ => i = x.cps.size⟩
theorem turn_es {P : Program} {w : World} {K : PySem.W.Frag} {elts : List Expr} {kk : Nat} {tpos : Pos} (x : Str) (t : Tok) (e it : Addr) (hne : e ≠ it) :
    Turn P w K (.Tuple elts kk tpos) (Jes x) [e, it] e (fun i h => (∃ old, IsEnum h e it ((i : Nat) : Int) old) ∧ h.IsStrIter it (strIterType x) x t i) where
  mem := by simp
  obj := fun i h st b hb => by
    obtain ⟨⟨old, he⟩, ⟨o, ho, hc, hd⟩⟩ := st
    have q : b = e ∨ b = it := by simpa using hb
    rcases q with q | q
    all_goals rw [q]
    · exact ⟨_, he, fun v q => nomatch q⟩
    · exact ⟨o, ho, fun v q => by rw [hd] at q; cases q⟩
  keep := fun i h h' st k => let ⟨⟨old, he⟩, ⟨o, ho, r⟩⟩ := st; ⟨⟨old, k e (by simp) _ he⟩, ⟨o, k it (by simp) _ ho, r⟩⟩
  item := by
    intro X hP hw hK hc i pins s σ H E I hf st hg
    subst hP hw hK
    obtain ⟨⟨old, he⟩, hit⟩ := st
    have hel : e < s.heap.objs.size := Heap.lt_size he
    have hil : it < s.heap.objs.size := by obtain ⟨_, q, _⟩ := hit; exact Heap.lt_size q
    have hh : X.A.in1.handled = none := I.ok.hd hc
    refine wpAny_pyNext_enum_itemD (Draws.text hh it x t) he hit hg hne (fun q => hne (List.mem_singleton.mp q)) fun v h' tk hv ho hit' hT hsz hk => ?_
    obtain ⟨c, u, ec, rfl⟩ := hv
    refine ⟨_, rfl, wpAny_letOwnedTupleGo_enum (s := { s with heap := h', toks := tk + 1 }) ho fun h'' he' sb => ?_⟩
    have hT2 : h''.get? s.heap.objs.size = some { cls := .type "tuple", data := .seq #[.int i tk, .str ⟨#[c]⟩ u] } := (sb.2 _ (Nat.ne_of_gt hel)).trans hT
    have new : ObjOk X.prog X.w (upd H s.heap.objs.size (.tup [.int (i : Nat), .str ⟨#[c]⟩])) h'' s.heap.objs.size (.tup [.int (i : Nat), .str ⟨#[c]⟩]) :=
      ⟨by show 2 ≤ sizeLine; decide, _, .cons ⟨tk, rfl⟩ (.cons ⟨u, rfl⟩ .nil), ⟨_, hT2, rfl, _, rfl⟩⟩
    have I1 : Inv X pins σ (upd H s.heap.objs.size (.tup [.int (i : Nat), .str ⟨#[c]⟩])) { s with heap := h'', toks := tk + 1 } :=
      I.turnedNew (ch := [e, it]) (fun b ob hb q => (sb.2 b fun z => hb (by simp [z])).trans (hk b ob (fun z => hb (by simp [z])) (fun z => hb (by simp [z])) q)) hf (Nat.le_refl _) new
    refine ⟨.ref s.heap.objs.size, _, I1, rfl, ⟨_, c, rfl, I.hok.fresh (Nat.le_refl _), rfl, ec⟩, ⟨⟨.str ⟨#[c]⟩ u, ?_⟩, ?_⟩, fun b hb => ?_⟩
    · have e1 : ((i + 1 : Nat) : Int) = (i : Int) + 1 := by omega
      rw [e1]; exact he'
    · obtain ⟨o, q, r⟩ := hit'
      exact ⟨o, (sb.2 it hne.symm).trans q, r⟩
    · have hb' : b < s.heap.objs.size := by
        have q : b = e ∨ b = it := by simpa using hb
        rcases q with q | q <;> (rw [q]; assumption)
      rw [upd_ne (Nat.ne_of_lt hb')]
      exact (hf b hb).1
  done := by
    intro X hP hw hK hc i pins s σ H E I hf st hg
    subst hP hw hK
    obtain ⟨⟨old, he⟩, hit⟩ := st
    obtain ⟨f0, f1, f2, f3, f4, f5⟩ := hf it (by simp)
    have hh : X.A.in1.handled = none := I.ok.hd hc
    have hi : i = x.cps.size := hg
    subst hi
    exact wpAny_pyNext_enum_endD (Draws.text hh it x t) he hit fun h' eb => ⟨rfl, I.turned (t' := s.toks) (fun b o hb q => eb b o hb q) f0 f1 f3 f4 f5⟩
  self := fun A i s Q E st h => let ⟨⟨_, he⟩, _⟩ := st; wpAny_pyIter_enum he h
def iEs (ta : TA) : TI := fun σ H R => ta σ H fun vs H1 => ∃ x, vs = [.str x] ∧ R (Jes x) H1
theorem pi_es {X : Cx} {e : Expr} {ta : TA} {p pos tpos : Pos} {elts : List Expr} {kk : Nat} (hg : Gl X "enumerate") (hm : X.mg "enumerate" = none) (ha : PA X [e] ta) (hs : starEach [e] X.env = [(false, eval e X.env)] := by rfl) :
    PI X (.Tuple elts kk tpos) (.Call (.Name "enumerate" p) [e] [] pos) (iEs ta) := by
  refine ⟨fun pins s σ H R I h => Call_ (ld_blt I hg hm boot_enumerate (PyProof.Rows.callWith_type1 (thn (ha.run pos pins s σ H _ I h) fun us s1 ⟨vs, H1, I1, r1, q1⟩ => ?_) hs rfl))⟩
  obtain ⟨x, rfl, q⟩ := q1
  cases r1 with
  | cons r rr =>
    cases rr
    obtain ⟨t, rfl⟩ := r
    refine call_enumerate_str fun h' he hit hsz hk => wpAny_pyIter_enum he ?_
    have I2 : Inv X pins σ H1 { s1 with heap := h' } := I1.kept (t' := s1.toks) hk
    refine ⟨s1.heap.objs.size + 1, [s1.heap.objs.size + 1, s1.heap.objs.size], _, _, H1, rfl, I2, turn_es x t (s1.heap.objs.size + 1) s1.heap.objs.size (Nat.succ_ne_self _), ⟨⟨.none, he⟩, hit⟩, fun b hb => ?_, q⟩
    have hle : s1.heap.objs.size ≤ b := by
      have q : b = s1.heap.objs.size + 1 ∨ b = s1.heap.objs.size := by simpa using hb
      rcases q with q | q
      · rw [q]; exact Nat.le_succ _
      · rw [q]; exact Nat.le_refl _
    exact I1.fpOk hle (I1.hok.fresh hle)
/-- list + list, wherever they stand -/
theorem op_catS {X : Cx} : OpR X (binaryOp .Add) (fun x y H Q => ∃ l b xs zs, x = .ref l ∧ y = .ref b ∧ SqL X.K H l xs ∧ SqL X.K H b zs ∧ xs.length + zs.length ≤ sizeLine ∧ ∀ p, H p = none → Q (.ref p) (upd H p (.lst (xs ++ zs)))) := by
  intro pins s σ H x y v u Q I rx ry h
  obtain ⟨l, b, xs, zs, rfl, rfl, hH, hB, hz, q⟩ := h
  cases rx
  cases ry
  obtain ⟨i1, r1, p1, _⟩ := I.list hH
  obtain ⟨i2, r2, p2, _⟩ := I.list hB
  obtain ⟨⟨c1, a1, t1, s1⟩, ho1, hc1, n1, hd1⟩ := p1.isList
  obtain ⟨⟨c2, a2, t2, s2⟩, ho2, hc2, n2, hd2⟩ := p2.isList
  simp only at hc1 hd1 hc2 hd2
  subst hc1 hd1 hc2 hd2
  have l1 := r1.length
  have l2 := r2.length
  refine concat_meets ⟨_, ho1, rfl⟩ ⟨_, ho2, rfl⟩ noFill_list_add seq_list_add PySem.F.slot_list_add PySem.F.entry_list_add (PySem.F.args_list_add_2 _ _) (list_addW l b i1.toArray i2.toArray n1 n2 a1 a2 s1 s2 (by simp; omega)) ⟨ho1, ho2, ?_⟩
  rw [show i1.toArray ++ i2.toArray = (i1 ++ i2).toArray by simp]
  exact ⟨.ref _, _, I.lnew (t' := s.toks) (r1.append r2) (by rw [List.length_append]; omega), rfl, q _ I.fresh⟩
/-! ### their walks -/
theorem walk_ss {x y : Str} : Walk (Jss x y) (min x.cps.size y.cps.size) (fun _ => True)
    (fun i H v H' => ∃ T c d, v = .ref T ∧ H T = none ∧ H' = upd H T (.tup [.str ⟨#[c]⟩, .str ⟨#[d]⟩]) ∧ x.cps[i]? = some c ∧ y.cps[i]? = some d) :=
  ⟨fun i _ hi _ => ⟨by omega, by omega⟩, fun _ _ => ⟨by omega, by omega, by omega⟩, fun _ _ _ _ _ _ y => y⟩
theorem walk_sl {K : PySem.W.Frag} {x : Str} {a : Addr} {ys : List V} : Walk (Jsl K x a) (min x.cps.size ys.length) (fun H => SqL K H a ys)
    (fun i H v H' => ∃ T c y, v = .ref T ∧ H T = none ∧ H' = upd H T (.tup [.str ⟨#[c]⟩, y]) ∧ x.cps[i]? = some c ∧ ys[i]? = some y) := by
  refine ⟨fun i H hi q => ⟨by omega, ys, ys[i]'(by omega), q, by simp [show i < ys.length by omega]⟩, fun H q => ⟨ys, q, by omega, by omega, by omega⟩, fun i H v H' hi q y => ?_⟩
  obtain ⟨T, c, y, h1, h2, h3, h4, h5⟩ := y
  exact ⟨T, c, y, h1, h2, h3, h4, h5 ys q⟩
theorem walk_es {x : Str} : Walk (Jes x) x.cps.size (fun _ => True) (fun i H v H' => ∃ T c, v = .ref T ∧ H T = none ∧ H' = upd H T (.tup [.int (i : Nat), .str ⟨#[c]⟩]) ∧ x.cps[i]? = some c) :=
  ⟨fun _ _ hi _ => hi, fun _ _ => rfl, fun _ _ _ _ _ _ y => y⟩
end Ms

set_option Elab.async false
set_option linter.all false
set_option maxRecDepth 100000
set_option maxHeartbeats 4000000
/-! set(a text), its size. -/
namespace PySem
namespace St
open PyProof.Rows
def add1 (σ : List Nat) (c : Nat) : List Nat := if c ∈ σ then σ else σ ++ [c]
/-- the signs of a list, each once -/
def once (l : List Nat) : List Nat := l.foldl add1 []
theorem once_next (l : List Nat) (c : Nat) : once (l ++ [c]) = add1 (once l) c := by
  unfold once
  rw [List.foldl_append]
  rfl
theorem mem_add1 {σ : List Nat} {c d : Nat} : d ∈ add1 σ c ↔ d ∈ σ ∨ d = c := by
  unfold add1
  by_cases h : c ∈ σ
  · rw [if_pos h]
    exact ⟨.inl, fun q => q.elim id fun e => e ▸ h⟩
  · rw [if_neg h, List.mem_append, List.mem_singleton]
theorem len_add1 (σ : List Nat) (c : Nat) : (add1 σ c).length = if c ∈ σ then σ.length else σ.length + 1 := by
  unfold add1
  split
  · rfl
  · rw [List.length_append, List.length_singleton]
theorem fold_len : ∀ (l σ : List Nat), (l.foldl add1 σ).length ≤ σ.length + l.length ∧ (σ.Nodup → ((l.foldl add1 σ).length = σ.length + l.length ↔ (σ ++ l).Nodup))
  | [], σ => by simp
  | c :: r, σ => by
    obtain ⟨h1, h2⟩ := fold_len r (add1 σ c)
    show (r.foldl add1 (add1 σ c)).length ≤ σ.length + (r.length + 1) ∧ _
    by_cases h : c ∈ σ
    · have e : add1 σ c = σ := if_pos h
      rw [e] at h1 h2
      refine ⟨by rw [e]; omega, fun nd => ⟨fun q => ?_, fun q => ?_⟩⟩
      · have q' : (r.foldl add1 (add1 σ c)).length = σ.length + (r.length + 1) := q
        rw [e] at q'
        omega
      · exact absurd rfl ((List.nodup_append.mp q).2.2 c h c (List.mem_cons_self ..))
    · have e : add1 σ c = σ ++ [c] := if_neg h
      rw [e] at h1 h2
      rw [List.length_append, List.length_singleton] at h1 h2
      refine ⟨by rw [e]; omega, fun nd => ?_⟩
      have nd2 : (σ ++ [c]).Nodup := List.nodup_append.mpr ⟨nd, List.nodup_cons.mpr ⟨List.not_mem_nil, List.nodup_nil⟩, fun a ha b hb z => h (by rw [List.mem_singleton.mp hb] at z; rw [← z]; exact ha)⟩
      have q := h2 nd2
      rw [List.append_assoc] at q
      show (r.foldl add1 (add1 σ c)).length = σ.length + (r.length + 1) ↔ _
      rw [e, show σ.length + (r.length + 1) = σ.length + 1 + r.length by omega]
      exact q
theorem once_len (l : List Nat) : (once l).length ≤ l.length ∧ ((once l).length = l.length ↔ l.Nodup) := by
  obtain ⟨h1, h2⟩ := fold_len l []
  have q := h2 List.nodup_nil
  rw [List.length_nil, Nat.zero_add] at h1 q
  rw [List.nil_append] at q
  exact ⟨h1, q⟩
def one (c : Nat) : Str := ⟨#[c]⟩
theorem one_inj {c d : Nat} (h : one c = one d) : c = d := by
  have e := congrArg (fun y : Str => y.cps.toList) h
  exact (List.cons.inj e).1
/-- which keys stand in the set behind such signs -/
def has (σ : List Nat) (k : Str) : Bool := σ.any fun c => decide (k = one c)
theorem has_iff {σ : List Nat} {k : Str} : has σ k = true ↔ ∃ c ∈ σ, k = one c := by
  unfold has
  rw [List.any_eq_true]
  exact ⟨fun ⟨c, h, e⟩ => ⟨c, h, of_decide_eq_true e⟩, fun ⟨c, h, e⟩ => ⟨c, h, decide_eq_true e⟩⟩
theorem has_one {σ : List Nat} {c : Nat} : has σ (one c) = decide (c ∈ σ) := by
  rw [Bool.eq_iff_iff, has_iff, decide_eq_true_iff]
  exact ⟨fun ⟨d, h, e⟩ => by rw [one_inj e]; exact h, fun h => ⟨c, h, rfl⟩⟩
theorem has_next (σ : List Nat) (c : Nat) (k : Str) : (has σ k || decide (k = one c)) = has (add1 σ c) k := by
  rw [Bool.eq_iff_iff, Bool.or_eq_true, has_iff, has_iff, decide_eq_true_iff]
  constructor
  · rintro (⟨d, h, e⟩ | e)
    · exact ⟨d, mem_add1.mpr (.inl h), e⟩
    · exact ⟨c, mem_add1.mpr (.inr rfl), e⟩
  · rintro ⟨d, h, e⟩
    rcases mem_add1.mp h with h | h
    · exact .inl ⟨d, h, e⟩
    · rw [h] at e
      exact .inr e
section
variable {prog : Program} {w : World} {A : Around} {R : Result → Shared → Prop}
theorem key_one (c : Nat) (u : Tok) : (strKind prog w).is (one c) (.str (one c) u) = true := by simp [strKind, Value.isStrOf]
/-- the signs of a text from place i on go into the set at S -/
theorem fill_loop {I S : Addr} {x : Str} {T : Nat → Heap → Prop} (W : Walks prog w A.in1 I [I] [I] x.cps.size (SignAt x) T) (hSI : S ≠ I) (hb : x.cps.size + 1 < scanBound) :
    ∀ (m i : Nat) (s : Shared), x.cps.size - i = m → i ≤ x.cps.size → T i s.heap → s.heap.SetOf (strKind prog w) S (has (once (x.cps.toList.take i))) (once (x.cps.toList.take i)).length →
      (∀ h' tk, (∀ b o, b ≠ S → b ≠ I → s.heap.get? b = some o → h'.get? b = some o) → h'.SetOf (strKind prog w) S (has (once x.cps.toList)) (once x.cps.toList).length → R (.ok (.ret .none)) { s with heap := h', toks := tk }) →
      codeAny (model prog w) A (.builtin "set.update.loop" ⟨[.ref S, .ref I], []⟩) R s
  | 0, i, s, hm, hi, hT, hS, hR => by
    have e : i = x.cps.size := by omega
    subst e
    have el : x.cps.toList.take x.cps.size = x.cps.toList := List.take_of_length_le (by simp)
    rw [el] at hS
    refine codeAny_builtin F.entry_set_update_loop ?_
    rw [Around.under_plainId F.plain_set_update_loop _]
    show wpAny _ A.in1 (pyNext (.ref I) >>= _) _ _ s
    refine wpAny_bind (W.done s _ _ hT fun h' tk kp => ?_)
    show wpAny _ A.in1 (ret Value.none) _ _ _
    refine wpAny_pure (hR h' tk (fun b o _ n e => kp b o (fun q => n (List.mem_singleton.mp q)) e) ?_)
    obtain ⟨o, es, ep, t, ho, rest⟩ := hS
    exact ⟨o, es, ep, t, kp S _ (fun q => hSI (List.mem_singleton.mp q)) ho, rest⟩
  | m + 1, i, s, hm, hi, hT, hS, hR => by
    have hlt : i < x.cps.size := by omega
    refine codeAny_builtin F.entry_set_update_loop ?_
    rw [Around.under_plainId F.plain_set_update_loop _]
    show wpAny _ A.in1 (pyNext (.ref I) >>= _) _ _ s
    refine wpAny_bind (W.item i s _ _ hlt hT fun v h' tk hv hT' kp => ?_)
    obtain ⟨c, u, hc, rfl⟩ := hv
    have hS2 : h'.SetOf (strKind prog w) S (has (once (x.cps.toList.take i))) (once (x.cps.toList.take i)).length := by
      obtain ⟨o, es, ep, t, ho, rest⟩ := hS
      exact ⟨o, es, ep, t, kp S _ (fun q => hSI (List.mem_singleton.mp q)) ho, rest⟩
    have hc' : x.cps.toList[i]? = some c := by simpa using hc
    have et : x.cps.toList.take (i + 1) = x.cps.toList.take i ++ [c] := by rw [List.take_add_one, hc']; rfl
    have hroom : (once (x.cps.toList.take i)).length + 1 < scanBound := by
      have q := (once_len (x.cps.toList.take i)).1
      rw [List.length_take] at q
      omega
    show wpAny _ A.in1 (holding [Value.str (one c) u] (setAdd S (.str (one c) u)) >>= _) _ _ _
    refine wpAny_bind (wpAny_holding ?_)
    unfold setAdd
    refine wpAny_holding (wpAny_bind ((strKind prog w).pyHash (k := one c) (key_one c u) ?_))
    refine wpAny_setAddHashed_of (knd := strKind prog w) (s := { s with heap := h', toks := tk + 1 }) (key_one c u) rfl hS2 hroom fun h2 sb hS3 => ?_
    have hS4 : h2.SetOf (strKind prog w) S (has (once (x.cps.toList.take (i + 1)))) (once (x.cps.toList.take (i + 1))).length := by
      have e1 : (fun k' => has (once (x.cps.toList.take i)) k' || decide (k' = one c)) = has (once (x.cps.toList.take (i + 1))) := by
        funext k'
        rw [et, once_next, has_next]
      have e2 : (if has (once (x.cps.toList.take i)) (one c) then (once (x.cps.toList.take i)).length else (once (x.cps.toList.take i)).length + 1) = (once (x.cps.toList.take (i + 1))).length := by
        rw [et, once_next, len_add1, has_one]
        by_cases q : c ∈ once (x.cps.toList.take i)
        · rw [decide_eq_true q, if_pos rfl, if_pos q]
        · rw [decide_eq_false q, if_neg Bool.false_ne_true, if_neg q]
      rw [e1, e2] at hS3
      exact hS3
    refine wpAny_pure ⟨plainId_quiet F.plain_set_update_loop _, fill_loop W hSI hb m (i + 1) _ (by omega) hlt (W.frame _ _ _ hT' fun b hbI o e => ?_) hS4 fun h3 tk3 kp3 hS5 => ?_⟩
    · rw [sb.2 b (fun q => hSI (by rw [← q]; exact List.mem_singleton.mp hbI))]
      exact e
    · refine hR h3 tk3 (fun b o n1 n2 e => kp3 b o n1 n2 ?_) hS5
      rw [sb.2 b n1]
      exact kp b o (fun q => n2 (List.mem_singleton.mp q)) e
end
namespace F2
theorem sub_str_set : isSubtype (.type "str") (.type "set") = pure false := by rw [isSubtype_type]; kernel_rfl
theorem sub_str_frozenset : isSubtype (.type "str") (.type "frozenset") = pure false := by rw [isSubtype_type]; kernel_rfl
end F2
section
variable {prog : Program} {w : World} {A : Around} {E : Value → Shared → Prop} {s : Shared}
theorem call_set_text {x : Str} {t : Tok} {Q : Value → Shared → Prop} (hh : A.handled = none) (hb : x.cps.size + 1 < scanBound)
    (hQ : ∀ (h' : Heap) (tk : Nat), h'.SetOf (strKind prog w) s.heap.objs.size (has (once x.cps.toList)) (once x.cps.toList).length → (∀ b o, s.heap.get? b = some o → h'.get? b = some o) → Q (.ref s.heap.objs.size) { s with heap := h', toks := tk }) :
    wpAny (model prog w) A (call (.type "set") [.str x t]) Q E s := by
  obtain ⟨c, tl, hmro⟩ := F.called_set.mro
  have hmade := F.called_set.made
  have hsub := F.called_set.sub
  refine wpAny_call (codeAny_of_tree ?_)
  show wpAny _ _ (callAny (.type "set") _) _ _ _
  refine wpAny_pure ⟨Code.quiet_builtin _ (by decide +kernel), codeAny_builtin F.entry_type_call ?_⟩
  rw [Around.under_plain (weight_type_call_type "set" [.str x t] []) rfl]
  have k1 := F.called_set.notType
  have k2 := F.called_set.canCreate
  have k3 := F.typeCall_set_1 (.str x t)
  repeat (any_goals (first | assumption | wp_step))
  refine codeAny_mono (code_set_new_1 (.str x t) (E := E) (Q₁ := fun obj s₁ => ∃ led : Bool, obj = .ref s.heap.objs.size ∧ s₁ = { s with heap := s.heap.push { cls := .type "set", dict := none, data := .set #[] 0 (.fresh 0 0 led) } }) fun led => ⟨led, rfl, rfl⟩) fun r s₁ hr => ?_
  cases r with
  | error e => exact hr
  | ok fl =>
    cases fl with
    | ret obj =>
      obtain ⟨led, rfl, rfl⟩ := hr
      generalize hnew : ({ cls := .type "set", dict := none, data := .set #[] 0 (.fresh 0 0 led) } : Obj) = nu
      have hfree : nu.isFreed = false := by rw [← hnew]; rfl
      have hS : (s.heap.push nu).get? s.heap.objs.size = some nu := Heap.get?_push_size _ hfree
      have hT : Shared.TypeIs { s with heap := s.heap.push nu } (.ref s.heap.objs.size) "set" := ⟨_, hS, by rw [← hnew]⟩
      have k4 := F.called_set.init.lookup
      have k5 := F.called_set.init.bind (.ref s.heap.objs.size)
      repeat (any_goals (first | assumption | wp_step))
      refine codeAny_mono (codeAny_call_builtin (R := wants (fun r s₂ => r = .none ∧ ∃ h' tk, s₂ = { s with heap := h', toks := tk } ∧ h'.SetOf (strKind prog w) s.heap.objs.size (has (once x.cps.toList)) (once x.cps.toList).length ∧
          (∀ b o, s.heap.get? b = some o → h'.get? b = some o)) E) F.called_set.init.plain F.entry_set_init (check_set_init_1 hT ?_)) fun r₂ s₂ hr₂ => ?_
      · have k6 := F2.sub_str_set
        have k7 := F2.sub_str_frozenset
        have k8 : (Value.type "str" == Value.type "dict") = false := by decide
        subst hnew
        unfold Builtin.«set.__init__» noKeywords Builtin.Frozenset.updateFrom
        generalize hIt : pyIter = It
        wp_walk
        subst hIt
        refine wpAny_pyIter_str fun o T W h0 => ?_
        refine wpAny_bind (wpAny_runValue ?_)
        have ne : s.heap.objs.size ≠ (s.heap.push { cls := .type "set", dict := none, data := .set #[] 0 (.fresh 0 0 led) }).objs.size := by
          rw [Heap.size_push]
          exact Nat.ne_of_lt (Nat.lt_succ_self _)
        refine fill_loop (W _ (by simp [hh])) ne hb (x.cps.size - 0) 0 _ (by omega) (Nat.zero_le _) h0 ?hS0 ?hR
        case hS0 =>
          have g0 : ((s.heap.push { cls := .type "set", dict := none, data := .set #[] 0 (.fresh 0 0 led) }).push o).get? s.heap.objs.size = some { cls := .type "set", dict := none, data := .set #[] 0 (.fresh 0 0 led) } := Heap.get?_push_of_some _ hS
          exact SetOf_congr ((setObjOf_fresh (knd := strKind prog w) led).setOf g0 (by unfold scanBound; omega)) (fun _ => rfl) rfl
        case hR =>
          intro h' tk' kp hS'
          show wpAny _ _ _ _ _ _
          refine wpAny_pure ?_
          show wpAny _ _ (ret Value.none) _ _ _
          refine wpAny_pure ⟨rfl, h', tk', rfl, hS', fun b o e => ?_⟩
          have lb := Heap.lt_size e
          refine kp b _ (Nat.ne_of_lt lb) ?_ (Heap.get?_push_of_some _ (Heap.get?_push_of_some _ e))
          rw [Heap.size_push]
          exact Nat.ne_of_lt (Nat.lt_succ_of_lt lb)
      · cases r₂ with
        | error e => exact hr₂
        | ok fl₂ =>
          cases fl₂ with
          | ret r =>
            obtain ⟨rfl, h', tk, rfl, hS', hk'⟩ := hr₂
            repeat (any_goals (first | assumption | wp_step))
            exact hQ _ _ hS' hk'
          | _ => exact hr₂.elim
    | _ => exact hr.elim
end
end St
end PySem
namespace Ms
open PySem PySem.Spec PyProof.Rows L2
/-- len(set(text)) -/
def tLst (ta : TE) : TE := fun σ H Q => ta σ H fun x H1 => ∃ z : Str, x = .str z ∧ z.length ≤ 4000 ∧ ∀ m : Nat, m ≤ z.length → (m = z.length ↔ z.cps.toList.Nodup) → Q (.int m) H1
theorem pe_lst_set {X : Cx} {a : Expr} {ta : TE} {p p2 q pos : Pos} (hg : Gl X "len") (hm : X.mg "len" = none) (hg2 : Gl X "set") (hm2 : X.mg "set" = none) (ha : PE X a ta) (hc : X.calm = true := by rfl)
    (na : starEach [a] X.env = (false, eval a X.env) :: starEach [] X.env := by rfl) : PE X (.Call (.Name "len" p) [.Call (.Name "set" p2) [a] [] q] [] pos) (tLst ta) := by
  refine ⟨fun pins s σ H Q I h => Call_ (ld_blt I hg hm boot_len ?_)⟩
  refine PyProof.Rows.callWith_builtin1 (PyProof.Rows.args_cons ?_ rfl) rfl rfl
  refine Call_ (ld_blt I hg2 hm2 boot_set ?_)
  refine PyProof.Rows.callWith_type1 (PyProof.Rows.args_cons (thn (ha.run pins s σ H _ I h) fun v s1 ⟨x, H1, I1, r1, q1⟩ => PyProof.Rows.args_nil ?_) na) na rfl
  obtain ⟨z, rfl, hz, q1⟩ := q1
  obtain ⟨t, rfl⟩ := r1
  have ez : z.cps.size = z.length := rfl
  refine PySem.St.call_set_text (I1.ok.hd hc) (by rw [ez]; unfold scanBound; omega) fun h' tk hS hk => PyProof.Rows.args_nil ?_
  obtain ⟨o, es, ep, tb, ho, hex, hd, _, _, _, hf, hn⟩ := hS
  have I2 : Inv X pins σ H1 { s1 with heap := h', toks := tk } := I1.kept hk
  obtain ⟨l1, l2⟩ := PySem.St.once_len z.cps.toList
  have el : z.cps.toList.length = z.length := by simp [Str.length]
  rw [el] at l1 l2
  exact call_len_set ho hex hd hf (by rw [hn]; omega) ⟨.int (PySem.St.once z.cps.toList).length, H1, I2.tok _, ⟨_, by rw [hn]⟩, q1 _ l1 l2⟩
end Ms

set_option Elab.async false
set_option linter.all false
set_option maxRecDepth 100000
set_option maxHeartbeats 4000000
/-! An own exception whose __init__ says super().__init__(a text) and then keeps its one field. -/
namespace PySem
namespace Sx
open PySem.W PySem.Calls PyProof.Rows PySem.HandSPX
def iA (fld : Str) (p1 p2 : Pos) : Arguments := { posonlyargs := [], args := [{ arg := "self", annotation := none, pos := p1 }, { arg := fld, annotation := none, pos := p2 }], vararg := none, kwonlyargs := [], kw_defaults := [], kwarg := none, defaults := [] }
def iB (fld msg : Str) (p0 p1 p2 p3 p4 p5 q1 q2 q3 q4 : Pos) (j : Nat) : List Stmt :=
  [.Expr (.Call (.Attribute (.Call (.Name "super" p0) [] [] p1) "__init__" p2) [.Constant (.str msg) j p3] [] p4) p5, .Assign [.Attribute (.Name "self" q1) fld q2] (.Name fld q3) q4]
def iS (fld : Str) : Scope := { kind := .function, names := [(PySem.Str.ofString "self", .local), (fld, .local), (PySem.Str.ofString "__class__", .free), (PySem.Str.ofString "super", .globalImplicit)], isGenerator := false, isCoroutine := false, more := [] }
abbrev iF (fld msg qual : Str) (p1 p2 : Pos) (c0 c1 c2 c3 c4 c5 q1 q2 q3 q4 : Pos) (j : Nat) (doc pm : Value) (an : Option Addr) (cda : Addr) (ct : Value) (cc : Addr) : FuncData :=
  ksFn "__init__" qual (iA fld p1 p2) (iB fld msg c0 c1 c2 c3 c4 c5 q1 q2 q3 q4 j) (iS fld) .none .none doc pm an (.ref cda) ct cc
/-- what the written part says of the class nm, at C, and of its __init__, at fI -/
structure Txt (prog : Program) (K : Frag) (mg : Str → Option Value) (nm fld : Str) (C fI : Addr) : Prop where
  gC : mg nm = some (.ref C)
  cls : ∃ nm q N bs bm sn sub ab col dd k0 k1 k2 k3 k5, K.lookup C = some (excClassObj nm q C N bs bm true sn sub ab col dd k0 k1 k2 k3 k5 "ValueError.__new__") ∧ refsVE bm = true ∧ alongIn K "__init__" bm = some (some (.builtin "ValueError.__init__"))
  sa : findIn K (.ref C) "__setattr__" = some (some (.builtin "object.__setattr__"))
  ga : findIn K (.ref C) "__getattribute__" = some (some (.builtin "BaseException.__getattribute__"))
  gg : findIn K (.ref C) "__getattr__" = some none
  noN : findIn K (.ref C) fld = some none
  iC : findIn K (.ref C) "__init__" = some (some (.ref fI))
  tC : typeIn K (.ref fI) = some (.type "function")
  kC : keepIn K (.ref C) = true
  exC : subIn K (.ref C) (.type "BaseException") = some true
  vaC : subIn K (.ref C) (.type "ValueError") = some true
  meC : mroIn K C (.ref C) = some true
  tyC : typeIn K (.ref C) = some (.type "type")
  hdC : hasDictIn K C = true
  te : exmOne K (.ref C) (.ref C) = some true
  opq : nsIn K cStatics "thirdparty.any" = some none
  sup : mg "super" = none
  top : (prog.main.scope.names.lookup ("super" : Str)).isSome = false
  fne : (("self" : Str) == fld) = false
  fks : (iS fld).names.lookup ("super" : Str) = some .globalImplicit
  fkc : (iS fld).names.lookup ("__class__" : Str) = some .free
  fdb : (fld == ("__debug__" : Str)) = false
  fn : ∃ (qual msg : Str) (oc : Value) (od : Option Addr) (doc pm : Value) (an : Option Addr) (ct : Value) (osl : Array (Option Value)) (p1 p2 c0 c1 c2 c3 c4 c5 q1 q2 q3 q4 : Pos) (j : Nat) (cda cc : Addr) (ccl : Value) (cdd : Option Addr) (vs : Array Value) (ccs : Array (Option Value))
      (cl : Value) (cld : Option Addr) (csl : Array (Option Value)) (file : Str) (tf : Tok),
    K.lookup fI = some ⟨oc, od, .func (iF fld msg qual p1 p2 c0 c1 c2 c3 c4 c5 q1 q2 q3 q4 j doc pm an cda ct cc), osl⟩ ∧ codeIn K (.ref cda) qual = true ∧
    K.lookup cda = some ⟨ccl, cdd, .fields vs, ccs⟩ ∧ vs[2]? = some (.str file tf) ∧ ((prog.main.file : Str) == file) = true ∧ K.lookup cc = some ⟨cl, cld, .cell (some (.ref C)), csl⟩ ∧
    (∀ (s : Shared) (x v : Value), BindsTo s (iF fld msg qual p1 p2 c0 c1 c2 c3 c4 c5 q1 q2 q3 q4 j doc pm an cda ct cc) ⟨[x, v], []⟩ [("self", x), (fld, v)]) ∧
    ∃ pl : Sem Bool, ∀ L : Addr, eval (.Call (.Attribute (.Call (.Name "super" c0) [] [] c1) "__init__" c2) [.Constant (.str msg) j c3] [] c4) (callEnv (iF fld msg qual p1 p2 c0 c1 c2 c3 c4 c5 q1 q2 q3 q4 j doc pm an cda ct cc) L fI) = (do
      let ov ← attributeBase (.Call (.Name "super" c0) [] [] c1) "__init__" (callEnv (iF fld msg qual p1 p2 c0 c1 c2 c3 c4 c5 q1 q2 q3 q4 j doc pm an cda ct cc) L fI) (eval (.Call (.Name "super" c0) [] [] c1) (callEnv (iF fld msg qual p1 p2 c0 c1 c2 c3 c4 c5 q1 q2 q3 q4 j doc pm an cda ct cc) L fI))
      standAt c2.atName
      let (f, first) ← holding [ov] (getMethod ov "__init__" pl)
      callWith c4 f first (backTo c4 (starEach [.Constant (.str msg) j c3] (callEnv (iF fld msg qual p1 p2 c0 c1 c2 c3 c4 c5 q1 q2 q3 q4 j doc pm an cda ct cc) L fI))) [])
/-- what __init__ leaves of a fresh exception at x -/
structure End (fld : Str) (h h' : Heap) (x C dx t1 : Addr) (v : Value) : Prop where
  keep : ∀ b o, b ≠ x → h.get? b = some o → h'.get? b = some o
  obj : h'.get? x = some { cls := .ref C, dict := some dx, data := .fields #[.ref t1, .none, .none, .none, .bool false, .none] }
  dbig : h.objs.size ≤ dx
  dne : dx ≠ x
  ns : h'.Ns1 dx (fun y => if y = fld then some v else none)
theorem iS_lk {fld : Str} (h : (("self" : Str) == fld) = false) : (iS fld).names.lookup fld = some .local := by
  have h2 : (fld == ("self" : Str)) = false := by rw [BEq.comm]; exact h
  show List.lookup fld _ = _
  simp [iS, List.lookup, h2]
section
variable {prog : Program} {w : World} {A : Around} {E : Value → Shared → Prop} {R : Result → Shared → Prop} {s : Shared} {K : Frag} {mg mb : Str → Option Value} {nm fld : Str} {C fI : Addr}
theorem ex_init (T : Txt prog K mg nm fld C fI) {x t0 : Addr} {v : Value} (X : K.In s.heap) (hg : s.heap.Ns mainGlobals mg) (hb : s.heap.Ns builtinsNs mb) (hbs : mb "super" = some (.type "super")) (hlim : s.heap.NoLimit) (hx : s.heap.get? x = some (excO C t0)) (hxN : K.lookup x = none) (hroom : A.depth < recursionLimit)
    (hq : ∀ h' tk dx t1, End fld s.heap h' x C dx t1 v → R (.ok (.ret .none)) { s with heap := h', toks := tk }) :
    codeAny (model prog w) A (.call (.ref fI) ⟨[.ref x, v], []⟩) R s := by
  obtain ⟨qual, msg, oc, od, doc, pm, an, ct, osl, p1, p2, c0, c1, c2, c3, c4, c5, q1, q2, q3, q4, j, cda, cc, ccl, cdd, vs, ccs, cl, cld, csl, file, tf, ho, hcd, hco, hvs, hfile, hcell, hbind, pl, hev⟩ := T.fn
  obtain ⟨nm', q, N, bs, bm, sn, sub, ab, col, dd, k0, k1, k2, k3, k5, hC, hbm, hal⟩ := T.cls
  have hcl : clsIn K C = some { name := nm', bases := bs, mro := .ref C :: bm, ns := N, qualname := q, hasDict := true, slotNames := sn, subclasses := sub, abstract := ab, collection := col, hasDel := false } := by unfold clsIn; rw [hC] <;> rfl
  have fl := iS_lk T.fne
  have hxC : x ≠ C := fun e => by
    have z := X _ _ hC
    rw [← e, hx] at z
    cases z
  refine ks_codeAny_call_defAt (fd := iF fld msg qual p1 p2 c0 c1 c2 c3 c4 c5 q1 q2 q3 q4 j doc pm an cda ct cc) (binds := [("self", .ref x), (fld, v)]) hroom (X _ _ ho) rfl hlim (codeRec_of X hcd) rfl (hbind _ _ _) ?_ ?_ (fun h₁ hns k => ?_) rfl rfl rfl
  · intro y hy
    have hy' : y = (PySem.Str.ofString "self", NameKind.local) ∨ y = (fld, NameKind.local) ∨ y = (PySem.Str.ofString "__class__", NameKind.free) ∨ y = (PySem.Str.ofString "super", NameKind.globalImplicit) := by simpa [iS] using hy
    rcases hy' with rfl | rfl | rfl | rfl <;> exact fun z => nomatch z
  · intro y hy
    have hy' : y = (("self" : Str), Value.ref x) ∨ y = (fld, v) := by simpa using hy
    rcases hy' with rfl | rfl
    · rfl
    · exact fl
  have X₁ : K.In h₁ := X.keeps k
  have hx₁ := k _ _ hx
  have hD : h₁.get? C = some (excClassObj nm' q C N bs bm true sn sub ab col dd k0 k1 k2 k3 k5 "ValueError.__new__") := X₁ _ _ hC
  have ms : (fun y => ([(("self" : Str), Value.ref x), (fld, v)] : List (Str × Value)).reverse.lookup y) "self" = some (.ref x) := by
    show List.lookup ("self" : Str) [(fld, v), (("self" : Str), Value.ref x)] = _
    simp [List.lookup, T.fne]
  have mf : (fun y => ([(("self" : Str), Value.ref x), (fld, v)] : List (Str × Value)).reverse.lookup y) fld = some v := by
    show List.lookup fld [(fld, v), (("self" : Str), Value.ref x)] = _
    simp [List.lookup]
  obtain ⟨hh, g, d, tk, os⟩ := s
  -- super().__init__(..)
  refine ks_wpAt_execs_cons (ks_wpAt_Expr_any (ks_wpAt_MethodCall ?_ (hev _)))
  refine ks_wpAt_super_base T.fks T.fkc rfl rfl (X₁ _ _ ho) rfl rfl rfl (X₁ _ _ hco) rfl hvs hfile T.top ?_
  refine ks_loadName_global rfl T.fks (loadGlobal_builtin (hg.keeps k) T.sup (hb.keeps k) hbs ⟨rfl, ?_⟩)
  refine wpAny_loadName_free rfl T.fkc rfl ⟨_, X₁ _ _ hcell, rfl⟩ ?_
  refine wpAny_loadName_local rfl rfl hns ms ?_
  refine ks_wpAny_isType_cls hD rfl ⟨rfl, ?_⟩
  refine ks_wpAny_call_super hD rfl hx₁ rfl (fun c z => nomatch z) (looks_mroIn X₁ T.meC) (fun h₂ e₂ k₂ => ?_)
  have X₂ : K.In h₂ := X₁.keeps k₂
  have hx₂ := k₂ _ _ hx₁
  have J₂ : InstAt h₂ x (excO C t0) C none := ⟨hx₂, rfl, rfl, trivial⟩
  refine kxs_getMethod kxs_ValueError e₂ (looks_opaque X₂ T.opq) (l₀ := .ref C :: bm) (fun A Q E s k q => wpAny_bind ((looks_clsIn X₂ hcl) A _ E s k (wpAny_pure q))) (l := bm) ?_ X₂ hal (J₂.type.andThen (looks_subIn X₂ T.vaC)) hxC (by decide) ?_
  · simp [List.dropWhile_cons]
  have eu : (h₂.push (kxs_mw "ValueError.__init__" x)).get? h₂.objs.size = some (kxs_mw "ValueError.__init__" x) := Heap.get?_push_at rfl rfl
  have kp : ∀ b o, h₂.get? b = some o → (h₂.push (kxs_mw "ValueError.__init__" x)).get? b = some o := fun b o e => Heap.get?_push_of_some _ e
  refine kxs_callWith (i := "ValueError.__init__") (x := x) rfl (evalArgs_plain (spliced_cons ?_))
  refine @Calls.Constant_str _ _ _ _ _ _ j c3 _ (wpAny_pure ⟨eu, ?_⟩)
  generalize h₂.objs.size = u at eu
  generalize h₂.push (kxs_mw "ValueError.__init__" x) = h₃ at eu kp
  have X₃ : K.In h₃ := X₂.keeps kp
  refine wpAny_call (codeAny_of_tree ?_)
  show wpAny _ _ (callAny (.ref u) ⟨_, []⟩) _ _ _
  simp only [callAny]
  refine wpAny_bind (wpAny_load eu ?_)
  simp only [kxs_mw, show (Value.type "method-wrapper" == Value.type "method" || Value.type "method-wrapper" == Value.type "builtin_function_or_method" || Value.type "method-wrapper" == Value.type "method-wrapper") = true by decide, if_true]
  refine KFB.if_so (by decide) ?_
  refine wpAny_bind (check_bound_init F.excBase_ValueError.toExcCallFacts (X₃ _ _ hC) (kp _ _ hx₂) rfl ?_)
  refine wpAny_bind (wpAny_pure (wpAny_pure ?_))
  refine ⟨plainId_quiet F.excBase_ValueError.init.plain _, codeAny_builtin F.excBase_ValueError.initEntry ?_⟩
  refine exc_init_tree (cls := .ref C) (t0 := t0) (dv := none) (c2 := .none) (c3 := .none) (b4 := .bool false) (kp _ _ hx₂) (by show 1 ≤ sizeLine; decide) fun h₄ k₄ hx₄ _ => ?_
  generalize h₃.objs.size = t1 at hx₄
  -- self.fld = fld
  have old : ∀ b o, b ≠ x → h₁.get? b = some o → h₄.get? b = some o := fun b o n e => k₄ b o n (kp _ _ (k₂ _ _ e))
  have hL : hh.objs.size ≠ x := Nat.ne_of_gt (Heap.lt_size hx)
  have X₄ : K.In h₄ := fun a o e => k₄ a o (fun z => by rw [z, hxN] at e; cases e) (X₃ _ _ e)
  have nsX : h₄.Ns hh.objs.size (fun y => ([(("self" : Str), Value.ref x), (fld, v)] : List (Str × Value)).reverse.lookup y) := by
    obtain ⟨oL, es, ep, e, r⟩ := hns
    exact ⟨oL, es, ep, old _ _ hL e, r⟩
  refine ks_wpAt_execs_cons (ks_wpAt_Assign_Attr (wpAt_of_wpAny (wpAny_Name (wpAny_loadName_local rfl fl nsX mf ?_) T.fdb)))
  refine wpAny_Name (wpAny_loadName_local rfl rfl nsX ms ?_) (by decide)
  refine set_plain X₄ (ox := excO C t1) (od := none) ⟨hx₄, rfl, rfl, trivial⟩ T.sa ?_
  refine exc_osa X₄ hx₄ hcl (show refsVE (.ref C :: bm) = true from hbm) rfl T.noN (fun h₅ tk₅ dx k₅ dn dne hx₅ hn₅ => ?_)
  have lz : hh.objs.size < h₄.objs.size := by
    obtain ⟨oL, es, ep, e, r⟩ := nsX
    exact Heap.lt_size e
  exact wpAt_of_wpAny (wpAny_execs_nil (hq h₅ tk₅ dx t1 ⟨fun b o n e => k₅ b o n (old b o n (k b o e)), hx₅, Nat.le_of_lt (Nat.lt_of_lt_of_le lz dn), dne, hn₅⟩))
/-- a made one -/
structure Made (fld : Str) (h h' : Heap) (e C d : Addr) (v : Value) : Prop where
  keep : ∀ b o, h.get? b = some o → h'.get? b = some o
  new : h.objs.size ≤ e
  obj : ∃ t1 : Addr, h'.get? e = some { cls := .ref C, dict := some d, data := .fields #[.ref t1, .none, .none, .none, .bool false, .none] }
  dbig : h.objs.size ≤ d
  dne : d ≠ e
  ns : h'.Ns1 d (fun y => if y = fld then some v else none)
theorem ex_made (T : Txt prog K mg nm fld C fI) {v : Value} (X : K.In s.heap) (hg : s.heap.Ns mainGlobals mg) (hb : s.heap.Ns builtinsNs mb) (hbs : mb "super" = some (.type "super")) (hlim : s.heap.NoLimit) (hroom : A.depth + 1 < recursionLimit)
    (hq : ∀ h' tk e d, Made fld s.heap h' e C d v → R (.ok (.ret (.ref e))) { s with heap := h', toks := tk }) :
    codeAny (model prog w) A (.call (.ref C) ⟨[v], []⟩) R s := by
  obtain ⟨nm', q, N, bs, bm, sn, sub, ab, col, dd, k0, k1, k2, k3, k5, hC, hbm, hal⟩ := T.cls
  obtain ⟨hp, g, dr, tk, os⟩ := s
  have k : ∀ b o, hp.get? b = some o → ((hp.push (kdv_tup [v])).push (excO C hp.objs.size)).get? b = some o := fun b o e => Heap.get?_push_of_some _ (Heap.get?_push_of_some _ e)
  have hget : ((hp.push (kdv_tup [v])).push (excO C hp.objs.size)).get? (hp.objs.size + 1) = some (excO C hp.objs.size) := by heap_get
  have hnx : K.lookup (hp.objs.size + 1) = none := by
    cases e : K.lookup (hp.objs.size + 1) with
    | none => rfl
    | some o => exact absurd (Nat.lt_of_succ_lt (Heap.lt_size (X _ _ e))) (Nat.lt_irrefl _)
  refine call_own F.excBase_ValueError (fun X => refsVE_contains X bm hbm) (X _ _ hC) (looks_findIn X T.iC) (fun self => bind_fn X self T.tC) (by show 1 ≤ sizeLine; decide) ?_
  refine ex_init (s := ⟨(hp.push (kdv_tup [v])).push (excO C hp.objs.size), g, dr, tk, os⟩) T (X.keeps k) (hg.keeps k) (hb.keeps k) hbs (hlim.keeps k) hget hnx hroom fun h' tk' dx t1 M => ?_
  have old : ∀ b o, hp.get? b = some o → h'.get? b = some o := fun b o e => M.keep b o (Nat.ne_of_lt (Nat.lt_succ_of_lt (Heap.lt_size e))) (k b o e)
  have z : hp.objs.size ≤ dx := by
    have q := M.dbig
    rw [Heap.size_push, Heap.size_push] at q
    exact Nat.le_trans (Nat.le_trans (Nat.le_succ _) (Nat.le_succ _)) q
  exact ⟨rfl, hq h' tk' (hp.objs.size + 1) dx ⟨old, Nat.le_succ _, ⟨t1, M.obj⟩, z, M.dne, M.ns⟩⟩
end
end Sx
end PySem
namespace Ms
open PySem PySem.Spec PyProof.Rows L2
theorem relO_one {fld : Str} {v : V} {u : Value} (r : RelV v u) (f : Str) : RelO (List.lookup f [(fld, v)]) (if f = fld then some u else none) := relO_put (fs := []) (mA := fun _ => none) r (fun _ => True.intro) f
section
variable {X : Cx} {C fI : Addr} {nm fld : Str}
/-- nm(e) as an exception that is being made -/
def tMkS (fld : Str) (C : Addr) (ta : TA) : L2.St → Hp → XK → Prop := fun σ H Q => ta σ H fun vs H1 => ∃ v, vs = [v] ∧ ∀ d, H1 d = none → Q (.ref C) (some d) (upd H1 d (.xd [(fld, v)]))
theorem pmk_s {a : Expr} {ta : TA} {p pos : Pos} {k : Nat} (T : Sx.Txt X.prog X.K X.mg nm fld C fI) (hr : Room k X.A) (ha : PA X [a] ta) (hg : Gl X nm := by rfl) (hdb : (nm == ("__debug__" : Str)) = false := by decide)
    (he : starEach (a :: []) X.env = (false, eval a X.env) :: starEach [] X.env := by rfl) (hpl : (backTo pos (starEach [] X.env)).any (·.1) = false := by rfl) :
    PMk X (.Call (.Name nm p) [a] [] pos) (tMkS fld C ta) := by
  intro pins s σ H Q I h
  refine wpAny_Call_Name_kw (ld_glob I hg T.gC ?_ hdb)
  refine PySem.W.callWith_K (h₀ := X.base) I.ok.mod.kin T.kC (thn (ha.run pos pins s σ H _ I h) fun us s1 hh => ?_) he hpl
  obtain ⟨vs, H1, I1, r1, v, rfl, q1⟩ := hh
  refine ⟨I1.kIn, ?_⟩
  cases r1 with
  | @cons _ u' _ us' rv rn =>
    cases rn
    show wpAny _ _ (call (.ref C) [u']) _ _ _
    have hlim := I1.nolimit
    obtain ⟨mb, hb1, hb2⟩ := I1.mod.blt
    have hg1 := I1.mod.glob.keeps I1.bk
    have hb := hb1.keeps I1.bk
    have hbs : mb "super" = some (.type "super") := (hb2 _ (by decide)).trans (by decide +kernel)
    obtain ⟨hp, g, dr, tk, os⟩ := s1
    refine wpAny_call (Sx.ex_made T I1.kIn hg1 hb hbs hlim (by have := hr.dp; omega) fun h' tk' e d M => ?_)
    show MkP X pins σ Q (.ref e) ⟨h', g, dr, tk', os⟩
    obtain ⟨t1, hoe⟩ := M.obj
    have hns := M.ns
    obtain ⟨G', g1, g2⟩ := restrict h' fun b => decide (b ≠ e)
    have gk : ∀ b, b ≠ e → G'.get? b = h'.get? b := fun b hb => g1 b (decide_eq_true hb)
    have ge : G'.get? e = none := g2 e (by simp)
    have old : ∀ b o, hp.get? b = some o → G'.get? b = some o := fun b o q => (gk b (Nat.ne_of_lt (Nat.lt_of_lt_of_le (Heap.lt_size q) M.new))).trans (M.keep b o q)
    have ob : ObjOk X.prog X.w (upd H1 d (.xd [(fld, v)])) G' d (.xd [(fld, v)]) := ⟨_, hns.at (fun o q => (gk d M.dne).trans q), fun f => relO_one rv f⟩
    have J : Inv X pins σ (upd H1 d (.xd [(fld, v)])) ⟨G', g, dr, tk', os⟩ := I1.laid (t' := tk') old M.dbig ob
    refine ⟨e, _, _, ⟨G', g, dr, tk', os⟩, _, .ref C, some d, rfl, J, fun b o q => ?_, ge, hoe, ⟨rfl, rfl⟩, rfl, rfl, ?_, rfl, I1.bare, raises_own T.exC T.tyC, q1 d (I1.hok.fresh M.dbig)⟩
    · by_cases hb : b = e
      · have q' : G'.get? b = some o := q
        rw [hb, ge] at q'; cases q'
      · exact (gk b hb).symm.trans q
    · rw [upd_ne (Ne.symm M.dne)]
      exact I1.hok.fresh M.new
/-- raise nm(e) -/
def tRaiseS (fld : Str) (C : Addr) (W : WX) (ta : TA) : TS := fun _ σ H => tMkS fld C ta σ H fun cls d H' => W cls d σ H'
theorem ps_raiseS {a : Expr} {ta : TA} {W : WX} {p pos pos2 : Pos} {k : Nat} (hc : X.calm = true) (T : Sx.Txt X.prog X.K X.mg nm fld C fI) (hr : Room k X.A) (tk : Takes X W) (ha : PA X [a] ta) (hg : Gl X nm := by rfl) (hdb : (nm == ("__debug__" : Str)) = false := by decide)
    (he : starEach (a :: []) X.env = (false, eval a X.env) :: starEach [] X.env := by rfl) (hpl : (backTo pos (starEach [] X.env)).any (·.1) = false := by rfl) :
    PS X (.Raise (some (.Call (.Name nm p) [a] [] pos)) none pos2) (tRaiseS fld C W ta) := ps_raise hc tk (pmk_s T hr ha hg hdb he hpl)
/-- n.fld, n the exception that the suite holds (at a; its class cls, its dict d) -/
def tByS (fld : Str) (C : Addr) (a : Addr) (cls : Value) (d : Option Addr) (te : TE) : TE := fun σ H Q => te σ H fun x H1 => x = .ref a ∧ cls = .ref C ∧ ∃ (dd : Addr) (v : V), d = some dd ∧ H1 dd = some (.xd [(fld, v)]) ∧ Q v H1
theorem pe_byS {a : Addr} {oe : Obj} {cls : Value} {d : Option Addr} {pn : List (Addr × Obj)} {e : Expr} {te : TE} {pos : Pos} (T : Sx.Txt X.prog X.K X.mg nm fld C fI) (hz : Zc cls d oe) (hf : ∃ vs, oe.data = .fields vs) (he : PE (X.suite a ((a, oe) :: pn)) e te)
    (hb : attributeBase e fld X.env (eval e X.env) = eval e X.env := by rfl) :
    PE (X.suite a ((a, oe) :: pn)) (.Attribute e fld pos) (tByS fld C a cls d te) := by
  refine ⟨fun pins s σ H Q I h => attr_of hb (thn (he.run pins s σ H _ I h) fun u s1 hh => ?_)⟩
  obtain ⟨x, H1, I1, rx, rfl, rfl, dd, v, rfl, ea, q⟩ := hh
  obtain rfl : u = Value.ref a := rx
  obtain ⟨ha, _⟩ := I1.pin (a, oe) (List.mem_append_left _ List.mem_cons_self)
  obtain ⟨vs, hd⟩ := hf
  have hx : ObjOk X.prog X.w H1 s1.heap dd (.xd [(fld, v)]) := I1.hok dd _ ea
  obtain ⟨mA, hns, hr⟩ := hx
  obtain ⟨od, ho, hl⟩ := lookIn_ns hns
  have l : List.lookup fld [(fld, v)] = some v := by simp [List.lookup]
  obtain ⟨u, hu, ru⟩ := RelO.some_of (v := v) (o := mA fld) (by rw [← l]; exact hr fld)
  have J : PySem.W.InstAt s1.heap a oe C (some od) := ⟨ha, hz.1, by unfold PySem.W.notCls; rw [hd] <;> rfl, by rw [hz.2]; exact ho⟩
  exact HandSPX.exc_get I1.kIn J T.ga T.gg T.exC (PySem.W.findObj_own T.hdC T.noN rfl (by rw [hl, hu])) (handed_of ru) ⟨v, H1, I1.tok _, ru, q⟩
end
end Ms

set_option Elab.async false
set_option linter.all false
set_option maxRecDepth 100000
set_option maxHeartbeats 4000000
/-! try with several clauses, each with a name. -/
namespace Ms
open PySem PySem.Spec PyProof.Rows L2
/-- the ends of a suite whose name, in slot i, goes behind it -/
def offEnds (i : Nat) (D : Ends) : Ends := { nx := fun σ H => D.nx (σ.set i none) H, rt := D.rt, bk := fun σ H => D.bk (σ.set i none) H, ct := fun σ H => D.ct (σ.set i none) H }
abbrev Cl := Value × Nat × (Addr → Value → Option Addr → TS)
def wAll (K : PySem.W.Frag) (n : Nat) (Wo : WX) (D : Ends) : List Cl → WX
  | [] => Wo
  | (c, i, ts) :: r => fun cls d σ H => ∃ b, PySem.W.exmOne K cls c = some b ∧ (b = true → ∀ a, H a = none → σ.length = n → ts a cls d (offEnds i D) (σ.set i (some (.ref a))) H) ∧ (b = false → wAll K n Wo D r cls d σ H)
inductive Clauses (X : Cx) : List ExceptHandler → List Cl → Prop
  | nil : Clauses X [] []
  | cons {x n : Str} {c : Value} {i : Nat} {ts : Addr → Value → Option Addr → TS} {b₀ : Stmt} {su : List Stmt} {np pp : Pos} {hs : List ExceptHandler} {l : List Cl} (nc : Names X x c) (ni : X.N[i]? = some n) (nl : X.env.kindOf n = some .local)
      (sr : ∀ (a : Addr) (oe : Obj) (cls : Value) (d : Option Addr) (pn : List (Addr × Obj)), Zc cls d oe → (∃ vs, oe.data = .fields vs) → PSs (X.suite a ((a, oe) :: pn)) (b₀ :: su) (ts a cls d)) (r : Clauses X hs l) :
      Clauses X (.ExceptHandler (some (.Name x np)) (some n) (b₀ :: su) pp :: hs) ((c, i, ts) :: l)
section
variable {X : Cx} {pins : List (Addr × Obj)} {σ : L2.St} {H : Hp} {sI s : Shared} {B : Heap} {a : Addr} {cls : Value} {d : Option Addr} {D : Ends} {Wo : WX}
/-- an exception that has landed: it may be asked for its class, and flies on where no clause is its own -/
structure Landed (X : Cx) (pins : List (Addr × Obj)) (σ : L2.St) (H : Hp) (sI s : Shared) (B : Heap) (a : Addr) (cls : Value) (d : Option Addr) : Prop where
  inv : Inv X pins σ H sI
  nb : ∀ b o, sI.heap.get? b = some o → b ∉ frs X.stack → B.get? b = some o
  up : sI.heap.UpToSlots s.heap
  fly : HandSPX.FlyingZ B (X.env :: X.outer) a (Zc cls d) s.heap
  na : H a = none
  os : s.os = sI.os
  ag : AllBare s.gens
  nL : a ≠ X.env.locals
  nF : a ∉ X.fs
theorem Landed.here (F : Landed X pins σ H sI s B a cls d) : Inv X pins σ H s := F.inv.landed F.nb F.fly.1 F.up F.os F.ag
theorem clauses_run (hst : X.stack = X.env :: X.outer) (hfr : X.env.frame = some X.env.locals) (hN : X.N.Nodup) (tk : Takes X Wo) {hs : List ExceptHandler} {l : List Cl} (C : Clauses X hs l) :
    ∀ {s : Shared}, Landed X pins σ H sI s B a cls d → wAll X.K X.N.length Wo D l cls d σ H → wpAny (model X.prog X.w) X.A (handleBy (.ref a) X.env hs) (SP X pins D) X.xe s := by
  induction C with
  | nil =>
    intro s F q
    have fly := F.fly
    obtain ⟨_, _, _, oe, vs, T, _, _, he, _, hd, h1, _⟩ := id fly
    refine wpAny_handleBy_nil ?_
    unfold PySem.passOn
    refine wpAny_bind (wpAny_field he hd h1 ?_)
    rw [if_neg (show ¬ ((Value.ref T == Value.none) = true) by simp)]
    have go : wpAny (model X.prog X.w) X.A (setFlight (.ref a) X.env.frame) (fun _ s4 => wpAny (model X.prog X.w) X.A (throw (.ref a) : Sem Flow) (SP X pins D) X.xe s4) X.xe s := by
      rw [hfr]
      exact HandSPX.setFlight_upZ fly fun h4 y4 u4 => wpAny_throw (tk _ _ ⟨a, B, sI, pins, σ, H, cls, d, rfl, F.inv, F.nb, F.up.trans u4, .inr (.inr (by rw [hst]; exact y4)), F.na, F.os, F.ag, q⟩)
    first
      | exact wpAny_bind (wpAny_pure (wpAny_bind go))
      | exact wpAny_bind go
  | @cons x n c i ts b₀ su np pp hs l nc ni nl sr r ih =>
    intro s F q
    obtain ⟨hp, g, dr, tk0, os0⟩ := s
    obtain ⟨b, eb, yes, no⟩ := q
    have J := F.here
    obtain ⟨oe, vs, he, hz, hd⟩ := F.fly.there
    have S := J.suite he hd F.na F.nL F.nF
    have lt : PySem.W.Looks (model X.prog X.w) hp (typeOf (.ref a)) cls := fun A Q E s k y => wpAny_typeOf_ref (k _ _ he) (by rw [hz.1]; exact y)
    have lm := PySem.W.exm_one (M := model X.prog X.w) J.kIn lt eb
    have asked : ∀ {Q : Value → Shared → Prop} {E : Value → Shared → Prop}, Q c ⟨hp, g, dr, tk0, os0⟩ → wpAny (model X.prog X.w) (X.A.mark (some (.ref a))) (eval (.Name x np) X.env) Q E ⟨hp, g, dr, tk0, os0⟩ := fun {Q E} y => by
      obtain ⟨k1, k2, k3 | ⟨k3, k4, k5⟩⟩ := nc
      · exact ld_glob (X := X.suite a ((a, oe) :: (X.pn ++ pins))) S k1 k3 y k2
      · exact ld_blt (X := X.suite a ((a, oe) :: (X.pn ++ pins))) S k1 k3 k4 y k5 k2
    refine wpAny_handleBy_cons (codeAny_handlers_test ?_) (by intro z; cases z)
    refine asked (lm.here ?_)
    cases b with
    | false => exact ih F (no rfl)
    | true =>
      refine codeAny_handlers_suite_as (HandSPX.lands_againZ F.fly fun h4 f4 u4 => ?_)
      have F4 : Landed X pins σ H sI ⟨h4, g, dr, tk0, os0⟩ B a cls d := ⟨F.inv, F.nb, F.up.trans u4, f4, F.na, F.os, F.ag, F.nL, F.nF⟩
      obtain ⟨oe4, vs4, he4, hz4, hd4⟩ := F4.fly.there
      have S4 := F4.here.suite he4 hd4 F.na F.nL F.nF
      refine store_ok (X := X.suite a ((a, oe4) :: (X.pn ++ pins))) (v := .ref a) S4 hN ni (.inl nl) rfl (fun s5 S5 => ?_) (.inr nl)
      refine wpAny_mono ((sr a oe4 cls d (X.pn ++ pins) hz4 ⟨_, hd4⟩).run [] s5 _ H _ S5 (yes rfl a F.na F.inv.len)) (fun f s6 y => ?_) (fun _ _ z => z.elim)
      have off : ∀ {τ : L2.St} {H6 : Hp} {Q : Shared → Prop}, Inv (X.suite a ((a, oe4) :: (X.pn ++ pins))) [] τ H6 s6 → (∀ s7, Inv X pins (τ.set i none) H6 s7 → Q s7) →
          wpAny (model X.prog X.w) X.A (do bindName X.env n .none; unbindBehindTheSuite X.env n pp) (fun _ s7 => Q s7) X.xe s6 := fun {τ H6 Q} S6 k => gone_ok (S6.unsuite J.ok) hN ni nl k
      cases f with
      | ret u =>
        obtain ⟨v6, τ, H6, S6, r6, q6⟩ := y
        exact off S6 fun s7 J7 => ⟨_, _, _, J7, r6, q6⟩
      | next =>
        obtain ⟨τ, H6, S6, q6⟩ := y
        exact off S6 fun s7 J7 => ⟨_, _, J7, q6⟩
      | brk =>
        obtain ⟨τ, H6, S6, q6⟩ := y
        exact off S6 fun s7 J7 => ⟨_, _, J7, q6⟩
      | cont =>
        obtain ⟨τ, H6, S6, q6⟩ := y
        exact off S6 fun s7 J7 => ⟨_, _, J7, q6⟩
/-- try: body, except x as n: suite, except y as m: suite, .. -/
theorem ps_try_all {body : List Stmt} {h₀ : ExceptHandler} {hs : List ExceptHandler} {l : List Cl} {pos : Pos} {tb : WX → TS} (hst : X.stack = X.env :: X.outer) (hfr : X.env.frame = some X.env.locals) (hN : X.N.Nodup) (tk : Takes X Wo)
    (hb : ∀ (W : WX) (pn : List (Addr × Obj)) (xe : Value → Shared → Prop), Takes (X.tr pn xe) W → PassesOwn (model X.prog X.w) X.A X.env xe → PSs (X.tr pn xe) body (tb W)) (C : Clauses X (h₀ :: hs) l) :
    PS X (.Try body (h₀ :: hs) [] [] pos) (fun D σ H => tb (wAll X.K X.N.length Wo D l) D σ H) := by
  refine ⟨fun pins s σ H D I h => ?_⟩
  have ok := I.ok
  have frm : X.A.frames = some (X.env :: X.outer) := by rw [ok.frames, hst]
  refine wpAny_Try_except (wpAny_mono ((hb (wAll X.K X.N.length Wo D l) (X.pn ++ pins) _ (fun u s' y => ?_) PassesOwn.looking).run [] s σ H D (I.toTry _) h) (fun f s1 y => ?_) (fun _ _ z => z))
  · obtain ⟨a, B, sI, pins', σ', H', cls, d, rfl, J', nb, up, sky, na, os, ag, q⟩ := y
    show wpAny (model X.prog X.w) X.A (noteFrame (.ref a) X.env) _ _ _
    refine Sky.land Zc.steady frm hfr (by rw [← hst]; exact sky) fun h3 f3 u3 => ?_
    obtain ⟨oe, vs, he, hz, hd⟩ := f3.there
    have out : a ∉ frs (X.env :: X.outer) := fun hm => by
      obtain ⟨_, o', e', nf⟩ := f3.2.2.1.mem hm
      rw [he] at e'
      cases e'
      exact nf _ hd
    refine clauses_run hst hfr hN tk C (s := { s' with heap := h3 }) ⟨J'.ofTry ok, nb, up.trans u3, f3, na, os, ag, fun z => out (List.mem_filterMap.mpr ⟨X.env, List.mem_cons_self, by rw [hfr, z]⟩), fun hm => ?_⟩ q
    obtain ⟨e, he2, q2⟩ := List.mem_filterMap.mp hm
    exact out (List.mem_filterMap.mpr ⟨e, List.mem_cons_of_mem _ he2, q2⟩)
  · cases f with
    | next =>
      obtain ⟨σ', H', J', q⟩ := y
      exact wpAny_execs_nil ⟨σ', H', J'.ofTry ok, q⟩
    | ret u =>
      obtain ⟨v, σ', H', J', r, q⟩ := y
      exact ⟨v, σ', H', J'.ofTry ok, r, q⟩
    | brk =>
      obtain ⟨σ', H', J', q⟩ := y
      exact ⟨σ', H', J'.ofTry ok, q⟩
    | cont =>
      obtain ⟨σ', H', J', q⟩ := y
      exact ⟨σ', H', J'.ofTry ok, q⟩
end
end Ms

set_option Elab.async false
set_option linter.all false
set_option maxRecDepth 100000
set_option maxHeartbeats 4000000
/-! Defs with their code objects and defaults; tables; a lambda handed to a def that tries it; the end. -/
namespace Ms
open PySem PySem.Spec PyProof.Rows L2 LamX
/-- a def of the top: dvs its defaults, c its code object -/
structure FunC (K : PySem.W.Frag) (x qual : Str) (st : Stmt) (dvs : List V) (f : Addr) (fd : FuncData) (c : Addr) : Prop where
  ex : ∃ (oc : Value) (od : Option Addr) (dV kV doc pm : Value) (an : Option Addr) (ct : Value) (osl : Array (Option Value)),
    fd = PySem.W.fnOf x qual (defArgs st) (defBody st) (defScope st) dV kV doc pm an (.ref c) ct ∧ K.lookup f = some ⟨oc, od, .func fd, osl⟩ ∧ PySem.W.codeIn K (.ref c) qual = true ∧ DflV K dV dvs
  kp : PySem.W.keepIn K (.ref f) = true
section
variable {P : Program} {w : World} {K : PySem.W.Frag} {mg : Str → Option Value} {base : Heap} {x qual : Str} {st : Stmt} {dvs : List V} {f : Addr} {fd : FuncData} {c : Addr} {N ps : List Str} {k : Nat} {sp : Sp}
theorem FunC.toD (F : FunC K x qual st dvs f fd c) : FunD K x qual (defArgs st) (defBody st) (defScope st) dvs [] f fd := by
  obtain ⟨oc, od, dV, kV, doc, pm, an, ct, osl, h1, h2, h3, h4⟩ := F.ex
  exact ⟨⟨oc, od, dV, kV, doc, pm, an, .ref c, ct, osl, h1, h2, h3, h4, .inl rfl⟩, F.kp⟩
/-- a def that may let out what CX says -/
theorem FunC.okX {CX : CXT} (F : FunC K x qual st dvs f fd c) (S : FnScope N ps (defScope st)) (len : ∀ vs H Q E, sp vs H Q E → vs.length = ps.length)
    (hbody : ∀ (A : Around) (outer : List Env) (s : Shared) (H : Hp) (vs : List V) (Q : VK) (E : XK), Room k (A.deeper (envOfC qual (defScope st) s.heap.objs.size f (.ref c))) → sp vs H Q E →
      ∃ t, PSs (cxOf CX P w K mg base N qual (defScope st) f (.ref c) A outer s H E) (defBody st) t ∧ t { nx := fun _ H' => Q .non H', rt := Q } (start N vs) H) : FnOk P w K mg base CX (k + 1) f fd ps sp := by
  obtain ⟨oc, od, dV, kV, doc, pm, an, ct, osl, rfl, lk, hcd, _⟩ := F.ex
  exact fn_of lk hcd S len fun A outer s H vs Q E hr hsp => hbody A outer s H vs Q E hr hsp
/-- a def that lets nothing out -/
theorem FunC.ok (F : FunC K x qual st dvs f fd c) (S : FnScope N ps (defScope st)) (len : ∀ vs H Q E, sp vs H Q E → vs.length = ps.length)
    (hbody : ∀ (A : Around) (outer : List Env) (s : Shared) (H : Hp) (vs : List V) (Q : VK) (E : XK), Room k (A.deeper (envOfC qual (defScope st) s.heap.objs.size f (.ref c))) → sp vs H Q E →
      ∃ t, PSs (cxOf CX0 P w K mg base N qual (defScope st) f (.ref c) A outer s H E).nox (defBody st) t ∧ t { nx := fun _ H' => Q .non H', rt := Q } (start N vs) H) : FnOk P w K mg base CX0 (k + 1) f fd ps sp :=
  F.okX S len fun A outer s H vs Q E hr h => let ⟨t, a, b⟩ := hbody A outer s H vs Q E hr h; ⟨t, a.nox, b⟩
theorem FunC.binds (F : FunC K x qual st [] f fd c) (h : ∀ (kV doc pm : Value) (an : Option Addr) (ct : Value) (us : List Value), us.length = ps.length → bindArgs (PySem.W.fnOf x qual (defArgs st) (defBody st) (defScope st) .none kV doc pm an (.ref c) ct) ⟨us, []⟩ = pure (ps.zip us)) : Binds K fd ps [] := by
  obtain ⟨oc, od, dV, kV, doc, pm, an, ct, osl, rfl, lk, hcd, hd⟩ := F.ex
  rcases hd with ⟨_, rfl⟩ | ⟨z, _⟩
  · exact .all (h kV doc pm an ct)
  · exact absurd rfl z
theorem func_mk {oc : Value} {od an : Option Addr} {osl : Array (Option Value)} {dV kV doc pm ct : Value} (l : K.lookup f = some ⟨oc, od, .func (PySem.W.fnOf x qual (defArgs st) (defBody st) (defScope st) dV kV doc pm an (.ref c) ct), osl⟩)
    (hc : PySem.W.codeIn K (.ref c) qual = true) (hk : PySem.W.keepIn K (.ref f) = true) (hd : DflV K dV dvs) : FunC K x qual st dvs f (PySem.W.fnOf x qual (defArgs st) (defBody st) (defScope st) dV kV doc pm an (.ref c) ct) c :=
  ⟨⟨oc, od, dV, kV, doc, pm, an, ct, osl, rfl, l, hc, hd⟩, hk⟩
theorem dfl_one {t : Addr} {cl : Value} {dd : Option Addr} {n : Nat} {sl : Array (Option Value)} {v : V} {u : Value} (h : K.lookup t = some ⟨cl, dd, .seq #[u] n, sl⟩) (r : RelV v u) : DflV K (.ref t) [v] :=
  .inr ⟨List.cons_ne_nil _ _, t, _, [u], n, rfl, h, rfl, .cons r .nil⟩
end
/-! ### tables -/
/-- all but a and the tables is as it was -/
def Ext (a : Addr) (H H' : Hp) : Prop := ∀ b o, b ≠ a → H b = some o → (∀ ps, o ≠ .tbl ps) → H' b = some o
theorem tabs_at {T : List (Addr × Str)} {a : Addr} {H H' : Hp} {xs : List V} (t : Tabs T H) (ha : H a = some (.lst xs)) (k : ∀ b o, b ≠ a → H b = some o → H' b = some o) : Tabs T H' := fun p hp => by
  obtain ⟨ps, h1, h2, h3⟩ := t p hp
  refine ⟨ps, k _ _ (fun z => by rw [z, ha] at h1; cases h1) h1, h2, fun pos cv hc => ?_⟩
  obtain ⟨c, e1, e2⟩ := h3 pos cv hc
  exact ⟨c, e1, k _ _ (fun z => by rw [z, ha] at e2; cases e2) e2⟩
theorem Tabs.same {T : List (Addr × Str)} {H H' : Hp} (t : Tabs T H) (s : Same H H') : Tabs T H' := t.ext fun b o e => s b o e
theorem ExtN.lst {H H' : Hp} {a : Addr} {xs : List V} (e : ExtN H H') (h : H a = some (.lst xs)) : H' a = some (.lst xs) := e _ _ h fun _ z => by cases z
theorem ExtN.tup {H H' : Hp} {a : Addr} {xs : List V} (e : ExtN H H') (h : H a = some (.tup xs)) : H' a = some (.tup xs) := e _ _ h fun _ z => by cases z
theorem ExtN.same {H H1 H2 : Hp} (e : ExtN H H1) (s : Same H1 H2) : ExtN H H2 := e.trans (.of fun b o q => s b o q)
theorem Same.extN {H H1 H2 : Hp} (s : Same H H1) (e : ExtN H1 H2) : ExtN H H2 := (ExtN.of fun b o q => s b o q).trans e
theorem ExtN.seq {K : PySem.W.Frag} {H H' : Hp} {a : Addr} {xs : List V} (e : ExtN H H') (h : SqL K H a xs) : SqL K H' a xs := by
  rcases h with (h | ⟨o, h⟩) | h
  · exact .inl (.inl (e _ _ h fun _ z => by cases z))
  · exact .inl (.inr ⟨o, e _ _ h fun _ z => by cases z⟩)
  · exact .inr h
/-! ### a def tries what it got -/
/-- x = a() within a try: what is let out goes by Ech -/
def tAct (i : Nat) (f c' : Addr) (q : Str) (tl : XK → Hp → VK → Prop) (W : WX) : TS := fun D σ H => ∃ Ech : XK, (∀ cls d σ' H', Ech cls d H' → W cls d σ' H') ∧ σ[0]? = some (some (.ref f)) ∧ H c' = some (CodeO c' q) ∧ tl Ech H fun v H' => D.nx (σ.set i (some v)) H'
/-- a() within a try -/
def tActE (f c' : Addr) (q : Str) (tl : XK → Hp → VK → Prop) (W : WX) : TS := fun D σ H => ∃ Ech : XK, (∀ cls d σ' H', Ech cls d H' → W cls d σ' H') ∧ σ[0]? = some (some (.ref f)) ∧ H c' = some (CodeO c' q) ∧ tl Ech H fun _ H' => D.nx σ H'
theorem pss_act {Z : Cx} {i : Nat} {f c' : Addr} {q a x : Str} {tl : XK → Hp → VK → Prop} {W : WX} {px p1 p2 p3 : Pos}
    (act : ∀ (E : XK) (p1 p2 : Pos), (∀ cls d σ' H', E cls d H' → W cls d σ' H') → PE Z (.Call (.Name a p1) [] [] p2) (fun σZ HZ Q => σZ[0]? = some (some (.ref f)) ∧ HZ c' = some (CodeO c' q) ∧ tl E HZ Q))
    (nd : Z.N.Nodup) (hi : Z.N[i]? = some x) (hx : Loc Z.env.scope x) (hf : Z.fn x = true ∨ Z.env.scope.names.lookup x = some .local := by first | exact .inl rfl | exact .inr rfl)
    (hs : swapsWith (.Call (.Name a p1) [] [] p2) (some (.Name x px)) p3.line Z.env = pure false := by rfl) : PSs Z [.Assign [.Name x px] (.Call (.Name a p1) [] [] p2) p3] (tAct i f c' q tl W) := by
  refine ⟨fun pins s σ H D I h => ?_⟩
  obtain ⟨Ech, hW, h1, h2, h3⟩ := h
  exact (pss_one (ps_asg (act Ech p1 p2 hW) (pg_name nd hi hx hf) hs)).run pins s σ H D I ⟨h1, h2, h3⟩
/-! ### the end -/
/-- the tables of the named defs are empty -/
def OwnTabs (K : PySem.W.Frag) (mg : Str → Option Value) (q : Program) (h : Heap) : Prop := ∀ (x : Str) (fb : Addr), ((recsOf q).any fun e => e.name == x) = true → mg x = some (.ref fb) → OwnTab K fb h
theorem walk_tabs {l : PySem.W.OpenLaw} {n k : Nat} {q : Program} {loose : List Str} {XP : (Str → Option Value) → Heap → Prop} {YP : World → Heap → Prop} {d : DefRec} {K : Params → PySem.W.Frag} {CX : World → CXT} {x : Str}
    (hn : l.most = some n) (hn2 : n ≤ sizeLine) (hdf : d.params.defaults = []) (hr : Room k callerA) (hY : ∀ (w : World) (h : Heap), YP w h → (K w.params).In h)
    (F : ∀ (w : World) (mg : Str → Option Value) (fa : Addr) (h : Heap), (K w.params).In h → h.Ns mainGlobals mg → mg d.name = some (.ref fa) → OwnTabs (K w.params) mg q h → LawAtS l w (K w.params) (CX w) k n x mg fa h)
    (hCX : ∀ (w : World) (H : Hp) (s : Shared) (e : Value) (s' : Shared), CX w [] H s (fun _ _ _ => False) e s' → False) :
    PySem.W.WalkO q loose XP YP l.row.toRowW d [] (fun f vs => PySem.call f vs) := by
  refine Att.attach_callB hn hdf fun w s₀ s₁ mg mb fa o pm cd doc a vs ns G Y ho hd hcd hmg hobj hints hlen hbits hg => ?_
  have KX := hY w _ Y
  have own : OwnTabs (K w.params) mg q s₁.heap := fun x fb hx hb c P o1 fd1 e dd vs1 sl k1 k2 k3 k4 k5 => by
    obtain ⟨dL, hm, hn1⟩ := List.any_eq_true.mp hx
    obtain ⟨a', o', fd', c', P', h1, h2, h3, h4, _, ⟨⟨oc, vc, e1, _, e3, e4⟩, hP⟩⟩ := G.T.tab dL hm
    rw [beq_iff_eq.mp hn1, hb] at h1
    cases h1
    rw [KX _ _ k1] at h2
    cases h2
    rw [k2] at h3
    cases h3
    rw [k3] at h4
    cases h4
    rw [KX _ _ k4] at e1
    cases e1
    cases e3
    rw [k5] at e4
    cases e4
    exact hP
  obtain ⟨fd, cs, sp, hT, nT, C, hb, hsp, hF⟩ := F w mg fa _ KX G.T.g hmg own
  exact law_callTs KX G.T.g G.T.b G.T.builtins G.T.nolimit hg hT nT C G.T.bmain hobj hints (Nat.le_trans hlen hn2) hr hF hb (fun H hH hS => hsp H a ns hlen hbits hH hS) fun H e s' => hCX w H s₁ e s'
end Ms

set_option Elab.async false
set_option linter.all false
set_option maxRecDepth 100000
set_option maxHeartbeats 4000000
/-! An own exception's facts, from what is written; tables at the end. -/
namespace PySem
namespace Sx
open PySem.W PySem.Calls PyProof.Rows PySem.HandSPX
theorem Txt.of {prog : Program} {K : Frag} {h : Heap} {mg : Str → Option Value} {nm fld : Str} {C fI : Addr} (X : K.In h) (G : h.Ns mainGlobals mg)
    {nm' q : Str} {N : Addr} {bs bm : List Value} {sn sub ab col dd k0 k1 k2 k3 k5}
    {qual msg : Str} {oc : Value} {od : Option Addr} {doc pm : Value} {an : Option Addr} {ct : Value} {osl : Array (Option Value)} {p1 p2 c0 c1 c2 c3 c4 c5 q1 q2 q3 q4 : Pos} {j : Nat} {cda cc : Addr} {ccl : Value} {cdd : Option Addr} {vs : Array Value} {ccs : Array (Option Value)}
    {cl : Value} {cld : Option Addr} {csl : Array (Option Value)} {file : Str} {tf : Tok}
    (gC : nsIn K mainGlobals nm = some (some (.ref C)))
    (cls1 : K.lookup C = some (excClassObj nm' q C N bs bm true sn sub ab col dd k0 k1 k2 k3 k5 "ValueError.__new__")) (cls2 : refsVE bm = true) (cls3 : alongIn K "__init__" bm = some (some (.builtin "ValueError.__init__")))
    (sa : findIn K (.ref C) "__setattr__" = some (some (.builtin "object.__setattr__")))
    (ga : findIn K (.ref C) "__getattribute__" = some (some (.builtin "BaseException.__getattribute__")))
    (gg : findIn K (.ref C) "__getattr__" = some none)
    (noN : findIn K (.ref C) fld = some none)
    (iC : findIn K (.ref C) "__init__" = some (some (.ref fI)))
    (tC : typeIn K (.ref fI) = some (.type "function"))
    (kC : keepIn K (.ref C) = true)
    (exC : subIn K (.ref C) (.type "BaseException") = some true)
    (vaC : subIn K (.ref C) (.type "ValueError") = some true)
    (meC : mroIn K C (.ref C) = some true)
    (tyC : typeIn K (.ref C) = some (.type "type"))
    (isC : isClsIn K C = true)
    (hdC : hasDictIn K C = true)
    (opq : nsIn K cStatics "thirdparty.any" = some none)
    (sup : nsIn K mainGlobals "super" = some none)
    (l1 : K.lookup fI = some ⟨oc, od, .func (iF fld msg qual p1 p2 c0 c1 c2 c3 c4 c5 q1 q2 q3 q4 j doc pm an cda ct cc), osl⟩) (l2 : codeIn K (.ref cda) qual = true)
    (l3 : K.lookup cda = some ⟨ccl, cdd, .fields vs, ccs⟩) (l4 : vs[2]? = some (.str file tf)) (l5 : ((prog.main.file : Str) == file) = true) (l6 : K.lookup cc = some ⟨cl, cld, .cell (some (.ref C)), csl⟩)
    (top : (prog.main.scope.names.lookup ("super" : Str)).isSome = false)
    (fne : (("self" : Str) == fld) = false)
    (fks : (iS fld).names.lookup ("super" : Str) = some .globalImplicit)
    (fkc : (iS fld).names.lookup ("__class__" : Str) = some .free)
    (fdb : (fld == ("__debug__" : Str)) = false)
    (te : exmOne K (.ref C) (.ref C) = some true)
    (bnd : ∀ (s : Shared) (x v : Value), BindsTo s (iF fld msg qual p1 p2 c0 c1 c2 c3 c4 c5 q1 q2 q3 q4 j doc pm an cda ct cc) ⟨[x, v], []⟩ [("self", x), (fld, v)])
    (ev : ∃ pl : Sem Bool, ∀ L : Addr, eval (.Call (.Attribute (.Call (.Name "super" c0) [] [] c1) "__init__" c2) [.Constant (.str msg) j c3] [] c4) (callEnv (iF fld msg qual p1 p2 c0 c1 c2 c3 c4 c5 q1 q2 q3 q4 j doc pm an cda ct cc) L fI) = (do
      let ov ← attributeBase (.Call (.Name "super" c0) [] [] c1) "__init__" (callEnv (iF fld msg qual p1 p2 c0 c1 c2 c3 c4 c5 q1 q2 q3 q4 j doc pm an cda ct cc) L fI) (eval (.Call (.Name "super" c0) [] [] c1) (callEnv (iF fld msg qual p1 p2 c0 c1 c2 c3 c4 c5 q1 q2 q3 q4 j doc pm an cda ct cc) L fI))
      standAt c2.atName
      let (f, first) ← holding [ov] (getMethod ov "__init__" pl)
      callWith c4 f first (backTo c4 (starEach [.Constant (.str msg) j c3] (callEnv (iF fld msg qual p1 p2 c0 c1 c2 c3 c4 c5 q1 q2 q3 q4 j doc pm an cda ct cc) L fI))) [])) :
    Txt prog K mg nm fld C fI :=
  { gC := mg_of X G gC, cls := ⟨_, _, _, _, _, _, _, _, _, _, _, _, _, _, _, cls1, cls2, cls3⟩, sa := sa, ga := ga, gg := gg, noN := noN, iC := iC, tC := tC, kC := kC, exC := exC, vaC := vaC, meC := meC, tyC := tyC, hdC := hdC, te := te, opq := opq, sup := mg_none_of X G sup, top := top, fne := fne, fks := fks, fkc := fkc, fdb := fdb,
    fn := ⟨_, _, _, _, _, _, _, _, _, _, _, _, _, _, _, _, _, _, _, _, _, _, _, _, _, _, _, _, _, _, _, _, _, l1, l2, l3, l4, l5, l6, bnd, ev⟩ }
end Sx
end PySem

set_option Elab.async false
set_option linter.all false
set_option maxRecDepth 100000
set_option maxHeartbeats 4000000
/-! isinstance(e, ValueError) of an own exception: True. -/
namespace Ms
open PySem PySem.Spec PyProof.Rows L2 LamX PySem.W
theorem isi_sub {prog : Program} {w : World} {A : Around} {E : Value → Shared → Prop} {s : Shared} {K : PySem.W.Frag} {a C : Addr} {Q : Value → Shared → Prop} (X : K.In s.heap)
    (ty : PySem.W.Looks (model prog w) s.heap (typeOf (.ref a)) (.ref C)) (sb : subIn K (.ref C) (.type "ValueError") = some true) (hq : Q (.bool true) s) : wpAny (model prog w) A (call (.builtin "isinstance") [.ref a, .type "ValueError"]) Q E s := by
  refine call_isinstance_of ?_
  show wpAny _ _ (typeOf (.ref a) >>= fun t => if (t == Value.type "ValueError") = true then _ else _) _ _ _
  refine wpAny_bind (ty _ _ _ s (fun _ _ e => e) ?_)
  rw [if_neg (by simp)]
  rw [show typeOf (Value.type "ValueError") = pure (Value.type "type") from rfl]
  refine wpAny_bind (wpAny_pure ?_)
  rw [if_pos (by decide)]
  refine wpAny_bind ?_
  show wpAny _ _ (PySem.isType (.type "ValueError") >>= fun r => if (!r) = true then _ else _) _ _ _
  rw [show PySem.isType (Value.type "ValueError") = pure true from rfl]
  refine wpAny_bind (wpAny_pure ?_)
  rw [if_neg (by decide)]
  show wpAny _ _ (PySem.isInstance (.ref a) (.type "ValueError") >>= fun r => if r = true then pure true else _) _ _ _
  refine wpAny_bind ?_
  show wpAny _ _ (typeOf (.ref a) >>= fun t => isSubtype t (.type "ValueError")) _ _ _
  refine wpAny_bind (ty _ _ _ s (fun _ _ e => e) ?_)
  refine (looks_subIn X sb) _ _ _ s (fun _ _ e => e) ?_
  rw [if_pos rfl]
  exact wpAny_pure (wpAny_pure hq)
/-- isinstance(n, ValueError), n the exception that the suite holds -/
theorem call_isV {X : Cx} {a : Addr} {oe : Obj} {cls : Value} {d : Option Addr} {pn : List (Addr × Obj)} (hz : Zc cls d oe) (hf : ∃ vs, oe.data = .fields vs) :
    CallR (X.suite a ((a, oe) :: pn)) (.builtin "isinstance") (fun xs H Q => ∃ C, xs = [.ref a, .ty "ValueError"] ∧ cls = .ref C ∧ subIn X.K (.ref C) (.type "ValueError") = some true ∧ Q (.bl true) H) := by
  rintro pins s σ H xs us Q I r ⟨C, rfl, rfl, sb, q⟩
  cases r with
  | @cons _ u _ us rx rr =>
    cases rr with
    | @cons _ u2 _ us2 rt rr =>
      cases rr
      obtain rfl : u = Value.ref a := rx
      obtain rfl : u2 = Value.type "ValueError" := rt
      obtain ⟨ha, _⟩ := I.pin (a, oe) (List.mem_append_left _ List.mem_cons_self)
      obtain ⟨vs, hd⟩ := hf
      refine isi_sub I.kIn (fun A Q E s k y => wpAny_typeOf_ref (k _ _ ha) (by rw [hz.1]; exact y)) sb ?_
      exact ⟨.bl true, H, I, rfl, q⟩
end Ms

set_option Elab.async false
set_option linter.all false
set_option maxRecDepth 100000
set_option maxHeartbeats 4000000
/-! a text times a number -/
namespace Ms
open PySem PySem.Spec PyProof.Rows L2
theorem op_mulS {X : Cx} : OpR X (binaryOp .Mult) (fun x y H Q => ∃ z n, x = .str z ∧ y = .int n ∧ MulOk z n ∧ Q (.str (Txt.mul z n)) H) := by
  intro pins s σ H x y v u Q I rx ry h
  obtain ⟨z, n, rfl, rfl, hm, q⟩ := h
  obtain ⟨t, rfl⟩ := rx
  obtain ⟨t2, rfl⟩ := ry
  exact SB.mul hm fun t' k => ⟨.str _, H, I.tok _, ⟨t', rfl⟩, q⟩
end Ms

set_option Elab.async false
set_option linter.all false
set_option maxRecDepth 100000
set_option maxHeartbeats 4000000
/-! a tuple of a number and a list of numbers, less than another. -/
namespace Ms
open PySem PySem.Spec PyProof.Rows L2
theorem ints_at {xs : List Value} {ns : List Int} (h : IntsAre xs ns) : ∀ (i : Nat), (xs[i]? = none ∧ ns[i]? = none) ∨ ∃ n t, xs[i]? = some (.int n t) ∧ ns[i]? = some n := by
  induction h with
  | nil => intro i; exact .inl ⟨rfl, rfl⟩
  | cons n t _ ih =>
    intro i
    cases i with
    | zero => exact .inr ⟨n, t, rfl, rfl⟩
    | succ i => exact ih i
theorem ints_len {xs : List Value} {ns : List Int} (h : IntsAre xs ns) : xs.length = ns.length := by
  induction h with
  | nil => rfl
  | cons n t _ ih => rw [List.length_cons, List.length_cons, ih]
theorem drop_at {ns : List Int} {i : Nat} {n : Int} (h : ns[i]? = some n) : ns.drop i = n :: ns.drop (i + 1) := by
  obtain ⟨hl, e⟩ := List.getElem?_eq_some_iff.mp h
  rw [List.drop_eq_getElem_cons hl, e]
theorem drop_no {ns : List Int} {i : Nat} (h : ns[i]? = none) : ns.drop i = [] := List.drop_eq_nil_of_le (List.getElem?_eq_none_iff.mp h)
theorem ll_loop {prog : Program} {w : World} {la lb : Addr} {xs ys : Array Value} {ns ms : List Int} (hx : IntsAre xs.toList ns) (hy : IntsAre ys.toList ms) :
    ∀ (k i : Nat), ns.length - i = k → i ≤ ns.length → i ≤ ms.length → ∀ {A : Around} {R : Result → Shared → Prop} {s : Shared}, s.heap.IsList la xs → s.heap.IsList lb ys → R (.ok (.ret (.bool (HT.lexLt (ns.drop i) (ms.drop i))))) s →
      codeAny (model prog w) A (.builtin "list.__eq__.loop" ⟨[.ref la, .ref lb, rawInt (i : Nat), rawInt (0 : Nat)], []⟩) R s := by
  have l1 : xs.size = ns.length := by rw [← ints_len hx]; simp
  have l2 : ys.size = ms.length := by rw [← ints_len hy]; simp
  have ex0 : ∀ i, ns[i]? = none → xs[((i : Nat) : Int).toNat]? = none := fun i e => by
    rcases ints_at hx i with ⟨a, b⟩ | ⟨n, t, a, b⟩
    · simpa using a
    · rw [e] at b; cases b
  have ey0 : ∀ i, ms[i]? = none → ys[((i : Nat) : Int).toNat]? = none := fun i e => by
    rcases ints_at hy i with ⟨a, b⟩ | ⟨n, t, a, b⟩
    · simpa using a
    · rw [e] at b; cases b
  have ex1 : ∀ i n, ns[i]? = some n → ∃ t, xs[((i : Nat) : Int).toNat]? = some (.int n t) := fun i n e => by
    rcases ints_at hx i with ⟨a, b⟩ | ⟨n', t, a, b⟩
    · rw [e] at b; cases b
    · rw [e] at b; cases b
      exact ⟨t, by simpa using a⟩
  have ey1 : ∀ i n, ms[i]? = some n → ∃ t, ys[((i : Nat) : Int).toNat]? = some (.int n t) := fun i n e => by
    rcases ints_at hy i with ⟨a, b⟩ | ⟨n', t, a, b⟩
    · rw [e] at b; cases b
    · rw [e] at b; cases b
      exact ⟨t, by simpa using a⟩
  intro k
  induction k with
  | zero =>
    intro i hk hi1 hi2 A R s h1 h2 hq
    obtain ⟨o1, g1, c1, n1, d1⟩ := h1
    obtain ⟨o2, g2, c2, n2, d2⟩ := h2
    refine codeAny_builtin MeetsSeq3.entry_eq_loop ?_
    refine wpAny_bind (wpAny_listItems g1 d1 ?_)
    refine wpAny_bind (wpAny_listItems g2 d2 ?_)
    have e1 : ns[i]? = none := List.getElem?_eq_none_iff.mpr (by omega)
    rw [ex0 i e1]
    refine wpAny_bind (wpAny_listItems g1 d1 ?_)
    refine wpAny_bind (wpAny_listItems g2 d2 ?_)
    refine wpAny_pure ?_
    show R (.ok (.ret (.bool (decide (xs.size < ys.size))))) s
    rw [drop_no e1] at hq
    cases e2 : ms[i]? with
    | none =>
      rw [drop_no e2, HT.lexLt_nil_nil] at hq
      have := List.getElem?_eq_none_iff.mp e2
      rw [decide_eq_false (by omega)]
      exact hq
    | some m =>
      rw [drop_at e2, HT.lexLt_nil_cons] at hq
      have := (List.getElem?_eq_some_iff.mp e2).1
      rw [decide_eq_true (by omega)]
      exact hq
  | succ k ih =>
    intro i hk hi1 hi2 A R s h1 h2 hq
    have h1' := h1
    have h2' := h2
    obtain ⟨o1, g1, c1, n1, d1⟩ := h1
    obtain ⟨o2, g2, c2, n2, d2⟩ := h2
    refine codeAny_builtin MeetsSeq3.entry_eq_loop ?_
    refine wpAny_bind (wpAny_listItems g1 d1 ?_)
    refine wpAny_bind (wpAny_listItems g2 d2 ?_)
    have hl : i < ns.length := by omega
    have e1 : ns[i]? = some ns[i] := List.getElem?_eq_getElem hl
    obtain ⟨t, ex⟩ := ex1 i _ e1
    rw [ex]
    rw [drop_at e1] at hq
    cases e2 : ms[i]? with
    | none =>
      rw [ey0 i e2]
      refine wpAny_bind (wpAny_listItems g1 d1 ?_)
      refine wpAny_bind (wpAny_listItems g2 d2 ?_)
      refine wpAny_pure ?_
      show R (.ok (.ret (.bool (decide (xs.size < ys.size))))) s
      rw [drop_no e2, HT.lexLt_cons_nil] at hq
      have := List.getElem?_eq_none_iff.mp e2
      rw [decide_eq_false (by omega)]
      exact hq
    | some m =>
      obtain ⟨u, ey⟩ := ey1 i m e2
      rw [ey]
      rw [drop_at e2, HT.lexLt_cons] at hq
      refine wpAny_bind (wpAny_eqBool_int ?_)
      by_cases h : ns[i] = m
      · rw [if_pos h] at hq
        rw [if_pos (by simpa using h)]
        refine wpAny_pure ⟨plainId_quiet MeetsSeq3.plain_eq_loop _, ?_⟩
        exact ih (i + 1) (by omega) (by omega) (by have := (List.getElem?_eq_some_iff.mp e2).1; omega) h1' h2' hq
      · rw [if_neg h] at hq
        rw [if_neg (by simpa using h)]
        refine wpAny_bind (wpAny_listItems g1 d1 ?_)
        refine wpAny_bind (wpAny_listItems g2 d2 ?_)
        rw [ex, ey]
        refine wpAny_bind (HT.rcLt_int _ _ _ _ _ _ _ _ _ _ ?_)
        exact wpAny_pure hq
/-- two lists of numbers, the one less than the other -/
theorem ll_lt {prog : Program} {w : World} {A : Around} {E : Value → Shared → Prop} {s : Shared} {la lb : Addr} {xs ys : Array Value} {ns ms : List Int} {Q : Value → Shared → Prop} (h1 : s.heap.IsList la xs) (h2 : s.heap.IsList lb ys) (hx : IntsAre xs.toList ns) (hy : IntsAre ys.toList ms)
    (hu : A.units < cLine) (hq : Q (.bool (HT.lexLt ns ms)) s) : wpAny (model prog w) A (richCompare .Lt (.ref la) (.ref lb)) Q E s := by
  have m : Meets (Builtin.«list.__lt__» ⟨[.ref la, .ref lb], []⟩) (fun A R s => s.heap.IsList la xs ∧ s.heap.IsList lb ys ∧ R (.ok (.ret (.bool (HT.lexLt ns ms)))) s) := by
    rintro prog w A R s ⟨h1, h2, hr⟩
    obtain ⟨o1, g1, c1, n1, d1⟩ := id h1
    obtain ⟨o2, g2, c2, n2, d2⟩ := id h2
    refine wpAny_bind ?_
    refine wpAny_pure ?_
    refine wpAny_bind ?_
    show wpAny _ _ (typeOf (.ref lb) >>= fun t => isSubtype t (Value.type "list")) _ _ _
    refine wpAny_bind (wpAny_typeOf_ref g2 ?_)
    rw [c2]
    rw [show isSubtype (Value.type "list") (Value.type "list") = pure true from rfl]
    refine wpAny_pure ?_
    rw [if_neg (by decide)]
    refine wpAny_pure ⟨plainId_quiet MeetsSeq3.plain_eq_loop _, ?_⟩
    exact ll_loop hx hy _ 0 rfl (Nat.zero_le _) (Nat.zero_le _) h1 h2 hr
  obtain ⟨o1, g1, c1, n1, d1⟩ := id h1
  obtain ⟨o2, g2, c2, n2, d2⟩ := id h2
  exact richCompare_meets_room (T := "list") ⟨_, g1, c1⟩ ⟨_, g2, c2⟩ F.slot_list_lt F.entry_list_lt (F.args_list_lt_2 _ _) m ⟨h1, h2, (fun z => by cases z), hq⟩ hu
theorem eqv_ints : ∀ ns ms : List Int, PyData.eqvAll (ns.map PyData.int) (ms.map PyData.int) = decide (ns = ms)
  | [], [] => by rw [List.map_nil, PyData.eqvAll]; rfl
  | [], m :: ms => by rw [List.map_nil, List.map_cons, PyData.eqvAll]; simp
  | n :: ns, [] => by rw [List.map_nil, List.map_cons, PyData.eqvAll]; simp
  | n :: ns, m :: ms => by
    rw [List.map_cons, List.map_cons, PyData.eqvAll, eqv_ints ns ms, PyData.eqv]
    by_cases h : n = m
    · subst h; simp
    · simp [h]
theorem lay_ints : ∀ ns : List Int, PyData.canLayAll0 (ns.map PyData.int) = true
  | [] => by rw [List.map_nil, PyData.canLayAll0]
  | n :: ns => by rw [List.map_cons, PyData.canLayAll0, PyData.canLay0, lay_ints ns]; rfl
theorem depth_ints : ∀ ns : List Int, PyData.depthAll (ns.map PyData.int) ≤ 1
  | [] => by rw [List.map_nil, PyData.depthAll]; omega
  | n :: ns => by
    have := depth_ints ns
    rw [List.map_cons, PyData.depthAll, PyData.depth]
    omega
theorem lex_irr : ∀ ns : List Int, HT.lexLt ns ns = false
  | [] => HT.lexLt_nil_nil
  | n :: ns => by rw [HT.lexLt_cons, if_pos rfl, lex_irr ns]
theorem tl_lt {prog : Program} {w : World} {A : Around} {E : Value → Shared → Prop} {s : Shared} {p q la lb : Addr} {xs ys : Array Value} {ns ms as bs : _} {m k : Int} {t u : Tok} {Q : Value → Shared → Prop}
    (hp : IsTup s.heap p #[.int m t, .ref la]) (hq : IsTup s.heap q #[.int k u, .ref lb]) (h1 : s.heap.IsList la xs) (h2 : s.heap.IsList lb ys) (hx : IntsAre xs.toList ns) (hy : IntsAre ys.toList ms)
    (r1 : Reads s.heap (.ref la) (.list (ns.map PyData.int)) as) (r2 : Reads s.heap (.ref lb) (.list (ms.map PyData.int)) bs)
    (hu : A.units + 64 < cLine) (hQ : Q (.bool (if m = k then HT.lexLt ns ms else decide (m < k))) s) : wpAny (model prog w) A (compareOp .Lt (.ref p) (.ref q)) Q E s := by
  have me : Meets (Builtin.«tuple.__lt__» ⟨[.ref p, .ref q], []⟩) (fun A R s => (IsTup s.heap p #[.int m t, .ref la] ∧ IsTup s.heap q #[.int k u, .ref lb] ∧ s.heap.IsList la xs ∧ s.heap.IsList lb ys ∧ Reads s.heap (.ref la) (.list (ns.map PyData.int)) as ∧ Reads s.heap (.ref lb) (.list (ms.map PyData.int)) bs ∧ A.units + 64 < cLine) ∧ R (.ok (.ret (.bool (if m = k then HT.lexLt ns ms else decide (m < k))))) s) := by
    rintro prog w A R s ⟨⟨hp, hq, h1, h2, r1, r2, hu⟩, hr⟩
    obtain ⟨o2, g2, c2, n2, d2⟩ := id hq
    refine wpAny_bind ?_
    refine wpAny_pure ?_
    refine wpAny_bind ?_
    show wpAny _ _ (typeOf (.ref q) >>= fun t => isSubtype t (Value.type "tuple")) _ _ _
    refine wpAny_bind (wpAny_typeOf_ref g2 ?_)
    rw [c2]
    rw [show isSubtype (Value.type "tuple") (Value.type "tuple") = pure true from rfl]
    refine wpAny_pure ?_
    rw [if_neg (by decide)]
    refine wpAny_bind (tupleItemsOf_ hp ?_)
    refine wpAny_bind (tupleItemsOf_ hq ?_)
    refine wpAny_bind ?_
    refine wpAny_bind ?_
    refine wpAny_bind (wpAny_eqBool_int ?_)
    by_cases h : m = k
    · rw [if_pos h] at hr
      rw [if_neg (by simp [h])]
      refine wpAny_pure ?_
      refine wpAny_bind ?_
      refine wpAny_bind ?_
      have ea := SeqAt.eqAt_reads _ _ A.in1 s _ _ _ _ r1 r2 (by rw [PyData.canLay0]; exact lay_ints ns) (by rw [PyData.canLay0]; exact lay_ints ms) (by
        have d1 := depth_ints ns
        have e1 : (PyData.list (ns.map PyData.int)).depth = PyData.depthAll (ns.map PyData.int) + 1 := by rw [PyData.depth]
        have e2 : A.in1.units ≤ A.units + 1 := by first | exact Nat.le_refl _ | exact Nat.le_succ _ | (simp [Around.in1]; done)
        omega)
      rw [PyData.eqv, eqv_ints] at ea
      refine ea prog w _ _ ?_
      by_cases h2' : ns = ms
      · rw [if_neg (by simp [h2'])]
        refine wpAny_pure ?_
        refine wpAny_pure ?_
        refine wpAny_pure ?_
        rw [h2', lex_irr] at hr
        exact hr
      · rw [if_pos (by simp [h2'])]
        refine wpAny_bind (wpAny_rule ?_)
        refine wpAny_bind (ll_lt h1 h2 hx hy (by
          have e2 : A.in1.units ≤ A.units + 1 := by first | exact Nat.le_refl _ | exact Nat.le_succ _ | (simp [Around.in1]; done)
          omega) ?_)
        refine wpAny_bind (wpAny_pure ?_)
        refine wpAny_pure ?_
        refine wpAny_pure ?_
        refine wpAny_pure ?_
        exact hr
    · rw [if_neg h] at hr
      rw [if_pos (by simpa using h)]
      refine wpAny_bind (wpAny_rule ?_)
      refine wpAny_bind (HT.rcLt_int _ _ _ _ _ _ _ _ _ _ ?_)
      refine wpAny_bind (wpAny_pure ?_)
      refine wpAny_pure ?_
      refine wpAny_pure ?_
      refine wpAny_pure ?_
      exact hr
  obtain ⟨o1, g1, c1, n1, d1⟩ := id hp
  obtain ⟨o2, g2, c2, n2, d2⟩ := id hq
  show wpAny _ _ (richCompare .Lt (.ref p) (.ref q)) _ _ _
  exact richCompare_meets_room (T := "tuple") ⟨_, g1, c1⟩ ⟨_, g2, c2⟩ F.slot_tuple_lt F.entry_tuple_lt (F.args_tuple_lt_2 _ _) me ⟨⟨hp, hq, h1, h2, r1, r2, hu⟩, (fun z => by cases z), hQ⟩ (by omega)
theorem dp_ints {K : PySem.W.Frag} {H : Hp} : ∀ ns : List Int, DpAll K H (ns.map V.int) (ns.map PyData.int)
  | [] => .nil
  | n :: ns => .cons (.int n) (dp_ints ns)
theorem op_ltTL {X : Cx} (hu : X.A.units + 64 < cLine) : OpR X (compareOp .Lt) (fun x y H Q => ∃ p q m k la lb ns ms, x = .ref p ∧ y = .ref q ∧ H p = some (.tup [.int m, .ref la]) ∧ H q = some (.tup [.int k, .ref lb]) ∧
    SqL X.K H la (ns.map V.int) ∧ SqL X.K H lb (ms.map V.int) ∧ Q (.bl (if m = k then HT.lexLt ns ms else decide (m < k))) H) := by
  intro pins s σ H x y v u Q I rx ry h
  obtain ⟨p, q, m, k, la, lb, ns, ms, rfl, rfl, hp, hq, h1, h2, hQ⟩ := h
  cases rx
  cases ry
  obtain ⟨i1, v1, t1, _⟩ := I.tuple (SqT.of hp)
  obtain ⟨i2, v2, t2, _⟩ := I.tuple (SqT.of hq)
  obtain ⟨i3, v3, p3, _⟩ := I.list h1
  obtain ⟨i4, v4, p4, _⟩ := I.list h2
  obtain ⟨as, r1⟩ := Dp.reads I (.list (ns.map PyData.int)) (.ref la) (.ref la) (.lst h1 (dp_ints ns)) rfl
  obtain ⟨bs, r2⟩ := Dp.reads I (.list (ms.map PyData.int)) (.ref lb) (.ref lb) (.lst h2 (dp_ints ms)) rfl
  cases v1 with
  | cons a1 b1 =>
  cases b1 with
  | cons a2 b2 =>
  cases b2
  cases v2 with
  | cons a3 b3 =>
  cases b3 with
  | cons a4 b4 =>
  cases b4
  obtain ⟨tm, rfl⟩ := a1
  obtain ⟨tk, rfl⟩ := a3
  cases a2
  cases a4
  exact tl_lt t1 t2 p3.isList p4.isList (by simpa using L2.intsAre_of v3) (by simpa using L2.intsAre_of v4) r1 r2 hu ⟨.bl _, H, I, rfl, hQ⟩
end Ms

set_option Elab.async false
set_option linter.all false
set_option maxRecDepth 100000
set_option maxHeartbeats 4000000
/-! a text from behind -/
namespace Ms
open PySem PySem.Spec PyProof.Rows L2
def pickedS (z : Str) : Str := ⟨(List.filterMap (fun i => z.cps[i]?) (slicePicked z none none (some (-1, 0)))).toArray⟩
theorem picked_len (z : Str) : (pickedS z).length ≤ z.length := by
  show (List.filterMap _ _).toArray.size ≤ _
  rw [List.size_toArray]
  refine Nat.le_trans (List.length_filterMap_le _ _) ?_
  show (sliceRange ((z.length : Int) - 1) (-1) (-1)).length ≤ z.length
  exact sliceRange_length_le _ _ _ _ (fun h => absurd h (by decide)) (fun _ => ⟨Int.le_refl _, Int.le_refl _⟩)
theorem picked_mem (z : Str) : ∀ c ∈ (pickedS z).cps.toList, c ∈ z.cps.toList := by
  intro c hc
  have hc : c ∈ List.filterMap (fun i => z.cps[i]?) (slicePicked z none none (some (-1, 0))) := hc
  obtain ⟨i, _, e⟩ := List.mem_filterMap.mp hc
  have := Array.mem_of_getElem? e
  exact Array.mem_toList_iff.mpr this
def tRevS (te : TE) : TE := fun σ H Q => te σ H fun x H1 => ∃ z, x = .str z ∧ z.length ≤ sizeLine ∧ Q (.str (pickedS z)) H1
theorem pe_revS {X : Cx} {e : Expr} {te : TE} {k : Nat} {p1 p2 p3 pos : Pos} (he : PE X e te) : PE X (e.Subscript (.Slice none none (some (.UnaryOp .USub (.Constant (.int 1) k p1) p2)) p3) pos) (tRevS te) := by
  refine ⟨fun pins s σ H Q I h => ?_⟩
  refine Subscript_ (thn (he.run pins s σ H _ I h) fun v s1 ⟨x, H1, I1, r1, q1⟩ => ?_)
  obtain ⟨z, rfl, hz, q⟩ := q1
  obtain ⟨t, rfl⟩ := r1
  refine wpAny_Slice ?_
  refine thn (po_none.run pins s1 σ H1 (fun o H2 => o = none ∧ H2 = H1) I1 ⟨rfl, rfl⟩) fun l s2 ⟨o, H2, I2, pl, el, eh⟩ => ?_
  subst el eh
  refine thn (po_none.run pins s2 σ _ (fun o H2 => o = none ∧ H2 = _) I2 ⟨rfl, rfl⟩) fun u s3 ⟨o, H3, I3, pu, eu, eh⟩ => ?_
  subst eu eh
  refine thn ((po_some (pe_un un_neg pe_int)).run pins s3 σ _ (fun o H2 => o = some (-1) ∧ H2 = _) I3 ⟨1, rfl, -1, rfl, rfl, rfl⟩) fun st s4 ⟨o, H4, I4, ps, es, eh⟩ => ?_
  subst es eh
  cases pl
  cases pu
  cases ps with
  | int i t2 =>
  have I5 := I4.kept (h' := s4.heap.push { cls := .type "slice", data := .fields #[.none, .none, .int (-1) t2] }) (t' := s4.toks) (fun b o e => Heap.get?_push_of_some _ e)
  refine tail_any (T := "str") (ops := [.ref s4.heap.objs.size, .str z t]) rfl (by first | exact PySem.F.slot_str_getitem.lookup | exact Slot.lookup PySem.F.slot_str_getitem | exact PyProof.Rows.slot_str_getitem.lookup | exact L2.slot_str_getitem.lookup) ?_ (by rfl)
  refine wpAny_getItem_str_slice (l := none) (u := none) (st := some (-1, t2)) ⟨_, Heap.get?_push_at rfl rfl, rfl, rfl⟩ (by rfl) ?_
  show Made.post (if ((-1 : Int) == 1 && _) = true then _ else _) _ _
  rw [if_neg (by simp)]
  exact ⟨Nat.le_trans (picked_len z) hz, .str _, _, I5.tok _, ⟨_, rfl⟩, q⟩
end Ms

set_option Elab.async false
set_option linter.all false
set_option maxRecDepth 100000
set_option maxHeartbeats 4000000
/-! isinstance(e, C) of an own exception that has a dict: both answers. -/
namespace Ms
open PySem PySem.Spec PyProof.Rows L2 LamX PySem.W
theorem cls_at {K : PySem.W.Frag} {D : Addr} (hd : hasDictIn K D = true) : ∃ oc od cd sl, K.lookup D = some ⟨oc, od, .cls cd, sl⟩ := by
  obtain ⟨c, e, _⟩ := any_some hd
  unfold clsIn at e
  split at e
  · rename_i a b c2 d ho; exact ⟨_, _, _, _, ho⟩
  · cases e
theorem kitx_excD {K : PySem.W.Frag} {x D : Addr} (C : ExcC K D) : KitX K (.ref x) (.ref D) (fun h => ∃ ox od, InstAt h x ox D od) where
  ty := by
    rintro M h _ ⟨ox, od, I⟩
    exact I.type
  it := by
    intro M h X _
    obtain ⟨oc, od, cd, sl, ho⟩ := cls_at C.hd
    exact fun A' Q' E' s' k q => by unfold isType loadHead; exact wpAny_bind (wpAny_loadPart (k _ _ (X _ _ ho)) (wpAny_pure q))
  ne := by
    intro h tp dd its n sl X htp
    obtain ⟨oc, od, cd, sl2, ho⟩ := cls_at C.hd
    refine Bool.eq_false_iff.mpr (fun q => ?_)
    have e : D = tp := by simpa using q
    rw [← e, X _ _ ho] at htp
    cases htp
  ca := by
    rintro prog w A E Q s X ⟨ox, od, I⟩ k
    exact kx_classE X I C.hg C.hk C.hs (findObj_dataE (by obtain ⟨oc, od', cd, sl, ho⟩ := cls_at C.hd; unfold clsIn; rw [ho]; rfl) C.ha C.hn C.ht) C.hm k
/-- isinstance(n, c), n the exception that the suite holds -/
theorem call_isC {X : Cx} {a : Addr} {oe : Obj} {cls : Value} {d : Option Addr} {pn : List (Addr × Obj)} (hz : Zc cls d oe) (hf : ∃ vs, oe.data = .fields vs) :
    CallR (X.suite a ((a, oe) :: pn)) (.builtin "isinstance") (fun xs H Q => ∃ C C2 b dd, xs = [.ref a, .ref C2] ∧ cls = .ref C ∧ d = some dd ∧ (∃ fs, H dd = some (.xd fs)) ∧ ExcC X.K C ∧ kitOne X.K (.ref C) (.ref C2) = some b ∧ Q (.bl b) H) := by
  rintro pins s σ H xs us Q I r ⟨C, C2, b, dd, rfl, rfl, rfl, ⟨fs, hx⟩, ec, e, q⟩
  cases r with
  | @cons _ u _ us rx rr =>
    cases rr with
    | @cons _ u2 _ us2 rt rr =>
      cases rr
      obtain rfl : u = Value.ref a := rx
      obtain rfl : u2 = Value.ref C2 := rt
      obtain ⟨ha, _⟩ := I.pin (a, oe) (List.mem_append_left _ List.mem_cons_self)
      obtain ⟨vs, hd⟩ := hf
      have hx : ObjOk X.prog X.w H s.heap dd (.xd fs) := I.hok dd _ hx
      obtain ⟨mA, hns, hr⟩ := hx
      obtain ⟨od, ho, hl⟩ := lookIn_ns hns
      have J : PySem.W.InstAt s.heap a oe C (some od) := ⟨ha, hz.1, by unfold PySem.W.notCls; rw [hd] <;> rfl, by rw [hz.2]; exact ho⟩
      exact kia_one (kitx_excD ec) I.kIn ⟨_, _, J⟩ e (fun z => nomatch z) fun tk => ⟨.bl b, H, I.kept (t' := tk) fun _ _ z => z, rfl, q⟩
end Ms

set_option Elab.async false
set_option linter.all false
set_option maxRecDepth 100000
set_option maxHeartbeats 4000000
/-! An own exception that has a dict, as a value: made, its field read, isinstance. -/
namespace Ms
open PySem PySem.Spec PyProof.Rows L2 LamX PySem.W
/-- an exception object of the class C with the dict d, not raised, at a -/
def ExS (C d a : Addr) : HO := .ext fun h => ∃ (oe : Obj) (vs : Array Value), h.get? a = some oe ∧ Zc (.ref C) (some d) oe ∧ oe.data = .fields vs
theorem exS_ok {P : Program} {w : World} {H : Hp} {h : Heap} {a C d : Addr} {oe : Obj} {vs : Array Value} (e : h.get? a = some oe) (z : Zc (.ref C) (some d) oe) (q : oe.data = .fields vs) : ObjOk P w H h a (ExS C d a) :=
  ⟨⟨oe, vs, e, z, q⟩, ⟨oe, e⟩, fun _ _ ⟨o, v, r, t⟩ k => ⟨o, v, k o r, t⟩⟩
section
variable {X : Cx} {C fI : Addr} {nm fld : Str}
/-- nm(e) as a value -/
def tMkV (fld : Str) (C : Addr) (ta : TA) : TE := fun σ H Q => ta σ H fun vs H1 => ∃ v, vs = [v] ∧ ∀ d a, H1 d = none → H1 a = none → d ≠ a → Q (.ref a) (upd (upd H1 d (.xd [(fld, v)])) a (ExS C d a))
theorem pe_mkS {a : Expr} {ta : TA} {p pos : Pos} {k : Nat} (T : Sx.Txt X.prog X.K X.mg nm fld C fI) (hr : Room k X.A) (ha : PA X [a] ta) (hg : Gl X nm := by rfl) (hdb : (nm == ("__debug__" : Str)) = false := by decide)
    (he : starEach (a :: []) X.env = (false, eval a X.env) :: starEach [] X.env := by rfl) (hpl : (backTo pos (starEach [] X.env)).any (·.1) = false := by rfl) :
    PE X (.Call (.Name nm p) [a] [] pos) (tMkV fld C ta) := by
  refine ⟨fun pins s σ H Q I h => ?_⟩
  refine wpAny_Call_Name_kw (ld_glob I hg T.gC ?_ hdb)
  refine PySem.W.callWith_K (h₀ := X.base) I.ok.mod.kin T.kC (thn (ha.run pos pins s σ H _ I h) fun us s1 hh => ?_) he hpl
  obtain ⟨vs, H1, I1, r1, v, rfl, q1⟩ := hh
  refine ⟨I1.kIn, ?_⟩
  cases r1 with
  | @cons _ u' _ us' rv rn =>
    cases rn
    show wpAny _ _ (call (.ref C) [u']) _ _ _
    have hlim := I1.nolimit
    obtain ⟨mb, hb1, hb2⟩ := I1.mod.blt
    have hbs : mb "super" = some (.type "super") := (hb2 _ (by decide)).trans (by decide +kernel)
    have hg1 := I1.mod.glob.keeps I1.bk
    have hb := hb1.keeps I1.bk
    obtain ⟨hp, g, dr, tk, os⟩ := s1
    refine wpAny_call (Sx.ex_made T I1.kIn hg1 hb hbs hlim (by have := hr.dp; omega) fun h' tk' e d M => ?_)
    obtain ⟨t1, hoe⟩ := M.obj
    have ob : ObjOk X.prog X.w (upd H1 d (.xd [(fld, v)])) h' d (.xd [(fld, v)]) := ⟨_, M.ns, fun f => relO_one rv f⟩
    have hd : H1 d = none := I1.hok.fresh M.dbig
    have ha : H1 e = none := I1.hok.fresh M.new
    obtain ⟨G', g1, g2⟩ := restrict h' fun b => decide (b ≠ e)
    have gk : ∀ b, b ≠ e → G'.get? b = h'.get? b := fun b hb => g1 b (decide_eq_true hb)
    have ge : G'.get? e = none := g2 e (by simp)
    have old : ∀ b o, hp.get? b = some o → G'.get? b = some o := fun b o q => (gk b (Nat.ne_of_lt (Nat.lt_of_lt_of_le (Heap.lt_size q) M.new))).trans (M.keep b o q)
    have obG : ObjOk X.prog X.w (upd H1 d (.xd [(fld, v)])) G' d (.xd [(fld, v)]) := ⟨_, M.ns.at (fun o q => (gk d M.dne).trans q), fun f => relO_one rv f⟩
    have J : Inv X pins σ (upd H1 d (.xd [(fld, v)])) ⟨G', g, dr, tk', os⟩ := I1.laid (t' := tk') old M.dbig obG
    have he2 : upd H1 d (.xd [(fld, v)]) e = none := by rw [upd_ne (Ne.symm M.dne)]; exact ha
    have J2 := J.laidN (h' := h') (t' := tk') (a := e) (o := ExS C d e) (fun b o q => by
      by_cases hb : b = e
      · have q' : G'.get? b = some o := q
        rw [hb, ge] at q'; cases q'
      · exact (gk b hb).symm.trans q) ge he2 (exS_ok hoe ⟨rfl, rfl⟩ rfl)
    exact ⟨.ref e, _, J2, rfl, q1 d e hd ha M.dne⟩
/-- e.fld of such a value -/
def tAtS (X : Cx) (fld : Str) (te : TE) : TE := fun σ H Q => te σ H fun x H1 => ∃ (a C d fI : Addr) (nm : Str) (v : V), x = .ref a ∧ Sx.Txt X.prog X.K X.mg nm fld C fI ∧ H1 a = some (ExS C d a) ∧ H1 d = some (.xd [(fld, v)]) ∧ Q v H1
theorem pe_atS {e : Expr} {te : TE} {pos : Pos} (he : PE X e te) (hb : attributeBase e fld X.env (eval e X.env) = eval e X.env := by rfl) : PE X (.Attribute e fld pos) (tAtS X fld te) := by
  refine ⟨fun pins s σ H Q I h => attr_of hb (thn (he.run pins s σ H _ I h) fun u s1 hh => ?_)⟩
  obtain ⟨x, H1, I1, rx, a, C, d, fI, nm, v, rfl, T, ha, ea, q⟩ := hh
  obtain rfl : u = Value.ref a := rx
  obtain ⟨⟨oe, vs, hget, hz, hd⟩, _, _⟩ := I1.hok a _ ha
  have hx : ObjOk X.prog X.w H1 s1.heap d (.xd [(fld, v)]) := I1.hok d _ ea
  obtain ⟨mA, hns, hr⟩ := hx
  obtain ⟨od, ho, hl⟩ := lookIn_ns hns
  have l : List.lookup fld [(fld, v)] = some v := by simp [List.lookup]
  obtain ⟨u, hu, ru⟩ := RelO.some_of (v := v) (o := mA fld) (by rw [← l]; exact hr fld)
  have J : PySem.W.InstAt s1.heap a oe C (some od) := ⟨hget, hz.1, by unfold PySem.W.notCls; rw [hd] <;> rfl, by rw [hz.2]; exact ho⟩
  exact HandSPX.exc_get I1.kIn J T.ga T.gg T.exC (PySem.W.findObj_own T.hdC T.noN rfl (by rw [hl, hu])) (handed_of ru) ⟨v, H1, I1.tok _, ru, q⟩
/-- isinstance(e, c) of such a value -/
def rIsX (K : PySem.W.Frag) : List V → Hp → VK → Prop := fun xs H Q => ∃ (a C d : Addr) (c : V) (cv : Value) (b : Bool) (fs : List (Str × V)), xs = [.ref a, c] ∧ H a = some (ExS C d a) ∧ H d = some (.xd fs) ∧ ExcC K C ∧ ClsV c cv ∧ kitOne K (.ref C) cv = some b ∧ Q (.bl b) H
theorem call_isX : CallR X (.builtin "isinstance") (rIsX X.K) := by
  rintro pins s σ H xs us Q I r ⟨a, C, d, c, cv, b, fs, rfl, ha, hx, ec, k, e, q⟩
  obtain ⟨u1, u2, rfl, r1, r2⟩ := vals2 r
  have e2 := k.eq r2
  subst e2
  obtain rfl : u1 = Value.ref a := r1
  obtain ⟨⟨oe, vs, hget, hz, hd⟩, _, _⟩ := I.hok a _ ha
  have hx : ObjOk X.prog X.w H s.heap d (.xd fs) := I.hok d _ hx
  obtain ⟨mA, hns, hr⟩ := hx
  obtain ⟨od, ho, hl⟩ := lookIn_ns hns
  have J : PySem.W.InstAt s.heap a oe C (some od) := ⟨hget, hz.1, by unfold PySem.W.notCls; rw [hd] <;> rfl, by rw [hz.2]; exact ho⟩
  exact kia_one (kitx_excD ec) I.kIn ⟨_, _, J⟩ e (fun z => nomatch z) fun tk => ⟨.bl b, H, I.kept (t' := tk) fun _ _ z => z, rfl, q⟩
end
theorem ifN {p A B : Prop} [Decidable p] (h : ¬ p) (b : B) : if decide p = true then A else B := by
  rw [decide_eq_false h]
  exact b
theorem ifY {p A B : Prop} [Decidable p] (h : p) (a : A) : if decide p = true then A else B := by
  rw [decide_eq_true h]
  exact a
end Ms

set_option Elab.async false
set_option linter.all false
set_option maxRecDepth 100000
set_option maxHeartbeats 4000000
/-! sorted(a text): its signs, one by one, risen. -/
namespace Ms
open PySem PySem.Spec PyProof.Rows L2 LamX PySem.W
theorem strsAre_of : ∀ (vs : List Value) (xs : List Str), vs.length = xs.length → (∀ (i : Nat) (v : Value), vs[i]? = some v → ∃ (y : Str) (u : Tok), xs[i]? = some y ∧ v = Value.str y u) → StrsAre vs xs
  | [], [], _, _ => .nil
  | [], y :: xs, e, _ => by cases e
  | v :: vs, [], e, _ => by cases e
  | v :: vs, y :: xs, e, h => by
    obtain ⟨y', u, e1, rfl⟩ := h 0 v rfl
    have e1 : some y = some y' := e1
    cases e1
    exact .cons y u (strsAre_of vs xs (by simpa using e) fun i w hw => h (i + 1) w hw)
theorem sorted_text {prog : Program} {w : World} {A : Around} {E : Value → Shared → Prop} {s : Shared} {x : Str} {t : Tok} {Q : Value → Shared → Prop} (hh : A.handled = none) (hL : x.cps.size ≤ sizeLine)
    (hq : ∀ (h' : Heap) (tk : Nat) (p : Addr) (out : Array Value) (e : Nat) (ss : List Str), (∀ b o, s.heap.get? b = some o → h'.get? b = some o) → s.heap.get? p = none → h'.get? p = some (seqObj "list" out e) → StrsAre out.toList ss → ss.Perm (x.cps.toList.map fun c => ⟨#[c]⟩) → sortedS ss = true → Q (.ref p) { s with heap := h', toks := tk }) :
    wpAny (model prog w) A (call (.builtin "sorted") [.str x t]) Q E s := by
  refine Calls.call_function_entry kind_sorted plain_sorted entry_sorted (args_sorted1 _) (by
    unfold Builtin.«sorted»
    refine wpAny_bind (m := checkCount "sorted" 1 1 _) (wpAny_pure (wpAny_bind (wpAny_collect_str (by exact hh) x t (fun s' acc k g d o it => ?_) hL)))
    have hacc : StrsAre acc.toList (x.cps.toList.map fun c => ⟨#[c]⟩) := by
      refine strsAre_of _ _ (by rw [Array.length_toList, it.1, List.length_map, Array.length_toList]) fun i v hv => ?_
      rw [Array.getElem?_toList] at hv
      obtain ⟨c, u, hc, rfl⟩ := it.2 i v hv
      exact ⟨⟨#[c]⟩, u, by rw [List.getElem?_map, Array.getElem?_toList, hc]; rfl, rfl⟩
    obtain ⟨hp, g', d', tk, os⟩ := s'
    obtain ⟨hp0, g0, d0, tk0, os0⟩ := s
    obtain rfl : g' = g0 := g
    obtain rfl : d' = d0 := d
    obtain rfl : os = os0 := o
    refine wpAny_bind (wpAny_newList ?_)
    have hoL : (hp.push (seqObj "list" acc.toList.toArray 0)).get? hp.objs.size = some (seqObj "list" acc.toList.toArray 0) := Heap.get?_push_size _ rfl
    have hl : acc.toList.length ≤ sizeLine := by rw [Array.length_toList, it.1]; exact hL
    refine wpAny_bind (wpAny_holding (wpAny_call_entry slot_list_sort ⟨_, hoL, rfl⟩ entry_list_sort (list_sort_treeKAny strKind_oneLt hoL hacc.keysOf (fun v₁ v₂ rest e => keyKind_strs (by rw [← e]; exact hacc)) hl fun st' h1 h2 => ⟨_, rfl, wpAny_pure ⟨_, rfl, ?_⟩⟩) (args_list_sort _)))
    obtain ⟨ss, a1, a2, a3⟩ := sorted_out_str hacc h1 h2
    obtain ⟨e, he⟩ := sortedHeap_at (out := (arrOf st').map (·.2)) hoL
    refine hq _ _ _ _ e ss (fun b o q => ?_) ?_ he a1 a2 a3
    · have hb := k b o q
      have hlt : b < hp.objs.size := Heap.lt_size hb
      rw [sortedHeap_old (Nat.ne_of_lt hlt) (by rw [Heap.size_push]; exact Nat.lt_succ_of_lt hlt)]
      exact Heap.get?_push_of_some _ hb
    · cases q : hp0.get? hp.objs.size with
      | none => rfl
      | some o => exact absurd (Heap.lt_size (k _ _ q)) (Nat.lt_irrefl _))
/-- sorted(a text) -/
theorem cr_sortedT {X : Cx} (hc : X.calm = true) : CallR X (.builtin "sorted") (fun vs H Q => ∃ z : Str, vs = [V.str z] ∧ z.length ≤ sizeLine ∧ ∀ (ys : List Str) (p : Addr), ys.Perm (z.cps.toList.map fun c => ⟨#[c]⟩) → sortedS ys = true → H p = none → Q (.ref p) (upd H p (.lst (ys.map V.str)))) := by
  intro pins s σ H vs us Q I r h
  obtain ⟨z, rfl, hz, q⟩ := h
  cases r with
  | @cons _ u _ us rx rr =>
    cases rr
    obtain ⟨t, rfl⟩ := rx
    refine sorted_text (I.ok.hd hc) hz fun h' tk p out e ss k hp hg a1 a2 a3 => ?_
    have hn : H p = none := I.hok.gone hp
    have hlen : (ss.map V.str).length ≤ sizeLine := by
      rw [List.length_map, a2.length_eq, List.length_map]
      exact hz
    exact ⟨.ref p, upd H p (.lst (ss.map V.str)), I.laidN (h' := h') (t' := tk) k hp hn ⟨hlen, out.toList, e, vals_of_strs a1, by simpa using hg⟩, rfl, q ss p a2 a3 hn⟩
end Ms

set_option Elab.async false
set_option linter.all false
set_option maxRecDepth 100000
set_option maxHeartbeats 4000000
/-! two, four defaults -/
namespace Ms
open PySem PySem.Spec PyProof.Rows L2 LamX
theorem dfl_two {K : PySem.W.Frag} {t : Addr} {cl : Value} {dd : Option Addr} {n : Nat} {sl : Array (Option Value)} {v1 v2 : V} {u1 u2 : Value} (h : K.lookup t = some ⟨cl, dd, .seq #[u1, u2] n, sl⟩) (r1 : RelV v1 u1) (r2 : RelV v2 u2) : DflV K (.ref t) [v1, v2] :=
  .inr ⟨List.cons_ne_nil _ _, t, _, [u1, u2], n, rfl, h, rfl, .cons r1 (.cons r2 .nil)⟩
theorem dfl_four {K : PySem.W.Frag} {t : Addr} {cl : Value} {dd : Option Addr} {n : Nat} {sl : Array (Option Value)} {v1 v2 v3 v4 : V} {u1 u2 u3 u4 : Value} (h : K.lookup t = some ⟨cl, dd, .seq #[u1, u2, u3, u4] n, sl⟩) (r1 : RelV v1 u1) (r2 : RelV v2 u2) (r3 : RelV v3 u3) (r4 : RelV v4 u4) : DflV K (.ref t) [v1, v2, v3, v4] :=
  .inr ⟨List.cons_ne_nil _ _, t, _, [u1, u2, u3, u4], n, rfl, h, rfl, .cons r1 (.cons r2 (.cons r3 (.cons r4 .nil)))⟩
end Ms

set_option Elab.async false
set_option linter.all false
set_option maxRecDepth 100000
set_option maxHeartbeats 4000000
/-! rules within a comprehension: the written part by its own name -/
namespace Ms
open PySem PySem.Spec PyProof.Rows L2 LamX
section
variable {X : Cx} {K : PySem.W.Frag} (hK : X.K = K)
include hK
theorem pe_joinK {o e : Expr} {to te : TE} {apos pos : Pos} (ho : PE X o to) (he : PE X e te) (hs : starEach [e] X.env = [(false, eval e X.env)] := by rfl) (hbase : attributeBase o "join" X.env (eval o X.env) = eval o X.env := by rfl) (hline : (apos.endLine == pos.line) = true := by rfl) : PE X (.Call (.Attribute o "join" apos) [e] [] pos)
    (tM1 (fun x xs H Q => ∃ a p, ∃ ys : List Str, x = .str a ∧ xs = [.ref p] ∧ (SqL K H p (ys.map V.str) ∨ SqT K H p (ys.map V.str)) ∧ (ys.map (·.length)).sum + ys.length * a.length ≤ 16777216 ∧ Q (.str (Txt.join a ys)) H) to te) := by
  subst hK
  exact pe_join ho he hs hbase hline
theorem pe_ixLK {a b : Expr} {ta tb : TE} {pos : Pos} (ha : PE X a ta) (hb : PE X b tb) (hs : PlainIx b) : PE X (.Subscript a b pos) (tOp (rIxL K) ta tb) := by
  subst hK
  exact pe_ix ix_list ha hb hs
theorem pe_ixTK {a b : Expr} {ta tb : TE} {pos : Pos} (ha : PE X a ta) (hb : PE X b tb) (hs : PlainIx b) : PE X (.Subscript a b pos) (tOp (rIxT K) ta tb) := by
  subst hK
  exact pe_ix ix_tup ha hb hs
theorem call_len_seqK : CallR X (.builtin "len") (fun xs H Q => ∃ p ys, xs = [.ref p] ∧ (SqL K H p ys ∨ SqT K H p ys) ∧ Q (.int ys.length) H) := by
  subst hK
  exact call_len_seq
theorem isiK : CallR X (.builtin "isinstance") (rIsi K) := by
  subst hK
  exact call_isi
theorem isXK : CallR X (.builtin "isinstance") (rIsX K) := by
  subst hK
  exact call_isX
theorem sl_listK : SlR X (rSlL K) := by
  subst hK
  exact sl_list
theorem pe_fldK {e : Expr} {ta : TE} {f : Str} {pos : Pos} (he : PE X e ta) (hb : attributeBase e f X.env (eval e X.env) = eval e X.env) : PE X (.Attribute e f pos) (tFld K ta f) := by
  subst hK
  exact pe_fld he hb
theorem op_in_seqK : OpR X (compareOp .In) (rIn K false) := by
  subst hK
  exact op_in_seq
theorem op_notIn_seqK : OpR X (compareOp .NotIn) (rIn K true) := by
  subst hK
  exact op_notIn_seq
theorem op_eqDK (hu : X.A.units + 64 < cLine) : OpR X (compareOp .Eq) (rEqD K) := by
  subst hK
  exact op_eqD hu
theorem op_neDK (hu : X.A.units + 64 < cLine) : OpR X (compareOp .NotEq) (rNeD K) := by
  subst hK
  exact op_neD hu
theorem op_catK : OpR X (binaryOp .Add) rCat := op_cat
end
end Ms

set_option Elab.async false
set_option linter.all false
set_option maxRecDepth 100000
set_option maxHeartbeats 4000000
/-! a rule told by names -/
namespace Ms
open PySem PySem.Spec PyProof.Rows L2 LamX
def perm4 {α : Type} (us _ds : List α) : List α → List α
  | [a, x, b, e] => us ++ [x, e, b, a]
  | _ => us
theorem perm4_rel {vs ds zs : List V} {us its ws : List Value} (h1 : Vals vs us) (_ : Vals ds its) (h3 : Vals zs ws) : Vals (perm4 vs ds zs) (perm4 us its ws) := by
  cases h3 with
  | nil => exact h1
  | cons ra t => cases t with
    | nil => exact h1
    | cons rx t => cases t with
      | nil => exact h1
      | cons rb t => cases t with
        | nil => exact h1
        | cons re t => cases t with
          | nil => exact h1.append (.cons rx (.cons re (.cons rb (.cons ra .nil))))
          | cons _ _ => exact h1
end Ms

set_option Elab.async false
set_option linter.all false
set_option maxRecDepth 100000
set_option maxHeartbeats 4000000
/-! try whose first clauses have names; what stands behind them is never reached -/
namespace Mu
open PySem PySem.Spec PyProof.Rows L2 Ms
def wUpto (K : PySem.W.Frag) (n : Nat) (Wo : WX) (D : Ends) : List Cl → WX
  | [] => fun _ _ _ _ => False
  | (c, i, ts) :: r => fun cls d σ H => ∃ b, PySem.W.exmOne K cls c = some b ∧ (b = true → ∀ a, H a = none → σ.length = n → ts a cls d (offEnds i D) (σ.set i (some (.ref a))) H) ∧ (b = false → wUpto K n Wo D r cls d σ H)
inductive Upto (X : Cx) : List ExceptHandler → List Cl → Prop
  | nil {hs : List ExceptHandler} : Upto X hs []
  | cons {x n : Str} {c : Value} {i : Nat} {ts : Addr → Value → Option Addr → TS} {b₀ : Stmt} {su : List Stmt} {np pp : Pos} {hs : List ExceptHandler} {l : List Cl} (nc : Names X x c) (ni : X.N[i]? = some n) (nl : X.env.kindOf n = some .local)
      (sr : ∀ (a : Addr) (oe : Obj) (cls : Value) (d : Option Addr) (pn : List (Addr × Obj)), Zc cls d oe → (∃ vs, oe.data = .fields vs) → PSs (X.suite a ((a, oe) :: pn)) (b₀ :: su) (ts a cls d)) (r : Upto X hs l) :
      Upto X (.ExceptHandler (some (.Name x np)) (some n) (b₀ :: su) pp :: hs) ((c, i, ts) :: l)
section
variable {X : Cx} {pins : List (Addr × Obj)} {σ : L2.St} {H : Hp} {sI s : Shared} {B : Heap} {a : Addr} {cls : Value} {d : Option Addr} {D : Ends} {Wo : WX}
theorem upto_run (hst : X.stack = X.env :: X.outer) (hfr : X.env.frame = some X.env.locals) (hN : X.N.Nodup) (tk : Takes X Wo) {hs : List ExceptHandler} {l : List Cl} (C : Upto X hs l) :
    ∀ {s : Shared}, Landed X pins σ H sI s B a cls d → wUpto X.K X.N.length Wo D l cls d σ H → wpAny (model X.prog X.w) X.A (handleBy (.ref a) X.env hs) (SP X pins D) X.xe s := by
  induction C with
  | nil =>
    intro s F q
    exact q.elim
  | @cons x n c i ts b₀ su np pp hs l nc ni nl sr r ih =>
    intro s F q
    obtain ⟨hp, g, dr, tk0, os0⟩ := s
    obtain ⟨b, eb, yes, no⟩ := q
    have J := F.here
    obtain ⟨oe, vs, he, hz, hd⟩ := F.fly.there
    have S := J.suite he hd F.na F.nL F.nF
    have lt : PySem.W.Looks (model X.prog X.w) hp (typeOf (.ref a)) cls := fun A Q E s k y => wpAny_typeOf_ref (k _ _ he) (by rw [hz.1]; exact y)
    have lm := PySem.W.exm_one (M := model X.prog X.w) J.kIn lt eb
    have asked : ∀ {Q : Value → Shared → Prop} {E : Value → Shared → Prop}, Q c ⟨hp, g, dr, tk0, os0⟩ → wpAny (model X.prog X.w) (X.A.mark (some (.ref a))) (eval (.Name x np) X.env) Q E ⟨hp, g, dr, tk0, os0⟩ := fun {Q E} y => by
      obtain ⟨k1, k2, k3 | ⟨k3, k4, k5⟩⟩ := nc
      · exact ld_glob (X := X.suite a ((a, oe) :: (X.pn ++ pins))) S k1 k3 y k2
      · exact ld_blt (X := X.suite a ((a, oe) :: (X.pn ++ pins))) S k1 k3 k4 y k5 k2
    refine wpAny_handleBy_cons (codeAny_handlers_test ?_) (by intro z; cases z)
    refine asked (lm.here ?_)
    cases b with
    | false => exact ih F (no rfl)
    | true =>
      refine codeAny_handlers_suite_as (HandSPX.lands_againZ F.fly fun h4 f4 u4 => ?_)
      have F4 : Landed X pins σ H sI ⟨h4, g, dr, tk0, os0⟩ B a cls d := ⟨F.inv, F.nb, F.up.trans u4, f4, F.na, F.os, F.ag, F.nL, F.nF⟩
      obtain ⟨oe4, vs4, he4, hz4, hd4⟩ := F4.fly.there
      have S4 := F4.here.suite he4 hd4 F.na F.nL F.nF
      refine store_ok (X := X.suite a ((a, oe4) :: (X.pn ++ pins))) (v := .ref a) S4 hN ni (.inl nl) rfl (fun s5 S5 => ?_) (.inr nl)
      refine wpAny_mono ((sr a oe4 cls d (X.pn ++ pins) hz4 ⟨_, hd4⟩).run [] s5 _ H _ S5 (yes rfl a F.na F.inv.len)) (fun f s6 y => ?_) (fun _ _ z => z.elim)
      have off : ∀ {τ : L2.St} {H6 : Hp} {Q : Shared → Prop}, Inv (X.suite a ((a, oe4) :: (X.pn ++ pins))) [] τ H6 s6 → (∀ s7, Inv X pins (τ.set i none) H6 s7 → Q s7) →
          wpAny (model X.prog X.w) X.A (do bindName X.env n .none; unbindBehindTheSuite X.env n pp) (fun _ s7 => Q s7) X.xe s6 := fun {τ H6 Q} S6 k => gone_ok (S6.unsuite J.ok) hN ni nl k
      cases f with
      | ret u =>
        obtain ⟨v6, τ, H6, S6, r6, q6⟩ := y
        exact off S6 fun s7 J7 => ⟨_, _, _, J7, r6, q6⟩
      | next =>
        obtain ⟨τ, H6, S6, q6⟩ := y
        exact off S6 fun s7 J7 => ⟨_, _, J7, q6⟩
      | brk =>
        obtain ⟨τ, H6, S6, q6⟩ := y
        exact off S6 fun s7 J7 => ⟨_, _, J7, q6⟩
      | cont =>
        obtain ⟨τ, H6, S6, q6⟩ := y
        exact off S6 fun s7 J7 => ⟨_, _, J7, q6⟩
/-- try: body, except x as n: suite, except y as m: suite, .. -/
theorem ps_try_upto {body : List Stmt} {h₀ : ExceptHandler} {hs : List ExceptHandler} {l : List Cl} {pos : Pos} {tb : WX → TS} (hst : X.stack = X.env :: X.outer) (hfr : X.env.frame = some X.env.locals) (hN : X.N.Nodup) (tk : Takes X Wo)
    (hb : ∀ (W : WX) (pn : List (Addr × Obj)) (xe : Value → Shared → Prop), Takes (X.tr pn xe) W → PassesOwn (model X.prog X.w) X.A X.env xe → PSs (X.tr pn xe) body (tb W)) (C : Upto X (h₀ :: hs) l) :
    PS X (.Try body (h₀ :: hs) [] [] pos) (fun D σ H => tb (wUpto X.K X.N.length Wo D l) D σ H) := by
  refine ⟨fun pins s σ H D I h => ?_⟩
  have ok := I.ok
  have frm : X.A.frames = some (X.env :: X.outer) := by rw [ok.frames, hst]
  refine wpAny_Try_except (wpAny_mono ((hb (wUpto X.K X.N.length Wo D l) (X.pn ++ pins) _ (fun u s' y => ?_) PassesOwn.looking).run [] s σ H D (I.toTry _) h) (fun f s1 y => ?_) (fun _ _ z => z))
  · obtain ⟨a, B, sI, pins', σ', H', cls, d, rfl, J', nb, up, sky, na, os, ag, q⟩ := y
    show wpAny (model X.prog X.w) X.A (noteFrame (.ref a) X.env) _ _ _
    refine Sky.land Zc.steady frm hfr (by rw [← hst]; exact sky) fun h3 f3 u3 => ?_
    obtain ⟨oe, vs, he, hz, hd⟩ := f3.there
    have out : a ∉ frs (X.env :: X.outer) := fun hm => by
      obtain ⟨_, o', e', nf⟩ := f3.2.2.1.mem hm
      rw [he] at e'
      cases e'
      exact nf _ hd
    refine upto_run hst hfr hN tk C (s := { s' with heap := h3 }) ⟨J'.ofTry ok, nb, up.trans u3, f3, na, os, ag, fun z => out (List.mem_filterMap.mpr ⟨X.env, List.mem_cons_self, by rw [hfr, z]⟩), fun hm => ?_⟩ q
    obtain ⟨e, he2, q2⟩ := List.mem_filterMap.mp hm
    exact out (List.mem_filterMap.mpr ⟨e, List.mem_cons_of_mem _ he2, q2⟩)
  · cases f with
    | next =>
      obtain ⟨σ', H', J', q⟩ := y
      exact wpAny_execs_nil ⟨σ', H', J'.ofTry ok, q⟩
    | ret u =>
      obtain ⟨v, σ', H', J', r, q⟩ := y
      exact ⟨v, σ', H', J'.ofTry ok, r, q⟩
    | brk =>
      obtain ⟨σ', H', J', q⟩ := y
      exact ⟨σ', H', J'.ofTry ok, q⟩
    | cont =>
      obtain ⟨σ', H', J', q⟩ := y
      exact ⟨σ', H', J'.ofTry ok, q⟩
end
end Mu

set_option Elab.async false
set_option linter.all false
set_option maxRecDepth 100000
set_option maxHeartbeats 4000000
/-! Own words for heaps and numbers that all laws share. -/
namespace Ms
open PySem PySem.Spec PyProof.Rows L2
/-- all that was tracked is as it was, but at a -/
def But (a : Addr) (H H' : Hp) : Prop := ∀ b o, b ≠ a → H b = some o → H' b = some o
theorem But.refl (a : Addr) (H : Hp) : But a H H := fun _ _ _ h => h
theorem But.trans {a : Addr} {H H1 H2 : Hp} (x : But a H H1) (y : But a H1 H2) : But a H H2 := fun b o n h => y b o n (x b o n h)
theorem But.upd {a : Addr} {H : Hp} {o : HO} : But a H (upd H a o) := fun b u n h => by rw [upd_ne n]; exact h
theorem Same.but {a : Addr} {H H' : Hp} (x : Same H H') : But a H H' := fun b o _ h => x b o h
theorem same_upd {H : Hp} {p : Addr} {o : HO} (h : H p = none) : Same H (upd H p o) := fun b x e => by
  rw [upd_ne (ne_of_none e h)]
  exact e
theorem But.free {a p : Addr} {H H' : Hp} (x : But a H H') (n : p ≠ a) (h : H' p = none) : H p = none := by
  cases e : H p with
  | none => rfl
  | some o => rw [x p o n e] at h; cases h
/-- the draws' list at a -/
def Src (H : Hp) (a : Addr) : Prop := ∃ x c n : Int, H a = some (.lst [.int x, .int c, .int n])
theorem Src.same {H H' : Hp} {a : Addr} (h : Src H a) (s : Same H H') : Src H' a := let ⟨x, c, n, e⟩ := h; ⟨x, c, n, s _ _ e⟩
theorem Src.ne {H : Hp} {a p : Addr} (h : Src H a) (n : H p = none) : a ≠ p := let ⟨_, _, _, e⟩ := h; ne_of_none e n
theorem fm (a : Int) {b : Int} (h : 0 < b) : 0 ≤ a.fmod b ∧ a.fmod b < b := by
  rw [Int.fmod_eq_emod_of_nonneg a (by omega)]
  exact ⟨Int.emod_nonneg a (by omega), Int.emod_lt_of_pos a h⟩
theorem ne0 {b : Int} (h : 0 < b) : b ≠ 0 := by omega
theorem fd (a : Int) {b : Int} (h : 0 < b) : a.fdiv b = a / b := Int.fdiv_eq_ediv_of_nonneg a (by omega)
theorem bnd0 (a : Int) {b : Int} (h : 0 < b) (h2 : b < 2 ^ 64) : -(2 ^ 64) < a.fmod b ∧ a.fmod b < 2 ^ 64 := by
  have := fm a h
  omega
theorem bnd1 (a : Int) {b : Int} (h : 0 < b) (h2 : b < 2 ^ 63) : -(2 ^ 64) < a.fmod b + 1 ∧ a.fmod b + 1 < 2 ^ 64 := by
  have := fm a h
  omega
/-- the cells that a law goes over -/
theorem cells (ns : List Int) (k : Int) : ∃ cs : List Int, cutV (ns.map V.int ++ [.int 0]) none (some k) = cs.map V.int := by
  refine ⟨((ns ++ [0]).drop (HT.sIx (ns ++ [0]).length 0 none)).take (HT.sIx (ns ++ [0]).length (ns ++ [0]).length (some k) - HT.sIx (ns ++ [0]).length 0 none), ?_⟩
  have e : ns.map V.int ++ [.int 0] = (ns ++ [0]).map V.int := by rw [List.map_append]; rfl
  rw [e]
  unfold cutV
  rw [List.length_map, List.map_take, List.map_drop]
theorem cell_at {cs : List Int} {i : Nat} {v : V} (h : (cs.map V.int)[i]? = some v) : ∃ c, v = .int c := by
  rw [List.getElem?_map] at h
  cases e : cs[i]? with
  | none => rw [e] at h; cases h
  | some c => rw [e] at h; exact ⟨c, (Option.some.inj h).symm⟩
/-! texts as lists of signs -/
abbrev sg (x : Str) : List Nat := x.cps.toList
def ofL (l : List Nat) : Str := ⟨l.toArray⟩
theorem ofL_sg (x : Str) : ofL (sg x) = x := rfl
theorem sg_ofL (l : List Nat) : sg (ofL l) = l := rfl
theorem sg_len (x : Str) : x.length = (sg x).length := by simp [sg, Str.length]
theorem ext_sg {x y : Str} (h : sg x = sg y) : x = y := Str.ext' (Array.toList_inj.mp h)
theorem ofL_len (l : List Nat) : (ofL l).length = l.length := by rw [sg_len, sg_ofL]
theorem sg_app (x y : Str) : sg (x ++ y) = sg x ++ sg y := by
  show (x ++ y).cps.toList = _
  rw [Str.cps_append, Array.toList_append]
theorem cps_get (x : Str) (i : Nat) : x.cps[i]? = (sg x)[i]? := by simp [sg]
theorem size_sg (x : Str) : x.cps.size = (sg x).length := by simp [sg]
theorem join_one : ∀ l : List Nat, Str.join (ofL []) (l.map fun c => ofL [c]) = ofL l
  | [] => rfl
  | [_] => rfl
  | a :: b :: r => by
    have ih := join_one (b :: r)
    refine ext_sg ?_
    show sg (ofL [a] ++ ofL [] ++ Str.join (ofL []) (ofL [b] :: r.map fun c => ofL [c])) = _
    rw [sg_app, sg_app, show Str.join (ofL []) (ofL [b] :: r.map fun c => ofL [c]) = ofL (b :: r) from ih]
    rfl
theorem txt_join (l : List Nat) : Txt.join (ofL []) (l.map fun c => ofL [c]) = ofL l := (TL.join_eq _ _).trans (join_one l)
theorem sum_one : ∀ l : List Nat, ((l.map fun c => ofL [c]).map (·.length)).sum = l.length
  | [] => rfl
  | _ :: r => by
    rw [List.map_cons, List.map_cons, List.sum_cons, sum_one r, List.length_cons, ofL_len, List.length_singleton]
    omega
theorem cut_to (x : Str) (n : Nat) : cutS x none (some (n : Int)) = ofL ((sg x).take n) := by
  refine ext_sg ?_
  show ((x.cps.toList.drop (HT.sIx x.length 0 none)).take (HT.sIx x.length x.length (some (n : Int)) - HT.sIx x.length 0 none)) = (sg x).take n
  rw [HT.sIx_none, HT.sIx_nat, List.drop_zero, Nat.sub_zero, sg_len, ← List.take_eq_take_min]
theorem cut_from (x : Str) (n : Nat) : cutS x (some (n : Int)) none = ofL ((sg x).drop n) := by
  refine ext_sg ?_
  show ((x.cps.toList.drop (HT.sIx x.length 0 (some (n : Int)))).take (HT.sIx x.length x.length none - HT.sIx x.length 0 (some (n : Int)))) = (sg x).drop n
  rw [HT.sIx_none, HT.sIx_nat, sg_len]
  by_cases h : n ≤ (sg x).length
  · rw [Nat.min_eq_left h, ← List.length_drop, List.take_length]
  · have e : (sg x).length ≤ n := by omega
    rw [Nat.min_eq_right e, Nat.sub_self, List.take_zero, List.drop_eq_nil_of_le e]
end Ms

namespace M
open PySem PySem.Spec PyProof.Rows L2 Ms LamX

abbrev prg : Program := PySem.Challenge.pw_markseam_k02_the_common_start
def topS (i : Nat) : Stmt := PySem.Challenge.pw_markseam_k02_the_common_start.main.body.getD i (.Pass ⟨0, 0, 0, 0⟩)
abbrev s_common_start : Stmt := topS 1
abbrev n_common_start : List Str := ["one", "other", "many", "sign", "said"]
theorem sc_common_start : FnScope n_common_start ["one", "other"] (defScope s_common_start) := ⟨rfl, rfl, rfl, by decide +kernel, rfl, by decide +kernel, by decide +kernel⟩
abbrev s_y_mixed : Stmt := topS 3
abbrev n_y_mixed : List Str := ["_law_cell", "_law_k", "_law_number"]
theorem sc_y_mixed : FnScope n_y_mixed ["_law_cell", "_law_k"] (defScope s_y_mixed) := ⟨rfl, rfl, rfl, by decide +kernel, rfl, by decide +kernel, by decide +kernel⟩
abbrev s_y_source : Stmt := topS 4
abbrev n_y_source : List Str := ["_law_cell"]
theorem sc_y_source : FnScope n_y_source ["_law_cell"] (defScope s_y_source) := ⟨rfl, rfl, rfl, by decide +kernel, rfl, by decide +kernel, by decide +kernel⟩
abbrev s_y_take : Stmt := topS 5
abbrev n_y_take : List Str := ["_law_source_here", "_law_many", "_law_found"]
theorem sc_y_take : FnScope n_y_take ["_law_source_here", "_law_many"] (defScope s_y_take) := ⟨rfl, rfl, rfl, by decide +kernel, rfl, by decide +kernel, by decide +kernel⟩
abbrev s_y_text : Stmt := topS 6
abbrev n_y_text : List Str := ["_law_source_here", "_law_signs", "_law_most", "_law_k"]
theorem sc_y_text : FnScope n_y_text ["_law_source_here", "_law_signs", "_law_most"] (defScope s_y_text) := ⟨rfl, rfl, rfl, by decide +kernel, rfl, by decide +kernel, by decide +kernel⟩
abbrev s_y_right : Stmt := topS 7
abbrev n_y_right : List Str := ["_law_one", "_law_other", "_law_found", "_law_many"]
theorem sc_y_right : FnScope n_y_right ["_law_one", "_law_other"] (defScope s_y_right) := ⟨rfl, rfl, rfl, by decide +kernel, rfl, by decide +kernel, by decide +kernel⟩
abbrev s_y_law : Stmt := topS 8
abbrev n_y_law : List Str := ["_law_script", "_law_cell", "_law_source_here", "_law_signs", "_law_way", "_law_begin", "_law_one", "_law_other"]
theorem sc_y_law : FnScope n_y_law ["_law_script"] (defScope s_y_law) := ⟨rfl, rfl, rfl, by decide +kernel, rfl, by decide +kernel, by decide +kernel⟩
structure Env (K : PySem.W.Frag) (mg : Str → Option Value) (base : Heap) : Type where
  f_common_start : Addr
  d_common_start : FuncData
  c_common_start : Addr
  F_common_start : FunC K "common_start" "common_start" s_common_start [] f_common_start d_common_start c_common_start
  g_common_start : mg "common_start" = some (.ref f_common_start)
  b_common_start : Binds K d_common_start ["one", "other"] []
  f_y_mixed : Addr
  d_y_mixed : FuncData
  c_y_mixed : Addr
  F_y_mixed : FunC K "_law_mixed" "_law_mixed" s_y_mixed [] f_y_mixed d_y_mixed c_y_mixed
  g_y_mixed : mg "_law_mixed" = some (.ref f_y_mixed)
  b_y_mixed : Binds K d_y_mixed ["_law_cell", "_law_k"] []
  f_y_source : Addr
  d_y_source : FuncData
  c_y_source : Addr
  F_y_source : FunC K "_law_source" "_law_source" s_y_source [] f_y_source d_y_source c_y_source
  g_y_source : mg "_law_source" = some (.ref f_y_source)
  b_y_source : Binds K d_y_source ["_law_cell"] []
  f_y_take : Addr
  d_y_take : FuncData
  c_y_take : Addr
  F_y_take : FunC K "_law_take" "_law_take" s_y_take [] f_y_take d_y_take c_y_take
  g_y_take : mg "_law_take" = some (.ref f_y_take)
  b_y_take : Binds K d_y_take ["_law_source_here", "_law_many"] []
  f_y_text : Addr
  d_y_text : FuncData
  c_y_text : Addr
  F_y_text : FunC K "_law_text" "_law_text" s_y_text [] f_y_text d_y_text c_y_text
  g_y_text : mg "_law_text" = some (.ref f_y_text)
  b_y_text : Binds K d_y_text ["_law_source_here", "_law_signs", "_law_most"] []
  f_y_right : Addr
  d_y_right : FuncData
  c_y_right : Addr
  F_y_right : FunC K "_law_right" "_law_right" s_y_right [] f_y_right d_y_right c_y_right
  g_y_right : mg "_law_right" = some (.ref f_y_right)
  b_y_right : Binds K d_y_right ["_law_one", "_law_other"] []
  f_y_law : Addr
  d_y_law : FuncData
  c_y_law : Addr
  F_y_law : FunC K "law" "law" s_y_law [] f_y_law d_y_law c_y_law
  g_y_law : mg "law" = some (.ref f_y_law)
  b_y_law : Binds K d_y_law ["_law_script"] []
  z_isinstance : mg "isinstance" = none
  z_len : mg "len" = none
  z_range : mg "range" = none
  z_str : mg "str" = none
  z_zip : mg "zip" = none
variable {w : World} {K : PySem.W.Frag} {mg : Str → Option Value} {base : Heap}
abbrev P : Program := prg
abbrev Env.TL (T : Env K mg base) : List (Addr × Str) := []

/-! The draws. -/
def spMixed : Sp := fun vs H Q _ => ∃ c k : Int, vs = [.int c, .int k] ∧ ∀ r : Int, 0 ≤ r → r < 2147483646 → Q (.int r) H
theorem ok_mixed (T : Env K mg base) : FnOk P w K mg base CX0 1 T.f_y_mixed T.d_y_mixed ["_law_cell", "_law_k"] spMixed := by
  refine T.F_y_mixed.ok sc_y_mixed (fun vs H Q E h => ?_) (fun A outer s H vs Q E hr h => ?_)
  · obtain ⟨c, k, rfl, _⟩ := h
    rfl
  · obtain ⟨c, k, rfl, q⟩ := h
    have nd := sc_y_mixed.nd
    refine ⟨_, pss_cons (ps_set (i := 2) nd rfl (.inl rfl) (pe_op op_modN (pe_op op_mul (pe_op op_add (pe_op op_modN (pv 0) pe_int) pe_int) (pe_op op_add (pe_op op_mul (pv 1) pe_int) pe_int)) pe_int))
      (pss_cons (ps_set (i := 2) nd rfl (.inl rfl) (pe_op op_modN (pe_op op_mul (pe_op op_add (pv 2) (pe_op op_mul (pe_op op_modN (pe_op op_fdivW (pv 0) pe_int) pe_int) (pe_op op_add (pv 1) pe_int))) pe_int) pe_int))
      (pss_cons (ps_set (i := 2) nd rfl (.inl rfl) (pe_op op_modN (pe_op op_mul (pv 2) (pe_op op_add (pe_op op_add (pe_op op_fdivN (pv 2) pe_int) pe_int) (pv 1))) pe_int))
      (pss_one (ps_ret (pe_op op_modN (pe_op op_mul (pv 2) (pe_op op_add (pe_op op_fdivN (pv 2) pe_int) pe_int)) pe_int))))), ?_⟩
    refine ⟨_, rfl, _, _, rfl, rfl, (by show (_ : Int) ≠ 0; decide), _, _, rfl, rfl, _, rfl, _, _, rfl, rfl, .inr ⟨by decide, by decide⟩, _, _, rfl, rfl, _, _, rfl, rfl, .inl ?b1, _, _, rfl, rfl, (by show (_ : Int) ≠ 0; decide), ?_⟩
    case b1 =>
      refine bnd1 c ?_ ?_ <;> decide
    refine ⟨_, rfl, _, rfl, _, _, rfl, rfl, ⟨by decide, by decide⟩, _, _, rfl, rfl, (by show (_ : Int) ≠ 0; decide), _, rfl, _, _, rfl, rfl, _, _, rfl, rfl, .inl ?b2, _, _, rfl, rfl, _, _, rfl, rfl, .inr ⟨by decide, by decide⟩, _, _, rfl, rfl, (by show (_ : Int) ≠ 0; decide), ?_⟩
    case b2 =>
      refine bnd0 _ ?_ ?_ <;> decide
    refine ⟨_, rfl, _, rfl, _, _, rfl, rfl, ⟨by decide, by decide⟩, _, _, rfl, rfl, _, rfl, _, _, rfl, rfl, _, _, rfl, rfl, .inl ?b3, _, _, rfl, rfl, (by show (_ : Int) ≠ 0; decide), ?_⟩
    case b3 =>
      refine bnd0 _ ?_ ?_ <;> decide
    refine ⟨_, rfl, _, rfl, _, _, rfl, rfl, ⟨by decide, by decide⟩, _, _, rfl, rfl, _, _, rfl, rfl, .inl ?b4, _, _, rfl, rfl, (by show (_ : Int) ≠ 0; decide), ?_⟩
    case b4 =>
      refine bnd0 _ ?_ ?_ <;> decide
    refine q _ (fm _ (by decide)).1 (Int.lt_of_lt_of_le (fm _ (by decide)).2 (by decide))
def spSource : Sp := fun vs H Q _ => ∃ c : Int, vs = [.int c] ∧ ∀ p, H p = none → ∀ H', Same H H' → Src H' p → Q (.ref p) H'
theorem ok_source (T : Env K mg base) : FnOk P w K mg base CX0 1 T.f_y_source T.d_y_source ["_law_cell"] spSource := by
  refine T.F_y_source.ok sc_y_source (fun vs H Q E h => ?_) (fun A outer s H vs Q E hr h => ?_)
  · obtain ⟨c, rfl, _⟩ := h
    rfl
  · obtain ⟨c, rfl, q⟩ := h
    refine ⟨_, pss_one (ps_ret (pe_lst (pa_cons (pv 0) (pa_cons (pv 0) (pa_cons pe_int pa_nil))))), ?_⟩
    refine ⟨_, rfl, _, rfl, by show 3 ≤ sizeLine; decide, fun p hp => ?_⟩
    exact q p hp _ (same_upd hp) ⟨_, _, _, upd_same⟩
def spTake : Sp := fun vs H Q _ => ∃ (a : Addr) (m : Int), vs = [.ref a, .int m] ∧ Src H a ∧ 0 < m ∧ m < 1073741824 ∧ ∀ (r : Int) H', 0 ≤ r → r < m → Src H' a → But a H H' → Q (.int r) H'
theorem ok_take (T : Env K mg base) : FnOk P w K mg base CX0 2 T.f_y_take T.d_y_take ["_law_source_here", "_law_many"] spTake := by
  refine T.F_y_take.ok sc_y_take (fun vs H Q E h => ?_) (fun A outer s H vs Q E hr h => ?_)
  · obtain ⟨a, m, rfl, _⟩ := h
    rfl
  · obtain ⟨a, m, rfl, ⟨x, c, n, ha⟩, m0, m1, q⟩ := h
    have nd := sc_y_take.nd
    have mz : m ≠ 0 := by omega
    refine ⟨_, pss_cons (ps_if (pt_cmpR op_ge (pe_ix ix_list (pv 0) pe_int (fun _ _ => rfl)) (pe_op op_pow pe_int pe_int) (nomark _))
        (pss_cons (ps_set (i := 2) nd rfl (.inl rfl) (pe_op op_modN (pe_ix ix_list (pv 0) pe_int (fun _ _ => rfl)) (pv 1)))
          (pss_cons (ps_asg (pe_op op_fdivN (pe_ix ix_list (pv 0) pe_int (fun _ _ => rfl)) (pv 1)) (pg_sub (pv 0) pe_int set_list)) (pss_one (ps_ret (pv 2))))) pss_nil)
      (pss_cons (ps_asg (pe_op op_add (pe_ix ix_list (pv 0) pe_int (fun _ _ => rfl)) pe_int) (pg_sub (pv 0) pe_int set_list))
      (pss_one (ps_ret (pe_op op_modN (pe_call (ok_mixed T) hr (by rfl) T.g_y_mixed T.F_y_mixed.kp T.b_y_mixed .nil pass0 (pa_cons (pe_ix ix_list (pv 0) pe_int (fun _ _ => rfl)) (pa_cons (pe_ix ix_list (pv 0) pe_int (fun _ _ => rfl)) pa_nil))) (pv 1))))), ?_⟩
    refine ⟨_, rfl, a, _, _, _, rfl, rfl, SqL.of ha, atI_nat (j := 0) rfl, _, _, rfl, rfl, ⟨by decide, by decide, by decide⟩, _, _, rfl, rfl, _, rfl, ite2 (fun _ => ?_) (fun _ => ?_)⟩
    · refine ⟨_, rfl, a, _, _, _, rfl, rfl, SqL.of ha, atI_nat (j := 0) rfl, _, rfl, _, _, rfl, rfl, mz, ?_⟩
      refine ⟨_, rfl, a, _, _, _, rfl, rfl, SqL.of ha, atI_nat (j := 0) rfl, _, rfl, _, _, rfl, rfl, ⟨mz, by omega⟩, _, rfl, a, _, _, 0, rfl, rfl, ha, rfl, ?_⟩
      refine ⟨_, rfl, ?_⟩
      exact q _ _ (fm _ m0).1 (fm _ m0).2 ⟨_, _, _, upd_same⟩ But.upd
    · refine ⟨_, rfl, a, _, _, _, rfl, rfl, SqL.of ha, atI_nat (j := 2) rfl, _, _, rfl, rfl, _, rfl, a, _, _, 2, rfl, rfl, ha, rfl, ?_⟩
      refine ⟨_, rfl, a, _, _, _, rfl, rfl, SqL.of upd_same, atI_nat (j := 1) rfl, _, rfl, a, _, _, _, rfl, rfl, SqL.of upd_same, atI_nat (j := 2) rfl, ?_⟩
      refine ⟨_, _, rfl, fun r _ _ => ⟨_, rfl, _, _, rfl, rfl, mz, ?_⟩⟩
      exact q _ _ (fm _ m0).1 (fm _ m0).2 ⟨_, _, _, upd_same⟩ But.upd

/-! texts of drawn signs -/
def spText : Sp := fun vs H Q _ => ∃ (a : Addr) (z : List Nat) (m : Int), vs = [.ref a, .str (ofL z), .int m] ∧ Src H a ∧ 0 < z.length ∧ z.length ≤ 1000 ∧ 0 ≤ m ∧ m ≤ 1000 ∧
  ∀ (l : List Nat) H', (l.length : Int) ≤ m → (∀ c ∈ l, c ∈ z) → Src H' a → But a H H' → Q (.str (ofL l)) H'
theorem ok_text (T : Env K mg base) : FnOk P w K mg base CX0 3 T.f_y_text T.d_y_text ["_law_source_here", "_law_signs", "_law_most"] spText := by
  refine T.F_y_text.ok sc_y_text (fun vs H Q E h => ?_) (fun A outer s H vs Q E hr h => ?_)
  · obtain ⟨a, z, m, rfl, _⟩ := h
    rfl
  · obtain ⟨a, z, m, rfl, hS, z0, z1, m0, m1, q⟩ := h
    have nd := sc_y_text.nd
    refine ⟨_, pss_one (ps_ret (pe_join pe_str (pe_lc (own := [("_law_k", 3)]) (g := gName 3) (tt := tYes) (by rfl) nd
      (pi_range1 rfl T.z_range (pa_cons (pe_call (ok_take T) hr (by rfl) T.g_y_take T.F_y_take.kp T.b_y_take .nil pass0 (pa_cons (pv 0) (pa_cons (pe_op op_add (pv 2) pe_int) pa_nil))) pa_nil))
      (blkOk_by (own := [("_law_k", 3)]) (N := n_y_text) (sc := defScope s_y_text) (by decide +kernel)) (fun _ _ _ _ _ => pg_name (i := 3) nd rfl (Or.inl rfl)) (fun _ _ _ _ _ => pts_nil)
      (fun _ _ _ _ _ => pe_item_str (pv 1) (pe_call (ok_take T) hr (by rfl) T.g_y_take T.F_y_take.kp T.b_y_take .nil pass0 (pa_cons (pv 0) (pa_cons (pe_callB call_len_str (by rfl) T.z_len PySem.boot_len (pa_cons (pv 1) pa_nil)) pa_nil))) (fun _ _ => rfl))))), ?_⟩
    refine ⟨⟨_, rfl⟩, _, rfl, _, rfl, _, _, rfl, rfl, a, _, rfl, hS, by omega, by omega, fun r H1 r0 r1 hS1 b1 => ?_⟩
    refine ⟨r, rfl, by omega, by omega, fun D hD => ?_⟩
    have naD : a ≠ D := hS1.ne hD
    refine lc_range (lo := 0) (n := r.toNat) (fun i H' => ∃ l : List Nat, l.length = i ∧ (∀ c ∈ l, c ∈ z) ∧ H' D = some (.lst (l.map fun c => V.str (ofL [c]))) ∧ Src H' a ∧ ∀ b o, b ≠ a → b ≠ D → H1 b = some o → H' b = some o)
      ⟨[], rfl, fun _ h => (nomatch h), upd_same, hS1.same (same_upd hD), fun b o _ n e => by rw [upd_ne n]; exact e⟩ (fun i H2 hi hP => ?_) (fun H2 hP => ?_)
    · obtain ⟨l, el, hl, hd, hS2, k2⟩ := hP
      refine ⟨rfl, ?_⟩
      refine ⟨_, rfl, _, rfl, _, rfl, _, rfl, by rw [ofL_len, sizeLine_eq]; omega, a, _, rfl, hS2, by rw [ofL_len]; omega, by rw [ofL_len]; omega, fun r' H3 q0 q1 hS3 b3 => ?_⟩
      rw [ofL_len] at q1
      have hr' : r'.toNat < z.length := by omega
      refine ⟨ofL z, r', z[r'.toNat], rfl, rfl, q0, by omega, by rw [ofL_len]; exact q1, ?_, _, b3 D _ (Ne.symm naD) hd, by rw [List.length_map, sizeLine_eq]; omega, l ++ [z[r'.toNat]], ?_, ?_, ?_, ?_, ?_⟩
      · rw [cps_get, sg_ofL, List.getElem?_eq_getElem hr']
      · rw [List.length_append, el]; rfl
      · intro c hc
        rcases List.mem_append.mp hc with hc | hc
        · exact hl c hc
        · rw [List.mem_singleton.mp hc]; exact List.getElem_mem _
      · rw [upd_same, List.map_append]; rfl
      · obtain ⟨x, c, n, e⟩ := hS3
        exact ⟨x, c, n, by rw [upd_ne naD]; exact e⟩
      · intro b o n1 n2 e
        rw [upd_ne n2]
        exact b3 b o n1 (k2 b o n1 n2 e)
    · obtain ⟨l, el, hl, hd, hS2, k2⟩ := hP
      refine ⟨ofL [], D, l.map fun c => ofL [c], rfl, rfl, .inl (SqL.of (by rw [hd, List.map_map]; rfl)), ?_, ?_⟩
      · rw [sum_one]
        show l.length + _ * 0 ≤ _
        omega
      · show Q (.str (Txt.join (ofL []) (l.map fun c => ofL [c]))) H2
        rw [txt_join]
        refine q l H2 (by omega) hl hS2 (fun b o n e => ?_)
        have n2 : b ≠ D := ne_of_none (b1 b o n e) hD
        exact k2 b o n n2 (b1 b o n e)

/-! the common start -/
/-- n signs are the common start of x and y -/
def Com (x y : List Nat) (n : Nat) : Prop := n ≤ x.length ∧ n ≤ y.length ∧ x.take n = y.take n ∧ ∀ c d, x[n]? = some c → y[n]? = some d → c ≠ d
theorem Com.symm {x y : List Nat} {n : Nat} (h : Com x y n) : Com y x n := ⟨h.2.1, h.1, h.2.2.1.symm, fun c d a b e => h.2.2.2 d c b a e.symm⟩
theorem take_get {x y : List Nat} {n m : Nat} (h : x.take n = y.take n) (hm : m < n) : x[m]? = y[m]? := by
  have e : (x.take n)[m]? = (y.take n)[m]? := by rw [h]
  rwa [List.getElem?_take_of_lt hm, List.getElem?_take_of_lt hm] at e
theorem Com.le {x y : List Nat} {n m : Nat} (h : Com x y n) (k : Com x y m) : m ≤ n := by
  refine Nat.le_of_not_lt fun q => ?_
  have hx : n < x.length := Nat.lt_of_lt_of_le q k.1
  have e := take_get k.2.2.1 q
  have ex : x[n]? = some x[n] := List.getElem?_eq_getElem hx
  exact h.2.2.2 _ _ ex (e.symm.trans ex) rfl
theorem Com.uniq {x y : List Nat} {n m : Nat} (h : Com x y n) (k : Com x y m) : n = m := Nat.le_antisymm (k.le h) (h.le k)
theorem sw_iff (x y : List Nat) : Txt.startswith (ofL y) (ofL x) = decide (x <+: y) := by
  show (decide (0 + (ofL x).length ≤ (ofL y).length) && Builtin.Str.subAt (ofL y) (ofL x) 0) = _
  rw [StrLaws.subAt_eq, ofL_len, ofL_len]
  show (decide (0 + x.length ≤ y.length) && ((y.drop 0).take x.length == x)) = _
  rw [List.drop_zero, Bool.eq_iff_iff, Bool.and_eq_true, decide_eq_true_iff, beq_iff_eq, decide_eq_true_iff]
  exact ⟨fun ⟨_, h⟩ => h ▸ List.take_prefix _ _, fun h => ⟨by have := h.length_le; omega, (List.prefix_iff_eq_take.mp h).symm⟩⟩
def spCommon : Sp := fun vs H Q _ => ∃ x y : List Nat, vs = [.str (ofL x), .str (ofL y)] ∧ x.length ≤ 1000 ∧ y.length ≤ 1000 ∧ ∀ n H', Com x y n → Same H H' → Q (.str (ofL (x.take n))) H'
theorem ok_common_start (T : Env K mg base) : FnOk P w K mg base CX0 1 T.f_common_start T.d_common_start ["one", "other"] spCommon := by
  refine T.F_common_start.ok sc_common_start (fun vs H Q E h => ?_) (fun A outer s H vs Q E hr h => ?_)
  · obtain ⟨x, y, rfl, _⟩ := h
    rfl
  · obtain ⟨x, y, rfl, lx, ly, q⟩ := h
    have nd := sc_common_start.nd
    refine ⟨_, (pss_cons (ps_if (pt_val (pe_m1 PySem.F.slot_str_startswith PySem.F.type_str_startswith mt_startswith (pv 1) (pv 0)))
        (pss_one (ps_ret (pv 0)))
        pss_nil) <|
      pss_cons (ps_if (pt_val (pe_m1 PySem.F.slot_str_startswith PySem.F.type_str_startswith mt_startswith (pv 0) (pv 1)))
        (pss_one (ps_ret (pv 1)))
        pss_nil) <|
      pss_cons (ps_set (i := 2) nd rfl (by first | exact .inl rfl | exact .inr rfl) pe_int) <|
      pss_cons (ps_for PassesOwn.never rfl (pi_zs (by rfl) T.z_zip (pa_cons (pv 0) (pa_cons (pv 1) pa_nil))) (pg_tup (by rfl) (pgs_cons (pg_name (i := 3) nd rfl (by first | exact .inl rfl | exact .inr rfl)) (pgs_cons (pg_name (i := 4) nd rfl (by first | exact .inl rfl | exact .inr rfl)) pgs_nil)))
        (pss_cons (ps_if (pt_cmpR op_ne (pv 3) (pv 4) (nomark _))
          (pss_one ps_break)
          pss_nil) <|
        (pss_one (ps_aug (i := 2) nd rfl (by first | exact .inl rfl | exact .inr rfl) pe_int ip_add)))) <|
      (pss_one (ps_ret (pe_slice sl_str (pv 0) po_none (po_some (pv 2)))))), ?_⟩
    refine ⟨_, rfl, ⟨_, rfl⟩, _, rfl, _, _, rfl, rfl, _, rfl, ?_⟩
    rw [sw_iff]
    by_cases hp : x <+: y
    · rw [decide_eq_true hp]
      refine iteT ⟨_, rfl, ?_⟩
      have := q x.length H ⟨Nat.le_refl _, hp.length_le, by rw [List.take_length]; exact (List.prefix_iff_eq_take.mp hp), fun c d a _ => absurd (List.getElem?_eq_some_iff.mp a).1 (Nat.lt_irrefl _)⟩ (Same.refl _)
      rwa [List.take_length] at this
    rw [decide_eq_false hp]
    refine iteF ?_
    refine ⟨_, rfl, ⟨_, rfl⟩, _, rfl, _, _, rfl, rfl, _, rfl, ?_⟩
    rw [sw_iff]
    by_cases hp2 : y <+: x
    · rw [decide_eq_true hp2]
      refine iteT ⟨_, rfl, ?_⟩
      have := q y.length H ⟨hp2.length_le, Nat.le_refl _, by rw [List.take_length]; exact (List.prefix_iff_eq_take.mp hp2).symm, fun c d _ a => absurd (List.getElem?_eq_some_iff.mp a).1 (Nat.lt_irrefl _)⟩ (Same.refl _)
      rwa [← List.prefix_iff_eq_take.mp hp2] at this
    rw [decide_eq_false hp2]
    refine iteF ?_
    refine ⟨_, rfl, _, rfl, ofL x, _, rfl, .inl ⟨_, rfl, ?_⟩⟩
    -- what follows the loop, from a place
    have fin : ∀ (n : Nat) (u v : Option V) H', Com x y n → Same H H' → (tRet (tSl rSlS (tVar 0) (fun σ H Q => Q none H) (fun σ H Q => tVar 2 σ H fun v H1 => ∃ i, v = .int i ∧ Q (some i) H1))) { nx := fun _ H' => Q .non H', rt := Q } [some (.str (ofL x)), some (.str (ofL y)), some (.int (n : Int)), u, v] H' := fun n u v H' hc hs => by
      refine ⟨_, rfl, _, rfl, _, rfl, ofL x, rfl, by rw [ofL_len, sizeLine_eq]; omega, ?_⟩
      rw [cut_to, sg_ofL]
      exact q n H' hc hs
    refine for_it walk_ss (fun i σ H' => ∃ u v, σ = [some (.str (ofL x)), some (.str (ofL y)), some (.int (i : Int)), u, v] ∧ Same H H' ∧ x.take i = y.take i) ⟨none, none, rfl, Same.refl _, rfl⟩ (fun _ _ _ _ _ => trivial) ?_ ?_
    · rintro i v σ H1 H2 hi ⟨u, v', rfl, hs, et⟩ ⟨t, c, d, rfl, ht, rfl, ec, ed⟩
      rw [cps_get, sg_ofL] at ec ed
      have hs2 := hs.trans (same_upd ht (o := .tup [.str ⟨#[c]⟩, .str ⟨#[d]⟩]))
      refine ⟨t, _, rfl, SqT.of upd_same, rfl, _, _, rfl, _, _, rfl, rfl, ?_⟩
      refine ⟨_, rfl, _, rfl, rfl, _, rfl, ?_⟩
      have hx : i < x.length := (List.getElem?_eq_some_iff.mp ec).1
      have hy : i < y.length := (List.getElem?_eq_some_iff.mp ed).1
      by_cases e : c = d
      · subst e
        rw [decide_eq_true rfl]
        refine iteF ?_
        refine ⟨_, rfl, _, _, rfl, rfl, _, _, rfl, hs2, ?_⟩
        rw [List.take_add_one, List.take_add_one, et, ec, ed]
      · have hne : (V.str ⟨#[c]⟩ : V) ≠ V.str ⟨#[d]⟩ := fun h => e (by simpa using h)
        rw [decide_eq_false hne]
        refine iteT ?_
        exact fin i _ _ _ ⟨Nat.le_of_lt hx, Nat.le_of_lt hy, et, fun c' d' a b z => e (by rw [ec] at a; rw [ed] at b; cases a; cases b; exact z)⟩ hs2
    · rintro σ H1 ⟨u, v, rfl, hs, et⟩
      rw [size_sg, size_sg, sg_ofL, sg_ofL] at et ⊢
      refine fin _ _ _ _ ⟨Nat.min_le_left _ _, Nat.min_le_right _ _, et, fun c d a b => ?_⟩ hs
      have h1 := (List.getElem?_eq_some_iff.mp a).1
      have h2 := (List.getElem?_eq_some_iff.mp b).1
      omega

/-! what the law looks at -/
def spRight : Sp := fun vs H Q _ => ∃ x y : List Nat, vs = [.str (ofL x), .str (ofL y)] ∧ x.length ≤ 1000 ∧ y.length ≤ 1000 ∧ ∀ H', Same H H' → Q (.bl true) H'
theorem ofL_inj {x y : List Nat} (h : ofL x = ofL y) : x = y := by
  have e := congrArg sg h
  rwa [sg_ofL, sg_ofL] at e
theorem ok_right (T : Env K mg base) : FnOk P w K mg base CX0 2 T.f_y_right T.d_y_right ["_law_one", "_law_other"] spRight := by
  refine T.F_y_right.ok sc_y_right (fun vs H Q E h => ?_) (fun A outer s H vs Q E hr h => ?_)
  · obtain ⟨x, y, rfl, _⟩ := h
    rfl
  · obtain ⟨x, y, rfl, lx, ly, q⟩ := h
    have nd := sc_y_right.nd
    refine ⟨_, pss_cons (ps_set (i := 2) nd rfl (.inl rfl) (pe_call (ok_common_start T) hr (by rfl) T.g_common_start T.F_common_start.kp T.b_common_start .nil pass0 (pa_cons (pv 0) (pa_cons (pv 1) pa_nil))))
      (pss_cons (ps_if (pt_not (pt_val (pe_callB call_isi (by rfl) T.z_isinstance boot_isinstance (pa_cons (pv 2) (pa_cons (pe_bltn (v := .ty "str") (by rfl) T.z_str PyProof.Rows.boot_str rfl) pa_nil))))) (pss_one (ps_ret pe_bl)) pss_nil)
      (pss_cons (ps_set (i := 3) nd rfl (.inl rfl) (pe_callB call_len_str (by rfl) T.z_len PySem.boot_len (pa_cons (pv 2) pa_nil)))
      (pss_cons (ps_if (PW.pt (pw_or (pt_cmpR op_ne (pe_slice sl_str (pv 0) po_none (po_some (pv 3))) (pv 2) (nomark _)) (pw_or1 (pt_cmpR op_ne (pe_slice sl_str (pv 1) po_none (po_some (pv 3))) (pv 2) (nomark _))))) (pss_one (ps_ret pe_bl)) pss_nil)
      (pss_cons (ps_if (PW.pt (pw_and (pt_cmpR op_lt (pv 3) (pe_callB call_len_str (by rfl) T.z_len PySem.boot_len (pa_cons (pv 0) pa_nil)) (nomark _)) (pw_and (pt_cmpR op_lt (pv 3) (pe_callB call_len_str (by rfl) T.z_len PySem.boot_len (pa_cons (pv 1) pa_nil)) (nomark _))
          (pw_and1 (pt_cmpR op_eq (pe_item_str (pv 0) (pv 3) (fun _ _ => rfl)) (pe_item_str (pv 1) (pv 3) (fun _ _ => rfl)) (nomark _)))))) (pss_one (ps_ret pe_bl)) pss_nil)
      (pss_one (ps_ret (pe_and (pe_cmpR op_eq (pe_call (ok_common_start T) hr (by rfl) T.g_common_start T.F_common_start.kp T.b_common_start .nil pass0 (pa_cons (pv 1) (pa_cons (pv 0) pa_nil))) (pv 2) (nomark _))
        (pe_one (pe_cmpR op_eq (pe_call (ok_common_start T) hr (by rfl) T.g_common_start T.F_common_start.kp T.b_common_start .nil pass0 (pa_cons (pv 0) (pa_cons (pv 0) pa_nil))) (pv 0) (nomark _)))))))))), ?_⟩
    refine ⟨_, rfl, _, rfl, x, y, rfl, lx, ly, fun n H1 hc s1 => ?_⟩
    have ln : (x.take n).length = n := by rw [List.length_take]; exact Nat.min_eq_left hc.1
    refine ⟨_, rfl, _, _, _, _, _, rfl, .ty "str", .base (.str _), rfl, true, rfl, ?_⟩
    refine ⟨_, rfl, _, rfl, by rw [ofL_len, ln, sizeLine_eq]; have := hc.1; omega, ?_⟩
    rw [ofL_len, ln]
    refine ⟨_, rfl, _, rfl, _, rfl, ofL x, rfl, by rw [ofL_len, sizeLine_eq]; omega, _, rfl, rfl, _, rfl, ?_⟩
    rw [cut_to, sg_ofL, decide_eq_true rfl]
    refine iteF ?_
    refine ⟨_, rfl, _, rfl, _, rfl, ofL y, rfl, by rw [ofL_len, sizeLine_eq]; omega, _, rfl, rfl, _, rfl, ?_⟩
    rw [cut_to, sg_ofL, ← hc.2.2.1, decide_eq_true rfl]
    refine iteF ?_
    have rest : (tRet (tAndV (tOp rEq (tCall spCommon [] E0 (tCons (tVar 1) (tCons (tVar 0) tNil))) (tVar 2)) (tOp rEq (tCall spCommon [] E0 (tCons (tVar 0) (tCons (tVar 0) tNil))) (tVar 0)))) { nx := fun _ H' => Q .non H', rt := Q } [some (.str (ofL x)), some (.str (ofL y)), some (.str (ofL (x.take n))), some (.int (n : Int))] H1 := by
      refine ⟨_, rfl, _, rfl, y, x, rfl, ly, lx, fun n2 H2 h2 s2 => ⟨_, rfl, rfl, true, ?_, ?_⟩⟩
      · rw [hc.symm.uniq h2, h2.2.2.1, decide_eq_true rfl]
      · refine iteT ?_
        refine ⟨_, rfl, _, rfl, x, x, rfl, lx, lx, fun n3 H3 h3 s3 => ⟨_, rfl, rfl, ?_⟩⟩
        have e3 : n3 = x.length := h3.uniq ⟨Nat.le_refl _, Nat.le_refl _, rfl, fun c d a _ => absurd (List.getElem?_eq_some_iff.mp a).1 (Nat.lt_irrefl _)⟩
        rw [e3, List.take_length, decide_eq_true rfl]
        exact q H3 ((s1.trans s2).trans s3)
    refine ⟨_, rfl, _, rfl, _, rfl, by rw [ofL_len, sizeLine_eq]; omega, _, _, rfl, rfl, _, rfl, ?_⟩
    rw [ofL_len]
    refine ite2 (fun e1 => ?_) (fun _ => iteF rest)
    refine ⟨_, rfl, _, rfl, _, rfl, by rw [ofL_len, sizeLine_eq]; omega, _, _, rfl, rfl, _, rfl, ?_⟩
    rw [ofL_len]
    refine ite2 (fun e2 => ?_) (fun _ => iteF rest)
    have g1 : n < x.length := by have := of_decide_eq_true e1; omega
    have g2 : n < y.length := by have := of_decide_eq_true e2; omega
    have a1 : (sg (ofL x))[n]? = some x[n] := List.getElem?_eq_getElem g1
    have a2 : (sg (ofL y))[n]? = some y[n] := List.getElem?_eq_getElem g2
    refine ⟨_, rfl, _, rfl, ofL x, n, x[n], rfl, rfl, by omega, by omega, by rw [ofL_len]; omega, by rw [cps_get]; exact a1, ?_⟩
    refine ⟨_, rfl, _, rfl, ofL y, n, y[n], rfl, rfl, by omega, by omega, by rw [ofL_len]; omega, by rw [cps_get]; exact a2, rfl, _, rfl, ?_⟩
    have hne : (V.str ⟨#[x[n]]⟩ : V) ≠ V.str ⟨#[y[n]]⟩ := fun h => hc.2.2.2 _ _ a1 a2 (by simpa using h)
    rw [decide_eq_false hne]
    exact iteF rest

/-! the law -/
abbrev LCX : CXT := CX0
abbrev lvl : Nat := 4
theorem lcx0 {H : Hp} {s : Shared} {e : Value} {s' : Shared} (h : LCX [] H s (fun _ _ _ => False) e s') : False := h
def spLaw (K : PySem.W.Frag) (TL : List (Addr × Str)) : Sp := fun vs H Q _ => ∃ (a : Addr) (ns : List Int), vs = [.ref a] ∧ SqL K H a (ns.map V.int) ∧ ns.length ≤ 63 ∧ Tabs TL H ∧ ∀ H', Q (.bl true) H'
theorem both : ∀ (r : Int), 0 ≤ r → r < 2 → ∃ z : List Nat, 0 < z.length ∧ z.length ≤ 1000 ∧ atI [V.str (Str.ofString "ABCDEFGHIJKLMNOPQRSTUVWXYZabcdefghijklmnopqrstuvwxyz"), V.str (Str.ofString "kQ")] r = some (.str (ofL z)) := by
  intro r h0 h1
  have h : r = ((0 : Nat) : Int) ∨ r = ((1 : Nat) : Int) := by omega
  rcases h with rfl | rfl
  · exact ⟨sg (Str.ofString "ABCDEFGHIJKLMNOPQRSTUVWXYZabcdefghijklmnopqrstuvwxyz"), by decide +kernel, by decide +kernel, atI_nat (j := 0) rfl⟩
  · exact ⟨sg (Str.ofString "kQ"), by decide +kernel, by decide +kernel, atI_nat (j := 1) rfl⟩
theorem S_app (x y : List Nat) : ofL x ++ ofL y = ofL (x ++ y) := ext_sg (sg_app _ _)
/-- between the ways: two short texts -/
def Mid (H0 : Hp) (a s : Addr) (z b : List Nat) (way : Int) (σ : L2.St) (H : Hp) : Prop :=
  ∃ (c : V) (x y : List Nat), σ = [some (.ref a), some c, some (.ref s), some (.str (ofL z)), some (.int way), some (.str (ofL b)), some (.str (ofL x)), some (.str (ofL y))] ∧ x.length ≤ 100 ∧ y.length ≤ 100 ∧ Same H0 H
theorem ok_law (T : Env K mg base) : FnOk P w K mg base LCX lvl T.f_y_law T.d_y_law ["_law_script"] (spLaw K T.TL) := by
  refine T.F_y_law.ok sc_y_law (fun vs H Q E h => ?_) (fun A outer s H vs Q E hr h => ?_)
  · obtain ⟨a, ns, rfl, _⟩ := h
    rfl
  · obtain ⟨a, ns, rfl, hS, hlen, _, q⟩ := h
    have nd := sc_y_law.nd
    refine ⟨_, pss_cons (ps_for PassesOwn.never rfl (pi_list (pe_slice sl_list (pe_op op_catS (pv 0) (pe_lst (pa_cons pe_int pa_nil))) po_none (po_some pe_int))) (pg_name (i := 1) nd rfl (.inl rfl)) (
        pss_cons (ps_set (i := 2) nd rfl (.inl rfl) (pe_call (ok_source T) (hr.mono (by decide)) (by rfl) T.g_y_source T.F_y_source.kp T.b_y_source .nil pass0 (pa_cons (pv 1) pa_nil))) <|
        pss_cons (ps_set (i := 3) nd rfl (.inl rfl) (pe_ix ix_list (pe_lst (pa_cons pe_str (pa_cons pe_str pa_nil))) (pe_call (ok_take T) (hr.mono (by decide)) (by rfl) T.g_y_take T.F_y_take.kp T.b_y_take .nil pass0 (pa_cons (pv 2) (pa_cons pe_int pa_nil))) (fun _ _ => rfl))) <|
        pss_cons (ps_set (i := 4) nd rfl (.inl rfl) (pe_call (ok_take T) (hr.mono (by decide)) (by rfl) T.g_y_take T.F_y_take.kp T.b_y_take .nil pass0 (pa_cons (pv 2) (pa_cons pe_int pa_nil)))) <|
        pss_cons (ps_set (i := 5) nd rfl (.inl rfl) (pe_call (ok_text T) (hr.mono (by decide)) (by rfl) T.g_y_text T.F_y_text.kp T.b_y_text .nil pass0 (pa_cons (pv 2) (pa_cons (pv 3) (pa_cons pe_int pa_nil))))) <|
        pss_cons (ps_set (i := 6) nd rfl (.inl rfl) (pe_op op_add_str (pv 5) (pe_call (ok_text T) (hr.mono (by decide)) (by rfl) T.g_y_text T.F_y_text.kp T.b_y_text .nil pass0 (pa_cons (pv 2) (pa_cons (pv 3) (pa_cons pe_int pa_nil)))))) <|
        C8.pss_cut (ps_set (i := 7) nd rfl (.inl rfl) (pe_op op_add_str (pv 5) (pe_call (ok_text T) (hr.mono (by decide)) (by rfl) T.g_y_text T.F_y_text.kp T.b_y_text .nil pass0 (pa_cons (pv 2) (pa_cons (pv 3) (pa_cons pe_int pa_nil)))))) <|
        C8.pss_cut (ps_if (pt_cmpR op_eq (pv 4) pe_int (nomark _)) (pss_one (ps_set (i := 7) nd rfl (.inl rfl) (pv 5))) pss_nil) <|
        C8.pss_cut (ps_if (pt_cmpR op_eq (pv 4) pe_int (nomark _)) (pss_one (ps_set (i := 7) nd rfl (.inl rfl) (pv 6))) pss_nil) <|
        C8.pss_cut (ps_if (pt_cmpR op_eq (pv 4) pe_int (nomark _)) (pss_one (ps_set (i := 6) nd rfl (.inl rfl) pe_str)) pss_nil) <|
        pss_one (ps_if (PW.pt (
            pw_or (pt_not (pt_val (pe_call (ok_right T) (hr.mono (by decide)) (by rfl) T.g_y_right T.F_y_right.kp T.b_y_right .nil pass0 (pa_cons (pv 6) (pa_cons (pv 7) pa_nil))))) <|
            pw_or (pt_not (pt_val (pe_call (ok_right T) (hr.mono (by decide)) (by rfl) T.g_y_right T.F_y_right.kp T.b_y_right .nil pass0 (pa_cons (pe_op op_add_str (pv 6) (pv 7)) (pa_cons (pv 6) pa_nil))))) <|
            pw_or1 (pt_not (pt_val (pe_call (ok_right T) (hr.mono (by decide)) (by rfl) T.g_y_right T.F_y_right.kp T.b_y_right .nil pass0 (pa_cons (pe_op op_add_str (pv 6) pe_str) (pa_cons (pe_op op_add_str (pv 6) pe_str) pa_nil)))))))
          (pss_one (ps_ret pe_bl)) pss_nil))) <|
      pss_one (ps_ret pe_bl), ?_⟩
    refine ⟨_, rfl, by show 1 ≤ sizeLine; decide, fun l hl => ?_⟩
    have s1 := same_upd (H := H) (o := .lst [.int 0]) hl
    refine ⟨a, l, _, _, rfl, rfl, s1.seq hS, SqL.of upd_same, ?_, fun p hp => ?_⟩
    · rw [List.length_map, sizeLine_eq]
      show ns.length + 1 ≤ _
      omega
    have s2 := s1.trans (same_upd (o := .lst (ns.map V.int ++ [.int 0])) hp)
    refine ⟨_, rfl, p, _, rfl, SqL.of upd_same, fun p2 hp2 => ?_⟩
    obtain ⟨cs, ec⟩ := cells ns 3
    rw [ec]
    refine ⟨p2, rfl, ⟨_, SqL.of upd_same⟩, ?_⟩
    generalize hH1 : upd (upd (upd H l (.lst [.int 0])) p (.lst (ns.map V.int ++ [.int 0]))) p2 (.lst (cs.map V.int)) = H1
    have hp1 : H1 p2 = some (.lst (cs.map V.int)) := by rw [← hH1, upd_same]
    refine for_list (xs := cs.map V.int) (fun i σ H' => ∃ y1 y2 y3 y4 y5 y6 y7, σ = [some (.ref a), y1, y2, y3, y4, y5, y6, y7] ∧ Same H1 H') ⟨_, _, _, _, _, _, _, rfl, Same.refl _⟩ (fun i σ H' _ ⟨_, _, _, _, _, _, _, _, hs⟩ => SqL.of (hs _ _ hp1)) ?_ (fun σ H' ⟨_, _, _, _, _, _, _, e, hs⟩ => q _)
    rintro i v σ H2 hi ⟨y1, y2, y3, y4, y5, y6, y7, rfl, hs⟩
    obtain ⟨c, rfl⟩ := cell_at hi
    -- the draws' list
    refine ⟨_, rfl, c, rfl, fun s hs0 H3 hs3 src3 => ?_⟩
    have keep : ∀ {H' : Hp}, But s H3 H' → Same H1 H' := fun {H'} b x o e => b x o (ne_of_none (hs _ _ e) hs0) (hs3 _ _ (hs _ _ e))
    refine ⟨by show 2 ≤ sizeLine; decide, fun d hd => ?_⟩
    have nsd : s ≠ d := src3.ne hd
    refine ⟨_, rfl, s, 2, rfl, src3.same (same_upd hd), by decide, by decide, fun r H4 r0 r1 src4 b4 => ?_⟩
    obtain ⟨z, z0, z1, ez⟩ := both r r0 r1
    refine ⟨d, _, r, _, rfl, rfl, SqL.of (b4 d _ nsd.symm upd_same), ez, ?_⟩
    have k4 : But s H3 H4 := (Same.but (same_upd hd)).trans b4
    -- the way
    refine ⟨_, rfl, s, 5, rfl, src4, by decide, by decide, fun way H5 w0 w1 src5 b5 => ?_⟩
    -- the begin
    refine ⟨_, rfl, _, rfl, s, z, 24, rfl, src5, z0, z1, by decide, by decide, fun b H6 lb _ src6 b6 => ?_⟩
    -- one, other
    refine ⟨_, rfl, _, rfl, _, rfl, s, z, 8, rfl, src6, z0, z1, by decide, by decide, fun x H7 lx _ src7 b7 => ⟨_, _, rfl, rfl, by rw [ofL_len, ofL_len, sizeLine_eq]; omega, ?_⟩⟩
    rw [S_app]
    refine ⟨Mid H1 a s z b way, ⟨_, rfl, _, rfl, _, rfl, s, z, 8, rfl, src7, z0, z1, by decide, by decide, fun y H8 ly _ src8 b8 => ⟨_, _, rfl, rfl, by rw [ofL_len, ofL_len, sizeLine_eq]; omega, ?_⟩⟩, ?_⟩
    · rw [S_app]
      refine ⟨.int c, b ++ x, b ++ y, rfl, by rw [List.length_append]; omega, by rw [List.length_append]; omega, keep ((((k4.trans b5).trans b6).trans b7).trans b8)⟩
    rintro σ H8 ⟨c, x, y, rfl, lx, ly, hs8⟩
    refine ⟨Mid H1 a s z b way, ⟨_, rfl, rfl, _, rfl, ite2 (fun _ => ?_) (fun _ => ?_)⟩, ?_⟩
    · exact ⟨_, rfl, c, x, b, rfl, lx, by omega, hs8⟩
    · exact ⟨c, x, y, rfl, lx, ly, hs8⟩
    rintro σ H9 ⟨c, x, y, rfl, lx, ly, hs9⟩
    refine ⟨Mid H1 a s z b way, ⟨_, rfl, rfl, _, rfl, ite2 (fun _ => ?_) (fun _ => ?_)⟩, ?_⟩
    · exact ⟨_, rfl, c, x, x, rfl, lx, lx, hs9⟩
    · exact ⟨c, x, y, rfl, lx, ly, hs9⟩
    rintro σ H10 ⟨c, x, y, rfl, lx, ly, hs10⟩
    refine ⟨Mid H1 a s z b way, ⟨_, rfl, rfl, _, rfl, ite2 (fun _ => ?_) (fun _ => ?_)⟩, ?_⟩
    · exact ⟨c, [], y, rfl, by decide, ly, hs10⟩
    · exact ⟨c, x, y, rfl, lx, ly, hs10⟩
    rintro σ H11 ⟨c, x, y, rfl, lx, ly, hs11⟩
    refine ⟨_, rfl, _, rfl, x, y, rfl, by omega, by omega, fun H12 e12 => ⟨true, rfl, ?_⟩⟩
    refine ⟨_, rfl, _, rfl, _, _, rfl, rfl, by rw [ofL_len, ofL_len, sizeLine_eq]; omega, _, rfl, x ++ y, x, by rw [← S_app]; rfl, by rw [List.length_append]; omega, by omega, fun H13 e13 => ⟨true, rfl, ?_⟩⟩
    refine ⟨_, rfl, _, _, rfl, rfl, ?la, _, rfl, _, _, rfl, rfl, ?lb, x ++ [97], x ++ [98], ?eab, by rw [List.length_append]; show x.length + 1 ≤ _; omega, by rw [List.length_append]; show x.length + 1 ≤ _; omega, fun H14 e14 => ⟨true, rfl, ?_⟩⟩
    case la =>
      show (ofL x).length + 1 ≤ sizeLine
      rw [ofL_len, sizeLine_eq]
      omega
    case lb =>
      show (ofL x).length + 1 ≤ sizeLine
      rw [ofL_len, sizeLine_eq]
      omega
    case eab =>
      rw [← S_app, ← S_app]
      rfl
    exact ⟨_, _, _, _, _, _, _, rfl, ((hs11.trans e12).trans e13).trans e14⟩

theorem all_mk {l : PySem.W.OpenLaw} (el : l.prog = prg) {q : Program} (eq : ∀ x ∈ ([] : List Str), ((recsOf q).any fun e => e.name == x) = true) {w : World} {K : PySem.W.Frag} {h : Heap} {mg : Str → Option Value} {fa : Addr} (X : K.In h) (G : h.Ns mainGlobals mg) (hfa : mg "law" = some (.ref fa)) (own : OwnTabs K mg q h)
    {f0 cd0 f1 cd1 f2 cd2 f3 cd3 f4 cd4 f5 cd5 f6 cd6 : Addr}
    {od0 an0 od1 an1 od2 an2 od3 an3 od4 an4 od5 an5 od6 an6 : Option Addr}
    {sl0 sl1 sl2 sl3 sl4 sl5 sl6 : Array (Option Value)}
    {oc0 kV0 dc0 pm0 ct0 oc1 kV1 dc1 pm1 ct1 oc2 kV2 dc2 pm2 ct2 oc3 kV3 dc3 pm3 ct3 oc4 kV4 dc4 pm4 ct4 oc5 kV5 dc5 pm5 ct5 oc6 kV6 dc6 pm6 ct6 : Value}
    (a0 : PySem.W.nsIn K mainGlobals "common_start" = some (some (.ref f0))) (l0 : K.lookup f0 = some ⟨oc0, od0, .func (PySem.W.fnOf "common_start" "common_start" (defArgs s_common_start) (defBody s_common_start) (defScope s_common_start) .none kV0 dc0 pm0 an0 (.ref cd0) ct0), sl0⟩) (c0 : PySem.W.codeIn K (.ref cd0) "common_start" = true) (k0 : PySem.W.keepIn K (.ref f0) = true)
    (a1 : PySem.W.nsIn K mainGlobals "_law_mixed" = some (some (.ref f1))) (l1 : K.lookup f1 = some ⟨oc1, od1, .func (PySem.W.fnOf "_law_mixed" "_law_mixed" (defArgs s_y_mixed) (defBody s_y_mixed) (defScope s_y_mixed) .none kV1 dc1 pm1 an1 (.ref cd1) ct1), sl1⟩) (c1 : PySem.W.codeIn K (.ref cd1) "_law_mixed" = true) (k1 : PySem.W.keepIn K (.ref f1) = true)
    (a2 : PySem.W.nsIn K mainGlobals "_law_source" = some (some (.ref f2))) (l2 : K.lookup f2 = some ⟨oc2, od2, .func (PySem.W.fnOf "_law_source" "_law_source" (defArgs s_y_source) (defBody s_y_source) (defScope s_y_source) .none kV2 dc2 pm2 an2 (.ref cd2) ct2), sl2⟩) (c2 : PySem.W.codeIn K (.ref cd2) "_law_source" = true) (k2 : PySem.W.keepIn K (.ref f2) = true)
    (a3 : PySem.W.nsIn K mainGlobals "_law_take" = some (some (.ref f3))) (l3 : K.lookup f3 = some ⟨oc3, od3, .func (PySem.W.fnOf "_law_take" "_law_take" (defArgs s_y_take) (defBody s_y_take) (defScope s_y_take) .none kV3 dc3 pm3 an3 (.ref cd3) ct3), sl3⟩) (c3 : PySem.W.codeIn K (.ref cd3) "_law_take" = true) (k3 : PySem.W.keepIn K (.ref f3) = true)
    (a4 : PySem.W.nsIn K mainGlobals "_law_text" = some (some (.ref f4))) (l4 : K.lookup f4 = some ⟨oc4, od4, .func (PySem.W.fnOf "_law_text" "_law_text" (defArgs s_y_text) (defBody s_y_text) (defScope s_y_text) .none kV4 dc4 pm4 an4 (.ref cd4) ct4), sl4⟩) (c4 : PySem.W.codeIn K (.ref cd4) "_law_text" = true) (k4 : PySem.W.keepIn K (.ref f4) = true)
    (a5 : PySem.W.nsIn K mainGlobals "_law_right" = some (some (.ref f5))) (l5 : K.lookup f5 = some ⟨oc5, od5, .func (PySem.W.fnOf "_law_right" "_law_right" (defArgs s_y_right) (defBody s_y_right) (defScope s_y_right) .none kV5 dc5 pm5 an5 (.ref cd5) ct5), sl5⟩) (c5 : PySem.W.codeIn K (.ref cd5) "_law_right" = true) (k5 : PySem.W.keepIn K (.ref f5) = true)
    (a6 : PySem.W.nsIn K mainGlobals "law" = some (some (.ref f6))) (l6 : K.lookup f6 = some ⟨oc6, od6, .func (PySem.W.fnOf "law" "law" (defArgs s_y_law) (defBody s_y_law) (defScope s_y_law) .none kV6 dc6 pm6 an6 (.ref cd6) ct6), sl6⟩) (c6 : PySem.W.codeIn K (.ref cd6) "law" = true) (k6 : PySem.W.keepIn K (.ref f6) = true)
    (z_isinstance : PySem.W.nsIn K mainGlobals "isinstance" = some none)
    (z_len : PySem.W.nsIn K mainGlobals "len" = some none)
    (z_range : PySem.W.nsIn K mainGlobals "range" = some none)
    (z_str : PySem.W.nsIn K mainGlobals "str" = some none)
    (z_zip : PySem.W.nsIn K mainGlobals "zip" = some none) :
    LawAtS l w K LCX lvl 63 "_law_script" mg fa h := by
  have e := hfa.symm.trans (PySem.W.mg_of X G a6)
  cases e
  refine ⟨PySem.W.fnOf "law" "law" (defArgs s_y_law) (defBody s_y_law) (defScope s_y_law) .none kV6 dc6 pm6 an6 (.ref cd6) ct6, [], spLaw K [], (fun p hp => by cases hp),
    (fun p hp => by cases hp),
    (fun p hp => by cases hp),
    fun s v => .of_eq rfl, fun H a ns hl _ hH hS => ⟨a, ns, rfl, hS, hl, (fun p hp => by cases hp), fun _ => rfl⟩, fun base _ _ hT => ?_⟩
  rw [el]
  exact ok_law (T := {
    f_common_start := _
    d_common_start := _
    c_common_start := _
    F_common_start := (func_mk (st := s_common_start) l0 c0 k0 (.inl ⟨rfl, rfl⟩))
    g_common_start := PySem.W.mg_of X G a0
    b_common_start := (func_mk (st := s_common_start) l0 c0 k0 (.inl ⟨rfl, rfl⟩)).binds (ps := ["one", "other"]) fun _ _ _ _ _ us hl => match us, hl with | [_, _], _ => rfl
    f_y_mixed := _
    d_y_mixed := _
    c_y_mixed := _
    F_y_mixed := (func_mk (st := s_y_mixed) l1 c1 k1 (.inl ⟨rfl, rfl⟩))
    g_y_mixed := PySem.W.mg_of X G a1
    b_y_mixed := (func_mk (st := s_y_mixed) l1 c1 k1 (.inl ⟨rfl, rfl⟩)).binds (ps := ["_law_cell", "_law_k"]) fun _ _ _ _ _ us hl => match us, hl with | [_, _], _ => rfl
    f_y_source := _
    d_y_source := _
    c_y_source := _
    F_y_source := (func_mk (st := s_y_source) l2 c2 k2 (.inl ⟨rfl, rfl⟩))
    g_y_source := PySem.W.mg_of X G a2
    b_y_source := (func_mk (st := s_y_source) l2 c2 k2 (.inl ⟨rfl, rfl⟩)).binds (ps := ["_law_cell"]) fun _ _ _ _ _ us hl => match us, hl with | [_], _ => rfl
    f_y_take := _
    d_y_take := _
    c_y_take := _
    F_y_take := (func_mk (st := s_y_take) l3 c3 k3 (.inl ⟨rfl, rfl⟩))
    g_y_take := PySem.W.mg_of X G a3
    b_y_take := (func_mk (st := s_y_take) l3 c3 k3 (.inl ⟨rfl, rfl⟩)).binds (ps := ["_law_source_here", "_law_many"]) fun _ _ _ _ _ us hl => match us, hl with | [_, _], _ => rfl
    f_y_text := _
    d_y_text := _
    c_y_text := _
    F_y_text := (func_mk (st := s_y_text) l4 c4 k4 (.inl ⟨rfl, rfl⟩))
    g_y_text := PySem.W.mg_of X G a4
    b_y_text := (func_mk (st := s_y_text) l4 c4 k4 (.inl ⟨rfl, rfl⟩)).binds (ps := ["_law_source_here", "_law_signs", "_law_most"]) fun _ _ _ _ _ us hl => match us, hl with | [_, _, _], _ => rfl
    f_y_right := _
    d_y_right := _
    c_y_right := _
    F_y_right := (func_mk (st := s_y_right) l5 c5 k5 (.inl ⟨rfl, rfl⟩))
    g_y_right := PySem.W.mg_of X G a5
    b_y_right := (func_mk (st := s_y_right) l5 c5 k5 (.inl ⟨rfl, rfl⟩)).binds (ps := ["_law_one", "_law_other"]) fun _ _ _ _ _ us hl => match us, hl with | [_, _], _ => rfl
    f_y_law := _
    d_y_law := _
    c_y_law := _
    F_y_law := (func_mk (st := s_y_law) l6 c6 k6 (.inl ⟨rfl, rfl⟩))
    g_y_law := PySem.W.mg_of X G a6
    b_y_law := (func_mk (st := s_y_law) l6 c6 k6 (.inl ⟨rfl, rfl⟩)).binds (ps := ["_law_script"]) fun _ _ _ _ _ us hl => match us, hl with | [_], _ => rfl
    z_isinstance := PySem.W.mg_none_of X G z_isinstance
    z_len := PySem.W.mg_none_of X G z_len
    z_range := PySem.W.mg_none_of X G z_range
    z_str := PySem.W.mg_none_of X G z_str
    z_zip := PySem.W.mg_none_of X G z_zip })
end M
open PySem PySem.W PyProof.Rows
set_option maxRecDepth 100000 in
set_option maxHeartbeats 0 in
theorem PySem.Challenge.cw_markseam_k02_the_common_start_holds : PySem.Challenge.rw_markseam_k02_the_common_start.Holds := by
  w_on; o_law; k_head; (case hw => w_witness2)
  k_fill
  refine Ms.walk_tabs (l := PySem.Challenge.rw_markseam_k02_the_common_start) (n := 63) (k := M.lvl) (x := "_law_script") (CX := fun _ => M.LCX) rfl (by decide) rfl ⟨rfl, by decide, by decide⟩ (fun w h Y => by first | exact PySem.W.kIn_of Y | exact PySem.W.km_in_of Y) ?F (fun _ _ _ _ _ h => M.lcx0 h)
  case F =>
    intro w mg fa h KX G hmg own
    refine' M.all_mk rfl (by decide +kernel) KX G hmg own ?a0 ?l0 ?c0 ?k0 ?a1 ?l1 ?c1 ?k1 ?a2 ?l2 ?c2 ?k2 ?a3 ?l3 ?c3 ?k3 ?a4 ?l4 ?c4 ?k4 ?a5 ?l5 ?c5 ?k5 ?a6 ?l6 ?c6 ?k6 ?z_isinstance ?z_len ?z_range ?z_str ?z_zip
    (case a0 => k_is)
    (case l0 => k_is)
    (case c0 => k_is)
    (case k0 => k_is)
    (case a1 => k_is)
    (case l1 => k_is)
    (case c1 => k_is)
    (case k1 => k_is)
    (case a2 => k_is)
    (case l2 => k_is)
    (case c2 => k_is)
    (case k2 => k_is)
    (case a3 => k_is)
    (case l3 => k_is)
    (case c3 => k_is)
    (case k3 => k_is)
    (case a4 => k_is)
    (case l4 => k_is)
    (case c4 => k_is)
    (case k4 => k_is)
    (case a5 => k_is)
    (case l5 => k_is)
    (case c5 => k_is)
    (case k5 => k_is)
    (case a6 => k_is)
    (case l6 => k_is)
    (case c6 => k_is)
    (case k6 => k_is)
    (case z_isinstance => k_is)
    (case z_len => k_is)
    (case z_range => k_is)
    (case z_str => k_is)
    (case z_zip => k_is)
#print axioms PySem.Challenge.cw_markseam_k02_the_common_start_holds

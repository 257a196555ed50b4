import PyProof.Rows.All
import Wide.All
import OpenK.AllK
import Wide.FinOn
import HandS.ForMost
import HandS.Walk
import HandS.Wide
import HandS.IsInst
import KE.GoesMore
import KE.GoesEnum
import HandS.Codes
import HandS.StrMore
import HandS.TryOnly
import HandS.Style
import PyProof.Rows.SetFrom
import HandS.ForExc
import HandS.Defaults
import HandS.Lambda
import HandS.EndTab
import HandS.EndOwn
import HandS.TryMany
import HandS.ExcInit
import KE.KExcSuper
import HandS.ExcIs
import KE.KExcIs
import HandS.ExcValue
import HandS.Sort
import PyProof.CollectStr
import PyProof.Rows.SortShellAny
import HandS.MakeKw
import HandS.MakeKwOnly
import PySem.Challenge.RW_markseam_k22_what_is_no_rule
set_option Elab.async false
set_option linter.all false
set_option maxRecDepth 100000
/-! Own rules: zip of two texts, of a text and a list; enumerate of a text. -/
namespace Ms
open PySem PySem.Spec PyProof.Rows L2
/-- the five new cells of a zip, over two one-cell iterators -/
theorem five {c n : Nat} (h : c ∈ [n + 4, n + 2, n + 3, n, n + 1]) : n ≤ c := by
  have q : c = n + 4 ∨ c = n + 2 ∨ c = n + 3 ∨ c = n ∨ c = n + 1 := by simpa using h
  omega
/-- signs of two texts in new pairs -/
def Jss (x y : Str) : It :=
  ⟨fun i _ => i < x.cps.size ∧ i < y.cps.size,
   fun i H v H' => ∃ T c d, v = .ref T ∧ H T = none ∧ H' = upd H T (.tup [.str ⟨#[c]⟩, .str ⟨#[d]⟩]) ∧ x.cps[i]? = some c ∧ y.cps[i]? = some d,
   fun i _ => i ≤ x.cps.size ∧ i ≤ y.cps.size ∧ (i = x.cps.size ∨ i = y.cps.size)⟩
theorem ltn {a n : Nat} (h : a < n) (i : Nat) : a ≠ n + i := by omega
/-- how the cells of such a zip lie -/
structure Apt (z TI TO i1 i2 : Addr) : Prop where
  e1 : TI ≠ z
  e2 : TO ≠ z
  e3 : i1 ≠ z
  e4 : i2 ≠ z
  e5 : TI ≠ TO
  e6 : TI ≠ i1
  e7 : TI ≠ i2
  e8 : TO ≠ i1
  e9 : TO ≠ i2
  e0 : i1 ≠ i2
theorem apt (n : Nat) : Apt (n + 4) (n + 2) (n + 3) n (n + 1) := by constructor <;> (show ¬ (@Eq Nat _ _); omega)
theorem Apt.ss {z TI TO i1 i2 : Addr} (D : Apt z TI TO i1 i2) : ZipSep2 z TI TO i1 i2 [i1] [i2] where
  TIz := D.e1
  TOz := D.e2
  TITO := D.e5
  TIi1 := D.e6
  mem1 := List.mem_singleton.mpr rfl
  zf1 := fun h => D.e3 (List.mem_singleton.mp h).symm
  Tf1 := fun h => D.e8 (List.mem_singleton.mp h)
  TIi2 := D.e7
  mem2 := List.mem_singleton.mpr rfl
  zf2 := fun h => D.e4 (List.mem_singleton.mp h).symm
  Tf2 := fun h => D.e9 (List.mem_singleton.mp h)
  sep1_2 := fun h => D.e0 (List.mem_singleton.mp h)
  sep2_1 := fun h => D.e0 (List.mem_singleton.mp h).symm
theorem Apt.sl {z TI TO i1 i2 l : Addr} (D : Apt z TI TO i1 i2) (h1 : l ≠ z) (h2 : l ≠ TO) (h3 : l ≠ i1) : ZipSep2 z TI TO i1 i2 [i1] [i2, l] where
  TIz := D.e1
  TOz := D.e2
  TITO := D.e5
  TIi1 := D.e6
  mem1 := List.mem_singleton.mpr rfl
  zf1 := fun h => D.e3 (List.mem_singleton.mp h).symm
  Tf1 := fun h => D.e8 (List.mem_singleton.mp h)
  TIi2 := D.e7
  mem2 := List.mem_cons_self ..
  zf2 := fun h => (List.mem_cons.mp h).elim (fun q => D.e4 q.symm) fun q => h1 (List.mem_singleton.mp q).symm
  Tf2 := fun h => (List.mem_cons.mp h).elim D.e9 fun q => h2 (List.mem_singleton.mp q).symm
  sep1_2 := fun h => (List.mem_cons.mp h).elim D.e0 fun q => h3 (List.mem_singleton.mp q).symm
  sep2_1 := fun h => D.e0 (List.mem_singleton.mp h).symm
theorem lt5 {h : Heap} {z TI TO i1 i2 : Addr} (l1 : ∃ o, h.get? z = some o) (l2 : ∃ o, h.get? TI = some o) (l3 : ∃ o, h.get? TO = some o) (l4 : ∃ o, h.get? i1 = some o) (l5 : ∃ o, h.get? i2 = some o) :
    ∀ c ∈ [z, TI, TO, i1, i2], c < h.objs.size := fun c hc => by
  have q : c = z ∨ c = TI ∨ c = TO ∨ c = i1 ∨ c = i2 := by simpa using hc
  have lt : ∀ {a : Addr}, (∃ o, h.get? a = some o) → a < h.objs.size := fun ⟨_, e⟩ => Heap.lt_size e
  rcases q with q | q | q | q | q
  all_goals rw [q]
  · exact lt l1
  · exact lt l2
  · exact lt l3
  · exact lt l4
  · exact lt l5
theorem turn_ss {P : Program} {w : World} {K : PySem.W.Frag} {elts : List Expr} {kk : Nat} {tpos : Pos} {x y : Str} {t u : Tok} {z TI TO i1 i2 : Addr} (D : Apt z TI TO i1 i2) :
    Turn P w K (.Tuple elts kk tpos) (Jss x y) [z, TI, TO, i1, i2] z
      (fun i h => IsZip h z TI TO .none ∧ IsTupOf2 h TI (.ref i1) (.ref i2) ∧ (∃ a b, IsTupOf2 h TO a b) ∧ h.IsStrIter i1 (strIterType x) x t i ∧ h.IsStrIter i2 (strIterType y) y u i) where
  mem := by simp
  obj := fun i h st c hc => by
    obtain ⟨hz, hTI, ⟨a, b, hTO⟩, ⟨o1, m1, _, d1⟩, ⟨o2, m2, _, d2⟩⟩ := st
    have q : c = z ∨ c = TI ∨ c = TO ∨ c = i1 ∨ c = i2 := by simpa using hc
    rcases q with q | q | q | q | q
    all_goals rw [q]
    · exact ⟨_, hz, fun v q => nomatch q⟩
    · exact ⟨_, hTI, fun v q => nomatch q⟩
    · exact ⟨_, hTO, fun v q => nomatch q⟩
    · exact ⟨o1, m1, fun v q => by rw [d1] at q; cases q⟩
    · exact ⟨o2, m2, fun v q => by rw [d2] at q; cases q⟩
  keep := fun i h h' st k => by
    obtain ⟨hz, hTI, ⟨a, b, hTO⟩, ⟨o1, m1, r1⟩, ⟨o2, m2, r2⟩⟩ := st
    exact ⟨k z (by simp) _ hz, k TI (by simp) _ hTI, ⟨a, b, k TO (by simp) _ hTO⟩, ⟨o1, k i1 (by simp) _ m1, r1⟩, ⟨o2, k i2 (by simp) _ m2, r2⟩⟩
  item := by
    intro X hP hw hK hc i pins s σ H E I hf st hg
    subst hP hw hK
    obtain ⟨hz, hTI, ⟨a0, b0, hTO⟩, h1, h2⟩ := st
    obtain ⟨g1, g2⟩ := hg
    have lv := lt5 ⟨_, hz⟩ ⟨_, hTI⟩ ⟨_, hTO⟩ (let ⟨o, e, _⟩ := h1; ⟨o, e⟩) (let ⟨o, e, _⟩ := h2; ⟨o, e⟩)
    have hh : X.A.in1.handled = none := I.ok.hd hc
    refine wpAny_pyNext_zipD2_item D.ss (Draws.text hh i1 x t) (Draws.text hh i2 y u) hz hTI hTO h1 h2 g1 g2 fun v1 v2 h' tk y1 y2 z' TO' h1' h2' hT hsz hk => ?_
    obtain ⟨c, u1, ec, rfl⟩ := y1
    obtain ⟨d, u2, ed, rfl⟩ := y2
    refine ⟨_, rfl, wpAny_letOwnedTupleGo_zip (s := { s with heap := h', toks := tk }) z' fun h'' z'' sb => ?_⟩
    have nz : z ≠ s.heap.objs.size := Nat.ne_of_lt (lv z (by simp))
    have hT2 : h''.get? s.heap.objs.size = some { cls := .type "tuple", data := .seq #[.str ⟨#[c]⟩ u1, .str ⟨#[d]⟩ u2] } := (sb.2 _ nz.symm).trans hT
    have new : ObjOk X.prog X.w (upd H s.heap.objs.size (.tup [.str ⟨#[c]⟩, .str ⟨#[d]⟩])) h'' s.heap.objs.size (.tup [.str ⟨#[c]⟩, .str ⟨#[d]⟩]) :=
      ⟨by show 2 ≤ sizeLine; decide, _, .cons ⟨u1, rfl⟩ (.cons ⟨u2, rfl⟩ .nil), ⟨_, hT2, rfl, _, rfl⟩⟩
    have I1 : Inv X pins σ (upd H s.heap.objs.size (.tup [.str ⟨#[c]⟩, .str ⟨#[d]⟩])) { s with heap := h'', toks := tk } :=
      I.turnedNew (ch := [z, TI, TO, i1, i2]) (fun b o hb q => (sb.2 b fun e => hb (by simp [e])).trans (hk b o (fun e => hb (by simp [e])) (fun e => hb (by simp [e])) (fun e => hb (by simp [e])) (fun e => hb (by simp [e])) q)) hf (Nat.le_refl _) new
    refine ⟨.ref s.heap.objs.size, _, I1, rfl, ⟨_, c, d, rfl, I.hok.fresh (Nat.le_refl _), rfl, ec, ed⟩, ⟨z'', ?_, ⟨_, _, (sb.2 _ D.e2).trans TO'⟩, ?_, ?_⟩, fun b hb => ?_⟩
    · exact (sb.2 _ D.e1).trans (hk _ _ D.e1 D.e5 D.e6 D.e7 hTI)
    · obtain ⟨o, e, r⟩ := h1'
      exact ⟨o, (sb.2 _ D.e3).trans e, r⟩
    · obtain ⟨o, e, r⟩ := h2'
      exact ⟨o, (sb.2 _ D.e4).trans e, r⟩
    · rw [upd_ne (Nat.ne_of_lt (lv b hb))]
      exact (hf b hb).1
  done := by
    intro X hP hw hK hc i pins s σ H E I hf st hg
    subst hP hw hK
    obtain ⟨hz, hTI, ⟨a0, b0, hTO⟩, h1, h2⟩ := st
    have hh : X.A.in1.handled = none := I.ok.hd hc
    exact wpAny_pyNext_zipD2_end D.ss (Draws.text hh i1 x t) (Draws.text hh i2 y u) hz hTI hTO h1 h2 hg.1 hg.2.1 hg.2.2 fun h' tk hk => ⟨rfl, I.turnedL (t' := tk) (ch := [z, TI, TO, i1, i2]) (fun b o hb q =>
      hk b o (fun e => hb (by simp [e])) (fun e => hb (by simp [e])) (fun e => hb (by simp [e])) (fun e => hb (by simp [e])) q) hf⟩
  self := fun A i s Q E st h => wpAny_pyIter_zip st.1 h
/-- signs of a text, items of the list at a as it stands at each turn, in new pairs -/
def Jsl (K : PySem.W.Frag) (x : Str) (a : Addr) : It :=
  ⟨fun i H => i < x.cps.size ∧ ∃ ys v, SqL K H a ys ∧ ys[i]? = some v,
   fun i H v H' => ∃ T c y, v = .ref T ∧ H T = none ∧ H' = upd H T (.tup [.str ⟨#[c]⟩, y]) ∧ x.cps[i]? = some c ∧ ∀ ys, SqL K H a ys → ys[i]? = some y,
   fun i H => ∃ ys, SqL K H a ys ∧ i ≤ x.cps.size ∧ i ≤ ys.length ∧ (i = x.cps.size ∨ i = ys.length)⟩
theorem turn_sl {P : Program} {w : World} {K : PySem.W.Frag} {elts : List Expr} {kk : Nat} {tpos : Pos} {x : Str} {a : Addr} {t : Tok} {z TI TO i1 i2 : Addr} (D : Apt z TI TO i1 i2) (n1 : a ≠ z) (n2 : a ≠ TO) (n3 : a ≠ i1) (n4 : a ≠ i2) :
    Turn P w K (.Tuple elts kk tpos) (Jsl K x a) [z, TI, TO, i1, i2] z
      (fun i h => IsZip h z TI TO .none ∧ IsTupOf2 h TI (.ref i1) (.ref i2) ∧ (∃ a b, IsTupOf2 h TO a b) ∧ h.IsStrIter i1 (strIterType x) x t i ∧ h.IsListIter i2 a i) where
  mem := by simp
  obj := fun i h st c hc => by
    obtain ⟨hz, hTI, ⟨a, b, hTO⟩, ⟨o1, m1, _, d1⟩, ⟨o2, m2, _, d2⟩⟩ := st
    have q : c = z ∨ c = TI ∨ c = TO ∨ c = i1 ∨ c = i2 := by simpa using hc
    rcases q with q | q | q | q | q
    all_goals rw [q]
    · exact ⟨_, hz, fun v q => nomatch q⟩
    · exact ⟨_, hTI, fun v q => nomatch q⟩
    · exact ⟨_, hTO, fun v q => nomatch q⟩
    · exact ⟨o1, m1, fun v q => by rw [d1] at q; cases q⟩
    · exact ⟨o2, m2, fun v q => by rw [d2] at q; cases q⟩
  keep := fun i h h' st k => by
    obtain ⟨hz, hTI, ⟨a, b, hTO⟩, ⟨o1, m1, r1⟩, ⟨o2, m2, r2⟩⟩ := st
    exact ⟨k z (by simp) _ hz, k TI (by simp) _ hTI, ⟨a, b, k TO (by simp) _ hTO⟩, ⟨o1, k i1 (by simp) _ m1, r1⟩, ⟨o2, k i2 (by simp) _ m2, r2⟩⟩
  item := by
    intro X hP hw hK hc i pins s σ H E I hf st hg
    subst hP hw hK
    obtain ⟨hz, hTI, ⟨a0, b0, hTO⟩, h1, h2⟩ := st
    obtain ⟨g1, ys, v, hys, hv⟩ := hg
    obtain ⟨its, rv, p, _⟩ := I.list hys
    obtain ⟨uv, huv, ruv⟩ := rv.get hv
    have lv := lt5 ⟨_, hz⟩ ⟨_, hTI⟩ ⟨_, hTO⟩ (let ⟨o, e, _⟩ := h1; ⟨o, e⟩) (let ⟨o, e, _⟩ := h2; ⟨o, e⟩)
    have hh : X.A.in1.handled = none := I.ok.hd hc
    have g2 : i < its.toArray.size := by
      have q := (List.getElem?_eq_some_iff.mp huv).1
      simpa using q
    refine wpAny_pyNext_zipD2_item (D.sl n1 n2 n3) (Draws.text hh i1 x t) (Draws.list hh i2 a n4 its.toArray) hz hTI hTO h1 ⟨h2, p.isList⟩ g1 g2 fun v1 v2 h' tk y1 y2 z' TO' h1' h2' hT hsz hk => ?_
    obtain ⟨c, u1, ec, rfl⟩ := y1
    have ev : v2 = uv := by
      have q : its[i]? = some v2 := by simpa using y2
      rw [huv] at q
      exact (Option.some.inj q).symm
    subst ev
    refine ⟨_, rfl, wpAny_letOwnedTupleGo_zip (s := { s with heap := h', toks := tk }) z' fun h'' z'' sb => ?_⟩
    have nz : z ≠ s.heap.objs.size := Nat.ne_of_lt (lv z (by simp))
    have hT2 : h''.get? s.heap.objs.size = some { cls := .type "tuple", data := .seq #[.str ⟨#[c]⟩ u1, v2] } := (sb.2 _ nz.symm).trans hT
    have new : ObjOk X.prog X.w (upd H s.heap.objs.size (.tup [.str ⟨#[c]⟩, v])) h'' s.heap.objs.size (.tup [.str ⟨#[c]⟩, v]) :=
      ⟨by show 2 ≤ sizeLine; decide, _, .cons ⟨u1, rfl⟩ (.cons ruv .nil), ⟨_, hT2, rfl, _, rfl⟩⟩
    have I1 : Inv X pins σ (upd H s.heap.objs.size (.tup [.str ⟨#[c]⟩, v])) { s with heap := h'', toks := tk } :=
      I.turnedNew (ch := [z, TI, TO, i1, i2]) (fun b o hb q => (sb.2 b fun e => hb (by simp [e])).trans (hk b o (fun e => hb (by simp [e])) (fun e => hb (by simp [e])) (fun e => hb (by simp [e])) (fun e => hb (by simp [e])) q)) hf (Nat.le_refl _) new
    refine ⟨.ref s.heap.objs.size, _, I1, rfl, ⟨_, c, v, rfl, I.hok.fresh (Nat.le_refl _), rfl, ec, fun l hl => by rw [I.list_inj hl hys]; exact hv⟩, ⟨z'', ?_, ⟨_, _, (sb.2 _ D.e2).trans TO'⟩, ?_, ?_⟩, fun b hb => ?_⟩
    · exact (sb.2 _ D.e1).trans (hk _ _ D.e1 D.e5 D.e6 D.e7 hTI)
    · obtain ⟨o, e, r⟩ := h1'
      exact ⟨o, (sb.2 _ D.e3).trans e, r⟩
    · obtain ⟨⟨o, e, r⟩, _⟩ := h2'
      exact ⟨o, (sb.2 _ D.e4).trans e, r⟩
    · rw [upd_ne (Nat.ne_of_lt (lv b hb))]
      exact (hf b hb).1
  done := by
    intro X hP hw hK hc i pins s σ H E I hf st hg
    subst hP hw hK
    obtain ⟨hz, hTI, ⟨a0, b0, hTO⟩, h1, h2⟩ := st
    obtain ⟨ys, hys, g1, g2, g3⟩ := hg
    obtain ⟨its, rv, p, _⟩ := I.list hys
    have hl := rv.length
    have hh : X.A.in1.handled = none := I.ok.hd hc
    exact wpAny_pyNext_zipD2_end (D.sl n1 n2 n3) (Draws.text hh i1 x t) (Draws.list hh i2 a n4 its.toArray) hz hTI hTO h1 ⟨h2, p.isList⟩ g1 (by simp; omega) (by simp; omega) fun h' tk hk => ⟨rfl, I.turnedL (t' := tk) (ch := [z, TI, TO, i1, i2]) (fun b o hb q =>
      hk b o (fun e => hb (by simp [e])) (fun e => hb (by simp [e])) (fun e => hb (by simp [e])) (fun e => hb (by simp [e])) q) hf⟩
  self := fun A i s Q E st h => wpAny_pyIter_zip st.1 h
/-- zip(text, text | list) -/
def iZs (K : PySem.W.Frag) (ta : TA) : TI := fun σ H R => ta σ H fun vs H1 => ∃ (x : Str) (v : V), vs = [.str x, v] ∧ ((∃ y, v = .str y ∧ R (Jss x y) H1) ∨ ∃ a ys, v = .ref a ∧ SqL K H1 a ys ∧ R (Jsl K x a) H1)
theorem pi_zs {X : Cx} {e e2 : Expr} {ta : TA} {p pos tpos : Pos} {elts : List Expr} {kk : Nat} (hg : Gl X "zip") (hm : X.mg "zip" = none) (ha : PA X [e, e2] ta)
    (hs : starEach [e, e2] X.env = (false, eval e X.env) :: starEach [e2] X.env := by rfl) (hpl : (backTo pos (starEach [e2] X.env)).any (·.1) = false := by rfl) :
    PI X (.Tuple elts kk tpos) (.Call (.Name "zip" p) [e, e2] [] pos) (iZs X.K ta) := by
  refine ⟨fun pins s σ H R I h => Call_ (ld_blt I hg hm PyProof.Rows.boot_zip (PyProof.Rows.callWith_type1 (thn (ha.run pos pins s σ H _ I h) fun us s1 ⟨vs, H1, I1, r1, q1⟩ => ?_) hs hpl))⟩
  obtain ⟨x, v, rfl, q1⟩ := q1
  cases r1 with
  | cons r rr =>
    cases rr with
    | cons r' rr =>
      cases rr
      obtain ⟨t, rfl⟩ := r
      rcases q1 with ⟨y, rfl, q⟩ | ⟨a, ys, rfl, hq, q⟩
      · obtain ⟨u, rfl⟩ := r'
        refine zip_begins2 (begins_text x t) (begins_text y u) trivial trivial fun h' hz hTI hTO h1 h2 hsz hk => wpAny_pyIter_zip hz ?_
        have I2 : Inv X pins σ H1 { s1 with heap := h' } := I1.kept (t' := s1.toks) hk
        exact ⟨s1.heap.objs.size + 4, [s1.heap.objs.size + 4, s1.heap.objs.size + 2, s1.heap.objs.size + 3, s1.heap.objs.size, s1.heap.objs.size + 1], _, _, H1, rfl, I2, turn_ss (t := t) (u := u) (apt _), ⟨hz, hTI, ⟨_, _, hTO⟩, ⟨_, h1, rfl, rfl⟩, ⟨_, h2, rfl, rfl⟩⟩,
          fun c hc => I1.fpOk (five hc) (I1.hok.fresh (five hc)), q⟩
      · obtain rfl : _ = Value.ref a := r'
        obtain ⟨its, rv, p1, _⟩ := I1.list hq
        have la : a < s1.heap.objs.size := p1.lt
        refine zip_begins2 (begins_text x t) (begins_list a its.toArray) trivial p1.isList fun h' hz hTI hTO h1 h2 hsz hk => wpAny_pyIter_zip hz ?_
        have I2 : Inv X pins σ H1 { s1 with heap := h' } := I1.kept (t' := s1.toks) hk
        exact ⟨s1.heap.objs.size + 4, [s1.heap.objs.size + 4, s1.heap.objs.size + 2, s1.heap.objs.size + 3, s1.heap.objs.size, s1.heap.objs.size + 1], _, _, H1, rfl, I2,
          turn_sl (t := t) (apt _) (ltn la 4) (ltn la 3) (ltn la 0) (ltn la 1), ⟨hz, hTI, ⟨_, _, hTO⟩, ⟨_, h1, rfl, rfl⟩, ⟨_, h2, rfl, rfl⟩⟩,
          fun c hc => I1.fpOk (five hc) (I1.hok.fresh (five hc)), q⟩
/-- enumerate(text): each sign with its place in a new pair -/
def Jes (x : Str) : It :=
  ⟨fun i _ => i < x.cps.size, fun i H v H' => ∃ T c, v = .ref T ∧ H T = none ∧ H' = upd H T (.tup [.int (i : Nat), .str ⟨#[c]⟩]) ∧ x.cps[i]? = some c, fun i _ => i = x.cps.size⟩
theorem turn_es {P : Program} {w : World} {K : PySem.W.Frag} {elts : List Expr} {kk : Nat} {tpos : Pos} (x : Str) (t : Tok) (e it : Addr) (hne : e ≠ it) :
    Turn P w K (.Tuple elts kk tpos) (Jes x) [e, it] e (fun i h => (∃ old, IsEnum h e it ((i : Nat) : Int) old) ∧ h.IsStrIter it (strIterType x) x t i) where
  mem := by simp
  obj := fun i h st b hb => by
    obtain ⟨⟨old, he⟩, ⟨o, ho, hc, hd⟩⟩ := st
    have q : b = e ∨ b = it := by simpa using hb
    rcases q with q | q
    all_goals rw [q]
    · exact ⟨_, he, fun v q => nomatch q⟩
    · exact ⟨o, ho, fun v q => by rw [hd] at q; cases q⟩
  keep := fun i h h' st k => let ⟨⟨old, he⟩, ⟨o, ho, r⟩⟩ := st; ⟨⟨old, k e (by simp) _ he⟩, ⟨o, k it (by simp) _ ho, r⟩⟩
  item := by
    intro X hP hw hK hc i pins s σ H E I hf st hg
    subst hP hw hK
    obtain ⟨⟨old, he⟩, hit⟩ := st
    have hel : e < s.heap.objs.size := Heap.lt_size he
    have hil : it < s.heap.objs.size := by obtain ⟨_, q, _⟩ := hit; exact Heap.lt_size q
    have hh : X.A.in1.handled = none := I.ok.hd hc
    refine wpAny_pyNext_enum_itemD (Draws.text hh it x t) he hit hg hne (fun q => hne (List.mem_singleton.mp q)) fun v h' tk hv ho hit' hT hsz hk => ?_
    obtain ⟨c, u, ec, rfl⟩ := hv
    refine ⟨_, rfl, wpAny_letOwnedTupleGo_enum (s := { s with heap := h', toks := tk + 1 }) ho fun h'' he' sb => ?_⟩
    have hT2 : h''.get? s.heap.objs.size = some { cls := .type "tuple", data := .seq #[.int i tk, .str ⟨#[c]⟩ u] } := (sb.2 _ (Nat.ne_of_gt hel)).trans hT
    have new : ObjOk X.prog X.w (upd H s.heap.objs.size (.tup [.int (i : Nat), .str ⟨#[c]⟩])) h'' s.heap.objs.size (.tup [.int (i : Nat), .str ⟨#[c]⟩]) :=
      ⟨by show 2 ≤ sizeLine; decide, _, .cons ⟨tk, rfl⟩ (.cons ⟨u, rfl⟩ .nil), ⟨_, hT2, rfl, _, rfl⟩⟩
    have I1 : Inv X pins σ (upd H s.heap.objs.size (.tup [.int (i : Nat), .str ⟨#[c]⟩])) { s with heap := h'', toks := tk + 1 } :=
      I.turnedNew (ch := [e, it]) (fun b ob hb q => (sb.2 b fun z => hb (by simp [z])).trans (hk b ob (fun z => hb (by simp [z])) (fun z => hb (by simp [z])) q)) hf (Nat.le_refl _) new
    refine ⟨.ref s.heap.objs.size, _, I1, rfl, ⟨_, c, rfl, I.hok.fresh (Nat.le_refl _), rfl, ec⟩, ⟨⟨.str ⟨#[c]⟩ u, ?_⟩, ?_⟩, fun b hb => ?_⟩
    · have e1 : ((i + 1 : Nat) : Int) = (i : Int) + 1 := by omega
      rw [e1]; exact he'
    · obtain ⟨o, q, r⟩ := hit'
      exact ⟨o, (sb.2 it hne.symm).trans q, r⟩
    · have hb' : b < s.heap.objs.size := by
        have q : b = e ∨ b = it := by simpa using hb
        rcases q with q | q <;> (rw [q]; assumption)
      rw [upd_ne (Nat.ne_of_lt hb')]
      exact (hf b hb).1
  done := by
    intro X hP hw hK hc i pins s σ H E I hf st hg
    subst hP hw hK
    obtain ⟨⟨old, he⟩, hit⟩ := st
    obtain ⟨f0, f1, f2, f3, f4, f5⟩ := hf it (by simp)
    have hh : X.A.in1.handled = none := I.ok.hd hc
    have hi : i = x.cps.size := hg
    subst hi
    exact wpAny_pyNext_enum_endD (Draws.text hh it x t) he hit fun h' eb => ⟨rfl, I.turned (t' := s.toks) (fun b o hb q => eb b o hb q) f0 f1 f3 f4 f5⟩
  self := fun A i s Q E st h => let ⟨⟨_, he⟩, _⟩ := st; wpAny_pyIter_enum he h
def iEs (ta : TA) : TI := fun σ H R => ta σ H fun vs H1 => ∃ x, vs = [.str x] ∧ R (Jes x) H1
theorem pi_es {X : Cx} {e : Expr} {ta : TA} {p pos tpos : Pos} {elts : List Expr} {kk : Nat} (hg : Gl X "enumerate") (hm : X.mg "enumerate" = none) (ha : PA X [e] ta) (hs : starEach [e] X.env = [(false, eval e X.env)] := by rfl) :
    PI X (.Tuple elts kk tpos) (.Call (.Name "enumerate" p) [e] [] pos) (iEs ta) := by
  refine ⟨fun pins s σ H R I h => Call_ (ld_blt I hg hm boot_enumerate (PyProof.Rows.callWith_type1 (thn (ha.run pos pins s σ H _ I h) fun us s1 ⟨vs, H1, I1, r1, q1⟩ => ?_) hs rfl))⟩
  obtain ⟨x, rfl, q⟩ := q1
  cases r1 with
  | cons r rr =>
    cases rr
    obtain ⟨t, rfl⟩ := r
    refine call_enumerate_str fun h' he hit hsz hk => wpAny_pyIter_enum he ?_
    have I2 : Inv X pins σ H1 { s1 with heap := h' } := I1.kept (t' := s1.toks) hk
    refine ⟨s1.heap.objs.size + 1, [s1.heap.objs.size + 1, s1.heap.objs.size], _, _, H1, rfl, I2, turn_es x t (s1.heap.objs.size + 1) s1.heap.objs.size (Nat.succ_ne_self _), ⟨⟨.none, he⟩, hit⟩, fun b hb => ?_, q⟩
    have hle : s1.heap.objs.size ≤ b := by
      have q : b = s1.heap.objs.size + 1 ∨ b = s1.heap.objs.size := by simpa using hb
      rcases q with q | q
      · rw [q]; exact Nat.le_succ _
      · rw [q]; exact Nat.le_refl _
    exact I1.fpOk hle (I1.hok.fresh hle)
/-- list + list, wherever they stand -/
theorem op_catS {X : Cx} : OpR X (binaryOp .Add) (fun x y H Q => ∃ l b xs zs, x = .ref l ∧ y = .ref b ∧ SqL X.K H l xs ∧ SqL X.K H b zs ∧ xs.length + zs.length ≤ sizeLine ∧ ∀ p, H p = none → Q (.ref p) (upd H p (.lst (xs ++ zs)))) := by
  intro pins s σ H x y v u Q I rx ry h
  obtain ⟨l, b, xs, zs, rfl, rfl, hH, hB, hz, q⟩ := h
  cases rx
  cases ry
  obtain ⟨i1, r1, p1, _⟩ := I.list hH
  obtain ⟨i2, r2, p2, _⟩ := I.list hB
  obtain ⟨⟨c1, a1, t1, s1⟩, ho1, hc1, n1, hd1⟩ := p1.isList
  obtain ⟨⟨c2, a2, t2, s2⟩, ho2, hc2, n2, hd2⟩ := p2.isList
  simp only at hc1 hd1 hc2 hd2
  subst hc1 hd1 hc2 hd2
  have l1 := r1.length
  have l2 := r2.length
  refine concat_meets ⟨_, ho1, rfl⟩ ⟨_, ho2, rfl⟩ noFill_list_add seq_list_add PySem.F.slot_list_add PySem.F.entry_list_add (PySem.F.args_list_add_2 _ _) (list_addW l b i1.toArray i2.toArray n1 n2 a1 a2 s1 s2 (by simp; omega)) ⟨ho1, ho2, ?_⟩
  rw [show i1.toArray ++ i2.toArray = (i1 ++ i2).toArray by simp]
  exact ⟨.ref _, _, I.lnew (t' := s.toks) (r1.append r2) (by rw [List.length_append]; omega), rfl, q _ I.fresh⟩
/-! ### their walks -/
theorem walk_ss {x y : Str} : Walk (Jss x y) (min x.cps.size y.cps.size) (fun _ => True)
    (fun i H v H' => ∃ T c d, v = .ref T ∧ H T = none ∧ H' = upd H T (.tup [.str ⟨#[c]⟩, .str ⟨#[d]⟩]) ∧ x.cps[i]? = some c ∧ y.cps[i]? = some d) :=
  ⟨fun i _ hi _ => ⟨by omega, by omega⟩, fun _ _ => ⟨by omega, by omega, by omega⟩, fun _ _ _ _ _ _ y => y⟩
theorem walk_sl {K : PySem.W.Frag} {x : Str} {a : Addr} {ys : List V} : Walk (Jsl K x a) (min x.cps.size ys.length) (fun H => SqL K H a ys)
    (fun i H v H' => ∃ T c y, v = .ref T ∧ H T = none ∧ H' = upd H T (.tup [.str ⟨#[c]⟩, y]) ∧ x.cps[i]? = some c ∧ ys[i]? = some y) := by
  refine ⟨fun i H hi q => ⟨by omega, ys, ys[i]'(by omega), q, by simp [show i < ys.length by omega]⟩, fun H q => ⟨ys, q, by omega, by omega, by omega⟩, fun i H v H' hi q y => ?_⟩
  obtain ⟨T, c, y, h1, h2, h3, h4, h5⟩ := y
  exact ⟨T, c, y, h1, h2, h3, h4, h5 ys q⟩
theorem walk_es {x : Str} : Walk (Jes x) x.cps.size (fun _ => True) (fun i H v H' => ∃ T c, v = .ref T ∧ H T = none ∧ H' = upd H T (.tup [.int (i : Nat), .str ⟨#[c]⟩]) ∧ x.cps[i]? = some c) :=
  ⟨fun _ _ hi _ => hi, fun _ _ => rfl, fun _ _ _ _ _ _ y => y⟩
end Ms

set_option Elab.async false
set_option linter.all false
set_option maxRecDepth 100000
set_option maxHeartbeats 4000000
/-! set(a text), its size. -/
namespace PySem
namespace St
open PyProof.Rows
def add1 (σ : List Nat) (c : Nat) : List Nat := if c ∈ σ then σ else σ ++ [c]
/-- the signs of a list, each once -/
def once (l : List Nat) : List Nat := l.foldl add1 []
theorem once_next (l : List Nat) (c : Nat) : once (l ++ [c]) = add1 (once l) c := by
  unfold once
  rw [List.foldl_append]
  rfl
theorem mem_add1 {σ : List Nat} {c d : Nat} : d ∈ add1 σ c ↔ d ∈ σ ∨ d = c := by
  unfold add1
  by_cases h : c ∈ σ
  · rw [if_pos h]
    exact ⟨.inl, fun q => q.elim id fun e => e ▸ h⟩
  · rw [if_neg h, List.mem_append, List.mem_singleton]
theorem len_add1 (σ : List Nat) (c : Nat) : (add1 σ c).length = if c ∈ σ then σ.length else σ.length + 1 := by
  unfold add1
  split
  · rfl
  · rw [List.length_append, List.length_singleton]
theorem fold_len : ∀ (l σ : List Nat), (l.foldl add1 σ).length ≤ σ.length + l.length ∧ (σ.Nodup → ((l.foldl add1 σ).length = σ.length + l.length ↔ (σ ++ l).Nodup))
  | [], σ => by simp
  | c :: r, σ => by
    obtain ⟨h1, h2⟩ := fold_len r (add1 σ c)
    show (r.foldl add1 (add1 σ c)).length ≤ σ.length + (r.length + 1) ∧ _
    by_cases h : c ∈ σ
    · have e : add1 σ c = σ := if_pos h
      rw [e] at h1 h2
      refine ⟨by rw [e]; omega, fun nd => ⟨fun q => ?_, fun q => ?_⟩⟩
      · have q' : (r.foldl add1 (add1 σ c)).length = σ.length + (r.length + 1) := q
        rw [e] at q'
        omega
      · exact absurd rfl ((List.nodup_append.mp q).2.2 c h c (List.mem_cons_self ..))
    · have e : add1 σ c = σ ++ [c] := if_neg h
      rw [e] at h1 h2
      rw [List.length_append, List.length_singleton] at h1 h2
      refine ⟨by rw [e]; omega, fun nd => ?_⟩
      have nd2 : (σ ++ [c]).Nodup := List.nodup_append.mpr ⟨nd, List.nodup_cons.mpr ⟨List.not_mem_nil, List.nodup_nil⟩, fun a ha b hb z => h (by rw [List.mem_singleton.mp hb] at z; rw [← z]; exact ha)⟩
      have q := h2 nd2
      rw [List.append_assoc] at q
      show (r.foldl add1 (add1 σ c)).length = σ.length + (r.length + 1) ↔ _
      rw [e, show σ.length + (r.length + 1) = σ.length + 1 + r.length by omega]
      exact q
theorem once_len (l : List Nat) : (once l).length ≤ l.length ∧ ((once l).length = l.length ↔ l.Nodup) := by
  obtain ⟨h1, h2⟩ := fold_len l []
  have q := h2 List.nodup_nil
  rw [List.length_nil, Nat.zero_add] at h1 q
  rw [List.nil_append] at q
  exact ⟨h1, q⟩
def one (c : Nat) : Str := ⟨#[c]⟩
theorem one_inj {c d : Nat} (h : one c = one d) : c = d := by
  have e := congrArg (fun y : Str => y.cps.toList) h
  exact (List.cons.inj e).1
/-- which keys stand in the set behind such signs -/
def has (σ : List Nat) (k : Str) : Bool := σ.any fun c => decide (k = one c)
theorem has_iff {σ : List Nat} {k : Str} : has σ k = true ↔ ∃ c ∈ σ, k = one c := by
  unfold has
  rw [List.any_eq_true]
  exact ⟨fun ⟨c, h, e⟩ => ⟨c, h, of_decide_eq_true e⟩, fun ⟨c, h, e⟩ => ⟨c, h, decide_eq_true e⟩⟩
theorem has_one {σ : List Nat} {c : Nat} : has σ (one c) = decide (c ∈ σ) := by
  rw [Bool.eq_iff_iff, has_iff, decide_eq_true_iff]
  exact ⟨fun ⟨d, h, e⟩ => by rw [one_inj e]; exact h, fun h => ⟨c, h, rfl⟩⟩
theorem has_next (σ : List Nat) (c : Nat) (k : Str) : (has σ k || decide (k = one c)) = has (add1 σ c) k := by
  rw [Bool.eq_iff_iff, Bool.or_eq_true, has_iff, has_iff, decide_eq_true_iff]
  constructor
  · rintro (⟨d, h, e⟩ | e)
    · exact ⟨d, mem_add1.mpr (.inl h), e⟩
    · exact ⟨c, mem_add1.mpr (.inr rfl), e⟩
  · rintro ⟨d, h, e⟩
    rcases mem_add1.mp h with h | h
    · exact .inl ⟨d, h, e⟩
    · rw [h] at e
      exact .inr e
section
variable {prog : Program} {w : World} {A : Around} {R : Result → Shared → Prop}
theorem key_one (c : Nat) (u : Tok) : (strKind prog w).is (one c) (.str (one c) u) = true := by simp [strKind, Value.isStrOf]
/-- the signs of a text from place i on go into the set at S -/
theorem fill_loop {I S : Addr} {x : Str} {T : Nat → Heap → Prop} (W : Walks prog w A.in1 I [I] [I] x.cps.size (SignAt x) T) (hSI : S ≠ I) (hb : x.cps.size + 1 < scanBound) :
    ∀ (m i : Nat) (s : Shared), x.cps.size - i = m → i ≤ x.cps.size → T i s.heap → s.heap.SetOf (strKind prog w) S (has (once (x.cps.toList.take i))) (once (x.cps.toList.take i)).length →
      (∀ h' tk, (∀ b o, b ≠ S → b ≠ I → s.heap.get? b = some o → h'.get? b = some o) → h'.SetOf (strKind prog w) S (has (once x.cps.toList)) (once x.cps.toList).length → R (.ok (.ret .none)) { s with heap := h', toks := tk }) →
      codeAny (model prog w) A (.builtin "set.update.loop" ⟨[.ref S, .ref I], []⟩) R s
  | 0, i, s, hm, hi, hT, hS, hR => by
    have e : i = x.cps.size := by omega
    subst e
    have el : x.cps.toList.take x.cps.size = x.cps.toList := List.take_of_length_le (by simp)
    rw [el] at hS
    refine codeAny_builtin F.entry_set_update_loop ?_
    rw [Around.under_plainId F.plain_set_update_loop _]
    show wpAny _ A.in1 (pyNext (.ref I) >>= _) _ _ s
    refine wpAny_bind (W.done s _ _ hT fun h' tk kp => ?_)
    show wpAny _ A.in1 (ret Value.none) _ _ _
    refine wpAny_pure (hR h' tk (fun b o _ n e => kp b o (fun q => n (List.mem_singleton.mp q)) e) ?_)
    obtain ⟨o, es, ep, t, ho, rest⟩ := hS
    exact ⟨o, es, ep, t, kp S _ (fun q => hSI (List.mem_singleton.mp q)) ho, rest⟩
  | m + 1, i, s, hm, hi, hT, hS, hR => by
    have hlt : i < x.cps.size := by omega
    refine codeAny_builtin F.entry_set_update_loop ?_
    rw [Around.under_plainId F.plain_set_update_loop _]
    show wpAny _ A.in1 (pyNext (.ref I) >>= _) _ _ s
    refine wpAny_bind (W.item i s _ _ hlt hT fun v h' tk hv hT' kp => ?_)
    obtain ⟨c, u, hc, rfl⟩ := hv
    have hS2 : h'.SetOf (strKind prog w) S (has (once (x.cps.toList.take i))) (once (x.cps.toList.take i)).length := by
      obtain ⟨o, es, ep, t, ho, rest⟩ := hS
      exact ⟨o, es, ep, t, kp S _ (fun q => hSI (List.mem_singleton.mp q)) ho, rest⟩
    have hc' : x.cps.toList[i]? = some c := by simpa using hc
    have et : x.cps.toList.take (i + 1) = x.cps.toList.take i ++ [c] := by rw [List.take_add_one, hc']; rfl
    have hroom : (once (x.cps.toList.take i)).length + 1 < scanBound := by
      have q := (once_len (x.cps.toList.take i)).1
      rw [List.length_take] at q
      omega
    show wpAny _ A.in1 (holding [Value.str (one c) u] (setAdd S (.str (one c) u)) >>= _) _ _ _
    refine wpAny_bind (wpAny_holding ?_)
    unfold setAdd
    refine wpAny_holding (wpAny_bind ((strKind prog w).pyHash (k := one c) (key_one c u) ?_))
    refine wpAny_setAddHashed_of (knd := strKind prog w) (s := { s with heap := h', toks := tk + 1 }) (key_one c u) rfl hS2 hroom fun h2 sb hS3 => ?_
    have hS4 : h2.SetOf (strKind prog w) S (has (once (x.cps.toList.take (i + 1)))) (once (x.cps.toList.take (i + 1))).length := by
      have e1 : (fun k' => has (once (x.cps.toList.take i)) k' || decide (k' = one c)) = has (once (x.cps.toList.take (i + 1))) := by
        funext k'
        rw [et, once_next, has_next]
      have e2 : (if has (once (x.cps.toList.take i)) (one c) then (once (x.cps.toList.take i)).length else (once (x.cps.toList.take i)).length + 1) = (once (x.cps.toList.take (i + 1))).length := by
        rw [et, once_next, len_add1, has_one]
        by_cases q : c ∈ once (x.cps.toList.take i)
        · rw [decide_eq_true q, if_pos rfl, if_pos q]
        · rw [decide_eq_false q, if_neg Bool.false_ne_true, if_neg q]
      rw [e1, e2] at hS3
      exact hS3
    refine wpAny_pure ⟨plainId_quiet F.plain_set_update_loop _, fill_loop W hSI hb m (i + 1) _ (by omega) hlt (W.frame _ _ _ hT' fun b hbI o e => ?_) hS4 fun h3 tk3 kp3 hS5 => ?_⟩
    · rw [sb.2 b (fun q => hSI (by rw [← q]; exact List.mem_singleton.mp hbI))]
      exact e
    · refine hR h3 tk3 (fun b o n1 n2 e => kp3 b o n1 n2 ?_) hS5
      rw [sb.2 b n1]
      exact kp b o (fun q => n2 (List.mem_singleton.mp q)) e
end
namespace F2
theorem sub_str_set : isSubtype (.type "str") (.type "set") = pure false := by rw [isSubtype_type]; kernel_rfl
theorem sub_str_frozenset : isSubtype (.type "str") (.type "frozenset") = pure false := by rw [isSubtype_type]; kernel_rfl
end F2
section
variable {prog : Program} {w : World} {A : Around} {E : Value → Shared → Prop} {s : Shared}
theorem call_set_text {x : Str} {t : Tok} {Q : Value → Shared → Prop} (hh : A.handled = none) (hb : x.cps.size + 1 < scanBound)
    (hQ : ∀ (h' : Heap) (tk : Nat), h'.SetOf (strKind prog w) s.heap.objs.size (has (once x.cps.toList)) (once x.cps.toList).length → (∀ b o, s.heap.get? b = some o → h'.get? b = some o) → Q (.ref s.heap.objs.size) { s with heap := h', toks := tk }) :
    wpAny (model prog w) A (call (.type "set") [.str x t]) Q E s := by
  obtain ⟨c, tl, hmro⟩ := F.called_set.mro
  have hmade := F.called_set.made
  have hsub := F.called_set.sub
  refine wpAny_call (codeAny_of_tree ?_)
  show wpAny _ _ (callAny (.type "set") _) _ _ _
  refine wpAny_pure ⟨Code.quiet_builtin _ (by decide +kernel), codeAny_builtin F.entry_type_call ?_⟩
  rw [Around.under_plain (weight_type_call_type "set" [.str x t] []) rfl]
  have k1 := F.called_set.notType
  have k2 := F.called_set.canCreate
  have k3 := F.typeCall_set_1 (.str x t)
  repeat (any_goals (first | assumption | wp_step))
  refine codeAny_mono (code_set_new_1 (.str x t) (E := E) (Q₁ := fun obj s₁ => ∃ led : Bool, obj = .ref s.heap.objs.size ∧ s₁ = { s with heap := s.heap.push { cls := .type "set", dict := none, data := .set #[] 0 (.fresh 0 0 led) } }) fun led => ⟨led, rfl, rfl⟩) fun r s₁ hr => ?_
  cases r with
  | error e => exact hr
  | ok fl =>
    cases fl with
    | ret obj =>
      obtain ⟨led, rfl, rfl⟩ := hr
      generalize hnew : ({ cls := .type "set", dict := none, data := .set #[] 0 (.fresh 0 0 led) } : Obj) = nu
      have hfree : nu.isFreed = false := by rw [← hnew]; rfl
      have hS : (s.heap.push nu).get? s.heap.objs.size = some nu := Heap.get?_push_size _ hfree
      have hT : Shared.TypeIs { s with heap := s.heap.push nu } (.ref s.heap.objs.size) "set" := ⟨_, hS, by rw [← hnew]⟩
      have k4 := F.called_set.init.lookup
      have k5 := F.called_set.init.bind (.ref s.heap.objs.size)
      repeat (any_goals (first | assumption | wp_step))
      refine codeAny_mono (codeAny_call_builtin (R := wants (fun r s₂ => r = .none ∧ ∃ h' tk, s₂ = { s with heap := h', toks := tk } ∧ h'.SetOf (strKind prog w) s.heap.objs.size (has (once x.cps.toList)) (once x.cps.toList).length ∧
          (∀ b o, s.heap.get? b = some o → h'.get? b = some o)) E) F.called_set.init.plain F.entry_set_init (check_set_init_1 hT ?_)) fun r₂ s₂ hr₂ => ?_
      · have k6 := F2.sub_str_set
        have k7 := F2.sub_str_frozenset
        have k8 : (Value.type "str" == Value.type "dict") = false := by decide
        subst hnew
        unfold Builtin.«set.__init__» noKeywords Builtin.Frozenset.updateFrom
        generalize hIt : pyIter = It
        wp_walk
        subst hIt
        refine wpAny_pyIter_str fun o T W h0 => ?_
        refine wpAny_bind (wpAny_runValue ?_)
        have ne : s.heap.objs.size ≠ (s.heap.push { cls := .type "set", dict := none, data := .set #[] 0 (.fresh 0 0 led) }).objs.size := by
          rw [Heap.size_push]
          exact Nat.ne_of_lt (Nat.lt_succ_self _)
        refine fill_loop (W _ (by simp [hh])) ne hb (x.cps.size - 0) 0 _ (by omega) (Nat.zero_le _) h0 ?hS0 ?hR
        case hS0 =>
          have g0 : ((s.heap.push { cls := .type "set", dict := none, data := .set #[] 0 (.fresh 0 0 led) }).push o).get? s.heap.objs.size = some { cls := .type "set", dict := none, data := .set #[] 0 (.fresh 0 0 led) } := Heap.get?_push_of_some _ hS
          exact SetOf_congr ((setObjOf_fresh (knd := strKind prog w) led).setOf g0 (by unfold scanBound; omega)) (fun _ => rfl) rfl
        case hR =>
          intro h' tk' kp hS'
          show wpAny _ _ _ _ _ _
          refine wpAny_pure ?_
          show wpAny _ _ (ret Value.none) _ _ _
          refine wpAny_pure ⟨rfl, h', tk', rfl, hS', fun b o e => ?_⟩
          have lb := Heap.lt_size e
          refine kp b _ (Nat.ne_of_lt lb) ?_ (Heap.get?_push_of_some _ (Heap.get?_push_of_some _ e))
          rw [Heap.size_push]
          exact Nat.ne_of_lt (Nat.lt_succ_of_lt lb)
      · cases r₂ with
        | error e => exact hr₂
        | ok fl₂ =>
          cases fl₂ with
          | ret r =>
            obtain ⟨rfl, h', tk, rfl, hS', hk'⟩ := hr₂
            repeat (any_goals (first | assumption | wp_step))
            exact hQ _ _ hS' hk'
          | _ => exact hr₂.elim
    | _ => exact hr.elim
end
end St
end PySem
namespace Ms
open PySem PySem.Spec PyProof.Rows L2
/-- len(set(text)) -/
def tLst (ta : TE) : TE := fun σ H Q => ta σ H fun x H1 => ∃ z : Str, x = .str z ∧ z.length ≤ 4000 ∧ ∀ m : Nat, m ≤ z.length → (m = z.length ↔ z.cps.toList.Nodup) → Q (.int m) H1
theorem pe_lst_set {X : Cx} {a : Expr} {ta : TE} {p p2 q pos : Pos} (hg : Gl X "len") (hm : X.mg "len" = none) (hg2 : Gl X "set") (hm2 : X.mg "set" = none) (ha : PE X a ta) (hc : X.calm = true := by rfl)
    (na : starEach [a] X.env = (false, eval a X.env) :: starEach [] X.env := by rfl) : PE X (.Call (.Name "len" p) [.Call (.Name "set" p2) [a] [] q] [] pos) (tLst ta) := by
  refine ⟨fun pins s σ H Q I h => Call_ (ld_blt I hg hm boot_len ?_)⟩
  refine PyProof.Rows.callWith_builtin1 (PyProof.Rows.args_cons ?_ rfl) rfl rfl
  refine Call_ (ld_blt I hg2 hm2 boot_set ?_)
  refine PyProof.Rows.callWith_type1 (PyProof.Rows.args_cons (thn (ha.run pins s σ H _ I h) fun v s1 ⟨x, H1, I1, r1, q1⟩ => PyProof.Rows.args_nil ?_) na) na rfl
  obtain ⟨z, rfl, hz, q1⟩ := q1
  obtain ⟨t, rfl⟩ := r1
  have ez : z.cps.size = z.length := rfl
  refine PySem.St.call_set_text (I1.ok.hd hc) (by rw [ez]; unfold scanBound; omega) fun h' tk hS hk => PyProof.Rows.args_nil ?_
  obtain ⟨o, es, ep, tb, ho, hex, hd, _, _, _, hf, hn⟩ := hS
  have I2 : Inv X pins σ H1 { s1 with heap := h', toks := tk } := I1.kept hk
  obtain ⟨l1, l2⟩ := PySem.St.once_len z.cps.toList
  have el : z.cps.toList.length = z.length := by simp [Str.length]
  rw [el] at l1 l2
  exact call_len_set ho hex hd hf (by rw [hn]; omega) ⟨.int (PySem.St.once z.cps.toList).length, H1, I2.tok _, ⟨_, by rw [hn]⟩, q1 _ l1 l2⟩
end Ms

set_option Elab.async false
set_option linter.all false
set_option maxRecDepth 100000
set_option maxHeartbeats 4000000
/-! An own exception whose __init__ says super().__init__(a text) and then keeps its one field. -/
namespace PySem
namespace Sx
open PySem.W PySem.Calls PyProof.Rows PySem.HandSPX
def iA (fld : Str) (p1 p2 : Pos) : Arguments := { posonlyargs := [], args := [{ arg := "self", annotation := none, pos := p1 }, { arg := fld, annotation := none, pos := p2 }], vararg := none, kwonlyargs := [], kw_defaults := [], kwarg := none, defaults := [] }
def iB (fld msg : Str) (p0 p1 p2 p3 p4 p5 q1 q2 q3 q4 : Pos) (j : Nat) : List Stmt :=
  [.Expr (.Call (.Attribute (.Call (.Name "super" p0) [] [] p1) "__init__" p2) [.Constant (.str msg) j p3] [] p4) p5, .Assign [.Attribute (.Name "self" q1) fld q2] (.Name fld q3) q4]
def iS (fld : Str) : Scope := { kind := .function, names := [(PySem.Str.ofString "self", .local), (fld, .local), (PySem.Str.ofString "__class__", .free), (PySem.Str.ofString "super", .globalImplicit)], isGenerator := false, isCoroutine := false, more := [] }
abbrev iF (fld msg qual : Str) (p1 p2 : Pos) (c0 c1 c2 c3 c4 c5 q1 q2 q3 q4 : Pos) (j : Nat) (doc pm : Value) (an : Option Addr) (cda : Addr) (ct : Value) (cc : Addr) : FuncData :=
  ksFn "__init__" qual (iA fld p1 p2) (iB fld msg c0 c1 c2 c3 c4 c5 q1 q2 q3 q4 j) (iS fld) .none .none doc pm an (.ref cda) ct cc
/-- what the written part says of the class nm, at C, and of its __init__, at fI -/
structure Txt (prog : Program) (K : Frag) (mg : Str → Option Value) (nm fld : Str) (C fI : Addr) : Prop where
  gC : mg nm = some (.ref C)
  cls : ∃ nm q N bs bm sn sub ab col dd k0 k1 k2 k3 k5, K.lookup C = some (excClassObj nm q C N bs bm true sn sub ab col dd k0 k1 k2 k3 k5 "ValueError.__new__") ∧ refsVE bm = true ∧ alongIn K "__init__" bm = some (some (.builtin "ValueError.__init__"))
  sa : findIn K (.ref C) "__setattr__" = some (some (.builtin "object.__setattr__"))
  ga : findIn K (.ref C) "__getattribute__" = some (some (.builtin "BaseException.__getattribute__"))
  gg : findIn K (.ref C) "__getattr__" = some none
  noN : findIn K (.ref C) fld = some none
  iC : findIn K (.ref C) "__init__" = some (some (.ref fI))
  tC : typeIn K (.ref fI) = some (.type "function")
  kC : keepIn K (.ref C) = true
  exC : subIn K (.ref C) (.type "BaseException") = some true
  vaC : subIn K (.ref C) (.type "ValueError") = some true
  meC : mroIn K C (.ref C) = some true
  tyC : typeIn K (.ref C) = some (.type "type")
  hdC : hasDictIn K C = true
  te : exmOne K (.ref C) (.ref C) = some true
  opq : nsIn K cStatics "thirdparty.any" = some none
  sup : mg "super" = none
  top : (prog.main.scope.names.lookup ("super" : Str)).isSome = false
  fne : (("self" : Str) == fld) = false
  fks : (iS fld).names.lookup ("super" : Str) = some .globalImplicit
  fkc : (iS fld).names.lookup ("__class__" : Str) = some .free
  fdb : (fld == ("__debug__" : Str)) = false
  fn : ∃ (qual msg : Str) (oc : Value) (od : Option Addr) (doc pm : Value) (an : Option Addr) (ct : Value) (osl : Array (Option Value)) (p1 p2 c0 c1 c2 c3 c4 c5 q1 q2 q3 q4 : Pos) (j : Nat) (cda cc : Addr) (ccl : Value) (cdd : Option Addr) (vs : Array Value) (ccs : Array (Option Value))
      (cl : Value) (cld : Option Addr) (csl : Array (Option Value)) (file : Str) (tf : Tok),
    K.lookup fI = some ⟨oc, od, .func (iF fld msg qual p1 p2 c0 c1 c2 c3 c4 c5 q1 q2 q3 q4 j doc pm an cda ct cc), osl⟩ ∧ codeIn K (.ref cda) qual = true ∧
    K.lookup cda = some ⟨ccl, cdd, .fields vs, ccs⟩ ∧ vs[2]? = some (.str file tf) ∧ ((prog.main.file : Str) == file) = true ∧ K.lookup cc = some ⟨cl, cld, .cell (some (.ref C)), csl⟩ ∧
    (∀ (s : Shared) (x v : Value), BindsTo s (iF fld msg qual p1 p2 c0 c1 c2 c3 c4 c5 q1 q2 q3 q4 j doc pm an cda ct cc) ⟨[x, v], []⟩ [("self", x), (fld, v)]) ∧
    ∃ pl : Sem Bool, ∀ L : Addr, eval (.Call (.Attribute (.Call (.Name "super" c0) [] [] c1) "__init__" c2) [.Constant (.str msg) j c3] [] c4) (callEnv (iF fld msg qual p1 p2 c0 c1 c2 c3 c4 c5 q1 q2 q3 q4 j doc pm an cda ct cc) L fI) = (do
      let ov ← attributeBase (.Call (.Name "super" c0) [] [] c1) "__init__" (callEnv (iF fld msg qual p1 p2 c0 c1 c2 c3 c4 c5 q1 q2 q3 q4 j doc pm an cda ct cc) L fI) (eval (.Call (.Name "super" c0) [] [] c1) (callEnv (iF fld msg qual p1 p2 c0 c1 c2 c3 c4 c5 q1 q2 q3 q4 j doc pm an cda ct cc) L fI))
      standAt c2.atName
      let (f, first) ← holding [ov] (getMethod ov "__init__" pl)
      callWith c4 f first (backTo c4 (starEach [.Constant (.str msg) j c3] (callEnv (iF fld msg qual p1 p2 c0 c1 c2 c3 c4 c5 q1 q2 q3 q4 j doc pm an cda ct cc) L fI))) [])
/-- what __init__ leaves of a fresh exception at x -/
structure End (fld : Str) (h h' : Heap) (x C dx t1 : Addr) (v : Value) : Prop where
  keep : ∀ b o, b ≠ x → h.get? b = some o → h'.get? b = some o
  obj : h'.get? x = some { cls := .ref C, dict := some dx, data := .fields #[.ref t1, .none, .none, .none, .bool false, .none] }
  dbig : h.objs.size ≤ dx
  dne : dx ≠ x
  ns : h'.Ns1 dx (fun y => if y = fld then some v else none)
theorem iS_lk {fld : Str} (h : (("self" : Str) == fld) = false) : (iS fld).names.lookup fld = some .local := by
  have h2 : (fld == ("self" : Str)) = false := by rw [BEq.comm]; exact h
  show List.lookup fld _ = _
  simp [iS, List.lookup, h2]
section
variable {prog : Program} {w : World} {A : Around} {E : Value → Shared → Prop} {R : Result → Shared → Prop} {s : Shared} {K : Frag} {mg mb : Str → Option Value} {nm fld : Str} {C fI : Addr}
theorem ex_init (T : Txt prog K mg nm fld C fI) {x t0 : Addr} {v : Value} (X : K.In s.heap) (hg : s.heap.Ns mainGlobals mg) (hb : s.heap.Ns builtinsNs mb) (hbs : mb "super" = some (.type "super")) (hlim : s.heap.NoLimit) (hx : s.heap.get? x = some (excO C t0)) (hxN : K.lookup x = none) (hroom : A.depth < recursionLimit)
    (hq : ∀ h' tk dx t1, End fld s.heap h' x C dx t1 v → R (.ok (.ret .none)) { s with heap := h', toks := tk }) :
    codeAny (model prog w) A (.call (.ref fI) ⟨[.ref x, v], []⟩) R s := by
  obtain ⟨qual, msg, oc, od, doc, pm, an, ct, osl, p1, p2, c0, c1, c2, c3, c4, c5, q1, q2, q3, q4, j, cda, cc, ccl, cdd, vs, ccs, cl, cld, csl, file, tf, ho, hcd, hco, hvs, hfile, hcell, hbind, pl, hev⟩ := T.fn
  obtain ⟨nm', q, N, bs, bm, sn, sub, ab, col, dd, k0, k1, k2, k3, k5, hC, hbm, hal⟩ := T.cls
  have hcl : clsIn K C = some { name := nm', bases := bs, mro := .ref C :: bm, ns := N, qualname := q, hasDict := true, slotNames := sn, subclasses := sub, abstract := ab, collection := col, hasDel := false } := by unfold clsIn; rw [hC] <;> rfl
  have fl := iS_lk T.fne
  have hxC : x ≠ C := fun e => by
    have z := X _ _ hC
    rw [← e, hx] at z
    cases z
  refine ks_codeAny_call_defAt (fd := iF fld msg qual p1 p2 c0 c1 c2 c3 c4 c5 q1 q2 q3 q4 j doc pm an cda ct cc) (binds := [("self", .ref x), (fld, v)]) hroom (X _ _ ho) rfl hlim (codeRec_of X hcd) rfl (hbind _ _ _) ?_ ?_ (fun h₁ hns k => ?_) rfl rfl rfl
  · intro y hy
    have hy' : y = (PySem.Str.ofString "self", NameKind.local) ∨ y = (fld, NameKind.local) ∨ y = (PySem.Str.ofString "__class__", NameKind.free) ∨ y = (PySem.Str.ofString "super", NameKind.globalImplicit) := by simpa [iS] using hy
    rcases hy' with rfl | rfl | rfl | rfl <;> exact fun z => nomatch z
  · intro y hy
    have hy' : y = (("self" : Str), Value.ref x) ∨ y = (fld, v) := by simpa using hy
    rcases hy' with rfl | rfl
    · rfl
    · exact fl
  have X₁ : K.In h₁ := X.keeps k
  have hx₁ := k _ _ hx
  have hD : h₁.get? C = some (excClassObj nm' q C N bs bm true sn sub ab col dd k0 k1 k2 k3 k5 "ValueError.__new__") := X₁ _ _ hC
  have ms : (fun y => ([(("self" : Str), Value.ref x), (fld, v)] : List (Str × Value)).reverse.lookup y) "self" = some (.ref x) := by
    show List.lookup ("self" : Str) [(fld, v), (("self" : Str), Value.ref x)] = _
    simp [List.lookup, T.fne]
  have mf : (fun y => ([(("self" : Str), Value.ref x), (fld, v)] : List (Str × Value)).reverse.lookup y) fld = some v := by
    show List.lookup fld [(fld, v), (("self" : Str), Value.ref x)] = _
    simp [List.lookup]
  obtain ⟨hh, g, d, tk, os⟩ := s
  -- super().__init__(..)
  refine ks_wpAt_execs_cons (ks_wpAt_Expr_any (ks_wpAt_MethodCall ?_ (hev _)))
  refine ks_wpAt_super_base T.fks T.fkc rfl rfl (X₁ _ _ ho) rfl rfl rfl (X₁ _ _ hco) rfl hvs hfile T.top ?_
  refine ks_loadName_global rfl T.fks (loadGlobal_builtin (hg.keeps k) T.sup (hb.keeps k) hbs ⟨rfl, ?_⟩)
  refine wpAny_loadName_free rfl T.fkc rfl ⟨_, X₁ _ _ hcell, rfl⟩ ?_
  refine wpAny_loadName_local rfl rfl hns ms ?_
  refine ks_wpAny_isType_cls hD rfl ⟨rfl, ?_⟩
  refine ks_wpAny_call_super hD rfl hx₁ rfl (fun c z => nomatch z) (looks_mroIn X₁ T.meC) (fun h₂ e₂ k₂ => ?_)
  have X₂ : K.In h₂ := X₁.keeps k₂
  have hx₂ := k₂ _ _ hx₁
  have J₂ : InstAt h₂ x (excO C t0) C none := ⟨hx₂, rfl, rfl, trivial⟩
  refine kxs_getMethod kxs_ValueError e₂ (looks_opaque X₂ T.opq) (l₀ := .ref C :: bm) (fun A Q E s k q => wpAny_bind ((looks_clsIn X₂ hcl) A _ E s k (wpAny_pure q))) (l := bm) ?_ X₂ hal (J₂.type.andThen (looks_subIn X₂ T.vaC)) hxC (by decide) ?_
  · simp [List.dropWhile_cons]
  have eu : (h₂.push (kxs_mw "ValueError.__init__" x)).get? h₂.objs.size = some (kxs_mw "ValueError.__init__" x) := Heap.get?_push_at rfl rfl
  have kp : ∀ b o, h₂.get? b = some o → (h₂.push (kxs_mw "ValueError.__init__" x)).get? b = some o := fun b o e => Heap.get?_push_of_some _ e
  refine kxs_callWith (i := "ValueError.__init__") (x := x) rfl (evalArgs_plain (spliced_cons ?_))
  refine @Calls.Constant_str _ _ _ _ _ _ j c3 _ (wpAny_pure ⟨eu, ?_⟩)
  generalize h₂.objs.size = u at eu
  generalize h₂.push (kxs_mw "ValueError.__init__" x) = h₃ at eu kp
  have X₃ : K.In h₃ := X₂.keeps kp
  refine wpAny_call (codeAny_of_tree ?_)
  show wpAny _ _ (callAny (.ref u) ⟨_, []⟩) _ _ _
  simp only [callAny]
  refine wpAny_bind (wpAny_load eu ?_)
  simp only [kxs_mw, show (Value.type "method-wrapper" == Value.type "method" || Value.type "method-wrapper" == Value.type "builtin_function_or_method" || Value.type "method-wrapper" == Value.type "method-wrapper") = true by decide, if_true]
  refine KFB.if_so (by decide) ?_
  refine wpAny_bind (check_bound_init F.excBase_ValueError.toExcCallFacts (X₃ _ _ hC) (kp _ _ hx₂) rfl ?_)
  refine wpAny_bind (wpAny_pure (wpAny_pure ?_))
  refine ⟨plainId_quiet F.excBase_ValueError.init.plain _, codeAny_builtin F.excBase_ValueError.initEntry ?_⟩
  refine exc_init_tree (cls := .ref C) (t0 := t0) (dv := none) (c2 := .none) (c3 := .none) (b4 := .bool false) (kp _ _ hx₂) (by show 1 ≤ sizeLine; decide) fun h₄ k₄ hx₄ _ => ?_
  generalize h₃.objs.size = t1 at hx₄
  -- self.fld = fld
  have old : ∀ b o, b ≠ x → h₁.get? b = some o → h₄.get? b = some o := fun b o n e => k₄ b o n (kp _ _ (k₂ _ _ e))
  have hL : hh.objs.size ≠ x := Nat.ne_of_gt (Heap.lt_size hx)
  have X₄ : K.In h₄ := fun a o e => k₄ a o (fun z => by rw [z, hxN] at e; cases e) (X₃ _ _ e)
  have nsX : h₄.Ns hh.objs.size (fun y => ([(("self" : Str), Value.ref x), (fld, v)] : List (Str × Value)).reverse.lookup y) := by
    obtain ⟨oL, es, ep, e, r⟩ := hns
    exact ⟨oL, es, ep, old _ _ hL e, r⟩
  refine ks_wpAt_execs_cons (ks_wpAt_Assign_Attr (wpAt_of_wpAny (wpAny_Name (wpAny_loadName_local rfl fl nsX mf ?_) T.fdb)))
  refine wpAny_Name (wpAny_loadName_local rfl rfl nsX ms ?_) (by decide)
  refine set_plain X₄ (ox := excO C t1) (od := none) ⟨hx₄, rfl, rfl, trivial⟩ T.sa ?_
  refine exc_osa X₄ hx₄ hcl (show refsVE (.ref C :: bm) = true from hbm) rfl T.noN (fun h₅ tk₅ dx k₅ dn dne hx₅ hn₅ => ?_)
  have lz : hh.objs.size < h₄.objs.size := by
    obtain ⟨oL, es, ep, e, r⟩ := nsX
    exact Heap.lt_size e
  exact wpAt_of_wpAny (wpAny_execs_nil (hq h₅ tk₅ dx t1 ⟨fun b o n e => k₅ b o n (old b o n (k b o e)), hx₅, Nat.le_of_lt (Nat.lt_of_lt_of_le lz dn), dne, hn₅⟩))
/-- a made one -/
structure Made (fld : Str) (h h' : Heap) (e C d : Addr) (v : Value) : Prop where
  keep : ∀ b o, h.get? b = some o → h'.get? b = some o
  new : h.objs.size ≤ e
  obj : ∃ t1 : Addr, h'.get? e = some { cls := .ref C, dict := some d, data := .fields #[.ref t1, .none, .none, .none, .bool false, .none] }
  dbig : h.objs.size ≤ d
  dne : d ≠ e
  ns : h'.Ns1 d (fun y => if y = fld then some v else none)
theorem ex_made (T : Txt prog K mg nm fld C fI) {v : Value} (X : K.In s.heap) (hg : s.heap.Ns mainGlobals mg) (hb : s.heap.Ns builtinsNs mb) (hbs : mb "super" = some (.type "super")) (hlim : s.heap.NoLimit) (hroom : A.depth + 1 < recursionLimit)
    (hq : ∀ h' tk e d, Made fld s.heap h' e C d v → R (.ok (.ret (.ref e))) { s with heap := h', toks := tk }) :
    codeAny (model prog w) A (.call (.ref C) ⟨[v], []⟩) R s := by
  obtain ⟨nm', q, N, bs, bm, sn, sub, ab, col, dd, k0, k1, k2, k3, k5, hC, hbm, hal⟩ := T.cls
  obtain ⟨hp, g, dr, tk, os⟩ := s
  have k : ∀ b o, hp.get? b = some o → ((hp.push (kdv_tup [v])).push (excO C hp.objs.size)).get? b = some o := fun b o e => Heap.get?_push_of_some _ (Heap.get?_push_of_some _ e)
  have hget : ((hp.push (kdv_tup [v])).push (excO C hp.objs.size)).get? (hp.objs.size + 1) = some (excO C hp.objs.size) := by heap_get
  have hnx : K.lookup (hp.objs.size + 1) = none := by
    cases e : K.lookup (hp.objs.size + 1) with
    | none => rfl
    | some o => exact absurd (Nat.lt_of_succ_lt (Heap.lt_size (X _ _ e))) (Nat.lt_irrefl _)
  refine call_own F.excBase_ValueError (fun X => refsVE_contains X bm hbm) (X _ _ hC) (looks_findIn X T.iC) (fun self => bind_fn X self T.tC) (by show 1 ≤ sizeLine; decide) ?_
  refine ex_init (s := ⟨(hp.push (kdv_tup [v])).push (excO C hp.objs.size), g, dr, tk, os⟩) T (X.keeps k) (hg.keeps k) (hb.keeps k) hbs (hlim.keeps k) hget hnx hroom fun h' tk' dx t1 M => ?_
  have old : ∀ b o, hp.get? b = some o → h'.get? b = some o := fun b o e => M.keep b o (Nat.ne_of_lt (Nat.lt_succ_of_lt (Heap.lt_size e))) (k b o e)
  have z : hp.objs.size ≤ dx := by
    have q := M.dbig
    rw [Heap.size_push, Heap.size_push] at q
    exact Nat.le_trans (Nat.le_trans (Nat.le_succ _) (Nat.le_succ _)) q
  exact ⟨rfl, hq h' tk' (hp.objs.size + 1) dx ⟨old, Nat.le_succ _, ⟨t1, M.obj⟩, z, M.dne, M.ns⟩⟩
end
end Sx
end PySem
namespace Ms
open PySem PySem.Spec PyProof.Rows L2
theorem relO_one {fld : Str} {v : V} {u : Value} (r : RelV v u) (f : Str) : RelO (List.lookup f [(fld, v)]) (if f = fld then some u else none) := relO_put (fs := []) (mA := fun _ => none) r (fun _ => True.intro) f
section
variable {X : Cx} {C fI : Addr} {nm fld : Str}
/-- nm(e) as an exception that is being made -/
def tMkS (fld : Str) (C : Addr) (ta : TA) : L2.St → Hp → XK → Prop := fun σ H Q => ta σ H fun vs H1 => ∃ v, vs = [v] ∧ ∀ d, H1 d = none → Q (.ref C) (some d) (upd H1 d (.xd [(fld, v)]))
theorem pmk_s {a : Expr} {ta : TA} {p pos : Pos} {k : Nat} (T : Sx.Txt X.prog X.K X.mg nm fld C fI) (hr : Room k X.A) (ha : PA X [a] ta) (hg : Gl X nm := by rfl) (hdb : (nm == ("__debug__" : Str)) = false := by decide)
    (he : starEach (a :: []) X.env = (false, eval a X.env) :: starEach [] X.env := by rfl) (hpl : (backTo pos (starEach [] X.env)).any (·.1) = false := by rfl) :
    PMk X (.Call (.Name nm p) [a] [] pos) (tMkS fld C ta) := by
  intro pins s σ H Q I h
  refine wpAny_Call_Name_kw (ld_glob I hg T.gC ?_ hdb)
  refine PySem.W.callWith_K (h₀ := X.base) I.ok.mod.kin T.kC (thn (ha.run pos pins s σ H _ I h) fun us s1 hh => ?_) he hpl
  obtain ⟨vs, H1, I1, r1, v, rfl, q1⟩ := hh
  refine ⟨I1.kIn, ?_⟩
  cases r1 with
  | @cons _ u' _ us' rv rn =>
    cases rn
    show wpAny _ _ (call (.ref C) [u']) _ _ _
    have hlim := I1.nolimit
    obtain ⟨mb, hb1, hb2⟩ := I1.mod.blt
    have hg1 := I1.mod.glob.keeps I1.bk
    have hb := hb1.keeps I1.bk
    have hbs : mb "super" = some (.type "super") := (hb2 _ (by decide)).trans (by decide +kernel)
    obtain ⟨hp, g, dr, tk, os⟩ := s1
    refine wpAny_call (Sx.ex_made T I1.kIn hg1 hb hbs hlim (by have := hr.dp; omega) fun h' tk' e d M => ?_)
    show MkP X pins σ Q (.ref e) ⟨h', g, dr, tk', os⟩
    obtain ⟨t1, hoe⟩ := M.obj
    have hns := M.ns
    obtain ⟨G', g1, g2⟩ := restrict h' fun b => decide (b ≠ e)
    have gk : ∀ b, b ≠ e → G'.get? b = h'.get? b := fun b hb => g1 b (decide_eq_true hb)
    have ge : G'.get? e = none := g2 e (by simp)
    have old : ∀ b o, hp.get? b = some o → G'.get? b = some o := fun b o q => (gk b (Nat.ne_of_lt (Nat.lt_of_lt_of_le (Heap.lt_size q) M.new))).trans (M.keep b o q)
    have ob : ObjOk X.prog X.w (upd H1 d (.xd [(fld, v)])) G' d (.xd [(fld, v)]) := ⟨_, hns.at (fun o q => (gk d M.dne).trans q), fun f => relO_one rv f⟩
    have J : Inv X pins σ (upd H1 d (.xd [(fld, v)])) ⟨G', g, dr, tk', os⟩ := I1.laid (t' := tk') old M.dbig ob
    refine ⟨e, _, _, ⟨G', g, dr, tk', os⟩, _, .ref C, some d, rfl, J, fun b o q => ?_, ge, hoe, ⟨rfl, rfl⟩, rfl, rfl, ?_, rfl, I1.bare, raises_own T.exC T.tyC, q1 d (I1.hok.fresh M.dbig)⟩
    · by_cases hb : b = e
      · have q' : G'.get? b = some o := q
        rw [hb, ge] at q'; cases q'
      · exact (gk b hb).symm.trans q
    · rw [upd_ne (Ne.symm M.dne)]
      exact I1.hok.fresh M.new
/-- raise nm(e) -/
def tRaiseS (fld : Str) (C : Addr) (W : WX) (ta : TA) : TS := fun _ σ H => tMkS fld C ta σ H fun cls d H' => W cls d σ H'
theorem ps_raiseS {a : Expr} {ta : TA} {W : WX} {p pos pos2 : Pos} {k : Nat} (hc : X.calm = true) (T : Sx.Txt X.prog X.K X.mg nm fld C fI) (hr : Room k X.A) (tk : Takes X W) (ha : PA X [a] ta) (hg : Gl X nm := by rfl) (hdb : (nm == ("__debug__" : Str)) = false := by decide)
    (he : starEach (a :: []) X.env = (false, eval a X.env) :: starEach [] X.env := by rfl) (hpl : (backTo pos (starEach [] X.env)).any (·.1) = false := by rfl) :
    PS X (.Raise (some (.Call (.Name nm p) [a] [] pos)) none pos2) (tRaiseS fld C W ta) := ps_raise hc tk (pmk_s T hr ha hg hdb he hpl)
/-- n.fld, n the exception that the suite holds (at a; its class cls, its dict d) -/
def tByS (fld : Str) (C : Addr) (a : Addr) (cls : Value) (d : Option Addr) (te : TE) : TE := fun σ H Q => te σ H fun x H1 => x = .ref a ∧ cls = .ref C ∧ ∃ (dd : Addr) (v : V), d = some dd ∧ H1 dd = some (.xd [(fld, v)]) ∧ Q v H1
theorem pe_byS {a : Addr} {oe : Obj} {cls : Value} {d : Option Addr} {pn : List (Addr × Obj)} {e : Expr} {te : TE} {pos : Pos} (T : Sx.Txt X.prog X.K X.mg nm fld C fI) (hz : Zc cls d oe) (hf : ∃ vs, oe.data = .fields vs) (he : PE (X.suite a ((a, oe) :: pn)) e te)
    (hb : attributeBase e fld X.env (eval e X.env) = eval e X.env := by rfl) :
    PE (X.suite a ((a, oe) :: pn)) (.Attribute e fld pos) (tByS fld C a cls d te) := by
  refine ⟨fun pins s σ H Q I h => attr_of hb (thn (he.run pins s σ H _ I h) fun u s1 hh => ?_)⟩
  obtain ⟨x, H1, I1, rx, rfl, rfl, dd, v, rfl, ea, q⟩ := hh
  obtain rfl : u = Value.ref a := rx
  obtain ⟨ha, _⟩ := I1.pin (a, oe) (List.mem_append_left _ List.mem_cons_self)
  obtain ⟨vs, hd⟩ := hf
  have hx : ObjOk X.prog X.w H1 s1.heap dd (.xd [(fld, v)]) := I1.hok dd _ ea
  obtain ⟨mA, hns, hr⟩ := hx
  obtain ⟨od, ho, hl⟩ := lookIn_ns hns
  have l : List.lookup fld [(fld, v)] = some v := by simp [List.lookup]
  obtain ⟨u, hu, ru⟩ := RelO.some_of (v := v) (o := mA fld) (by rw [← l]; exact hr fld)
  have J : PySem.W.InstAt s1.heap a oe C (some od) := ⟨ha, hz.1, by unfold PySem.W.notCls; rw [hd] <;> rfl, by rw [hz.2]; exact ho⟩
  exact HandSPX.exc_get I1.kIn J T.ga T.gg T.exC (PySem.W.findObj_own T.hdC T.noN rfl (by rw [hl, hu])) (handed_of ru) ⟨v, H1, I1.tok _, ru, q⟩
end
end Ms

set_option Elab.async false
set_option linter.all false
set_option maxRecDepth 100000
set_option maxHeartbeats 4000000
/-! try with several clauses, each with a name. -/
namespace Ms
open PySem PySem.Spec PyProof.Rows L2
/-- the ends of a suite whose name, in slot i, goes behind it -/
def offEnds (i : Nat) (D : Ends) : Ends := { nx := fun σ H => D.nx (σ.set i none) H, rt := D.rt, bk := fun σ H => D.bk (σ.set i none) H, ct := fun σ H => D.ct (σ.set i none) H }
abbrev Cl := Value × Nat × (Addr → Value → Option Addr → TS)
def wAll (K : PySem.W.Frag) (n : Nat) (Wo : WX) (D : Ends) : List Cl → WX
  | [] => Wo
  | (c, i, ts) :: r => fun cls d σ H => ∃ b, PySem.W.exmOne K cls c = some b ∧ (b = true → ∀ a, H a = none → σ.length = n → ts a cls d (offEnds i D) (σ.set i (some (.ref a))) H) ∧ (b = false → wAll K n Wo D r cls d σ H)
inductive Clauses (X : Cx) : List ExceptHandler → List Cl → Prop
  | nil : Clauses X [] []
  | cons {x n : Str} {c : Value} {i : Nat} {ts : Addr → Value → Option Addr → TS} {b₀ : Stmt} {su : List Stmt} {np pp : Pos} {hs : List ExceptHandler} {l : List Cl} (nc : Names X x c) (ni : X.N[i]? = some n) (nl : X.env.kindOf n = some .local)
      (sr : ∀ (a : Addr) (oe : Obj) (cls : Value) (d : Option Addr) (pn : List (Addr × Obj)), Zc cls d oe → (∃ vs, oe.data = .fields vs) → PSs (X.suite a ((a, oe) :: pn)) (b₀ :: su) (ts a cls d)) (r : Clauses X hs l) :
      Clauses X (.ExceptHandler (some (.Name x np)) (some n) (b₀ :: su) pp :: hs) ((c, i, ts) :: l)
section
variable {X : Cx} {pins : List (Addr × Obj)} {σ : L2.St} {H : Hp} {sI s : Shared} {B : Heap} {a : Addr} {cls : Value} {d : Option Addr} {D : Ends} {Wo : WX}
/-- an exception that has landed: it may be asked for its class, and flies on where no clause is its own -/
structure Landed (X : Cx) (pins : List (Addr × Obj)) (σ : L2.St) (H : Hp) (sI s : Shared) (B : Heap) (a : Addr) (cls : Value) (d : Option Addr) : Prop where
  inv : Inv X pins σ H sI
  nb : ∀ b o, sI.heap.get? b = some o → b ∉ frs X.stack → B.get? b = some o
  up : sI.heap.UpToSlots s.heap
  fly : HandSPX.FlyingZ B (X.env :: X.outer) a (Zc cls d) s.heap
  na : H a = none
  os : s.os = sI.os
  ag : AllBare s.gens
  nL : a ≠ X.env.locals
  nF : a ∉ X.fs
theorem Landed.here (F : Landed X pins σ H sI s B a cls d) : Inv X pins σ H s := F.inv.landed F.nb F.fly.1 F.up F.os F.ag
theorem clauses_run (hst : X.stack = X.env :: X.outer) (hfr : X.env.frame = some X.env.locals) (hN : X.N.Nodup) (tk : Takes X Wo) {hs : List ExceptHandler} {l : List Cl} (C : Clauses X hs l) :
    ∀ {s : Shared}, Landed X pins σ H sI s B a cls d → wAll X.K X.N.length Wo D l cls d σ H → wpAny (model X.prog X.w) X.A (handleBy (.ref a) X.env hs) (SP X pins D) X.xe s := by
  induction C with
  | nil =>
    intro s F q
    have fly := F.fly
    obtain ⟨_, _, _, oe, vs, T, _, _, he, _, hd, h1, _⟩ := id fly
    refine wpAny_handleBy_nil ?_
    unfold PySem.passOn
    refine wpAny_bind (wpAny_field he hd h1 ?_)
    rw [if_neg (show ¬ ((Value.ref T == Value.none) = true) by simp)]
    have go : wpAny (model X.prog X.w) X.A (setFlight (.ref a) X.env.frame) (fun _ s4 => wpAny (model X.prog X.w) X.A (throw (.ref a) : Sem Flow) (SP X pins D) X.xe s4) X.xe s := by
      rw [hfr]
      exact HandSPX.setFlight_upZ fly fun h4 y4 u4 => wpAny_throw (tk _ _ ⟨a, B, sI, pins, σ, H, cls, d, rfl, F.inv, F.nb, F.up.trans u4, .inr (.inr (by rw [hst]; exact y4)), F.na, F.os, F.ag, q⟩)
    first
      | exact wpAny_bind (wpAny_pure (wpAny_bind go))
      | exact wpAny_bind go
  | @cons x n c i ts b₀ su np pp hs l nc ni nl sr r ih =>
    intro s F q
    obtain ⟨hp, g, dr, tk0, os0⟩ := s
    obtain ⟨b, eb, yes, no⟩ := q
    have J := F.here
    obtain ⟨oe, vs, he, hz, hd⟩ := F.fly.there
    have S := J.suite he hd F.na F.nL F.nF
    have lt : PySem.W.Looks (model X.prog X.w) hp (typeOf (.ref a)) cls := fun A Q E s k y => wpAny_typeOf_ref (k _ _ he) (by rw [hz.1]; exact y)
    have lm := PySem.W.exm_one (M := model X.prog X.w) J.kIn lt eb
    have asked : ∀ {Q : Value → Shared → Prop} {E : Value → Shared → Prop}, Q c ⟨hp, g, dr, tk0, os0⟩ → wpAny (model X.prog X.w) (X.A.mark (some (.ref a))) (eval (.Name x np) X.env) Q E ⟨hp, g, dr, tk0, os0⟩ := fun {Q E} y => by
      obtain ⟨k1, k2, k3 | ⟨k3, k4, k5⟩⟩ := nc
      · exact ld_glob (X := X.suite a ((a, oe) :: (X.pn ++ pins))) S k1 k3 y k2
      · exact ld_blt (X := X.suite a ((a, oe) :: (X.pn ++ pins))) S k1 k3 k4 y k5 k2
    refine wpAny_handleBy_cons (codeAny_handlers_test ?_) (by intro z; cases z)
    refine asked (lm.here ?_)
    cases b with
    | false => exact ih F (no rfl)
    | true =>
      refine codeAny_handlers_suite_as (HandSPX.lands_againZ F.fly fun h4 f4 u4 => ?_)
      have F4 : Landed X pins σ H sI ⟨h4, g, dr, tk0, os0⟩ B a cls d := ⟨F.inv, F.nb, F.up.trans u4, f4, F.na, F.os, F.ag, F.nL, F.nF⟩
      obtain ⟨oe4, vs4, he4, hz4, hd4⟩ := F4.fly.there
      have S4 := F4.here.suite he4 hd4 F.na F.nL F.nF
      refine store_ok (X := X.suite a ((a, oe4) :: (X.pn ++ pins))) (v := .ref a) S4 hN ni (.inl nl) rfl (fun s5 S5 => ?_) (.inr nl)
      refine wpAny_mono ((sr a oe4 cls d (X.pn ++ pins) hz4 ⟨_, hd4⟩).run [] s5 _ H _ S5 (yes rfl a F.na F.inv.len)) (fun f s6 y => ?_) (fun _ _ z => z.elim)
      have off : ∀ {τ : L2.St} {H6 : Hp} {Q : Shared → Prop}, Inv (X.suite a ((a, oe4) :: (X.pn ++ pins))) [] τ H6 s6 → (∀ s7, Inv X pins (τ.set i none) H6 s7 → Q s7) →
          wpAny (model X.prog X.w) X.A (do bindName X.env n .none; unbindBehindTheSuite X.env n pp) (fun _ s7 => Q s7) X.xe s6 := fun {τ H6 Q} S6 k => gone_ok (S6.unsuite J.ok) hN ni nl k
      cases f with
      | ret u =>
        obtain ⟨v6, τ, H6, S6, r6, q6⟩ := y
        exact off S6 fun s7 J7 => ⟨_, _, _, J7, r6, q6⟩
      | next =>
        obtain ⟨τ, H6, S6, q6⟩ := y
        exact off S6 fun s7 J7 => ⟨_, _, J7, q6⟩
      | brk =>
        obtain ⟨τ, H6, S6, q6⟩ := y
        exact off S6 fun s7 J7 => ⟨_, _, J7, q6⟩
      | cont =>
        obtain ⟨τ, H6, S6, q6⟩ := y
        exact off S6 fun s7 J7 => ⟨_, _, J7, q6⟩
/-- try: body, except x as n: suite, except y as m: suite, .. -/
theorem ps_try_all {body : List Stmt} {h₀ : ExceptHandler} {hs : List ExceptHandler} {l : List Cl} {pos : Pos} {tb : WX → TS} (hst : X.stack = X.env :: X.outer) (hfr : X.env.frame = some X.env.locals) (hN : X.N.Nodup) (tk : Takes X Wo)
    (hb : ∀ (W : WX) (pn : List (Addr × Obj)) (xe : Value → Shared → Prop), Takes (X.tr pn xe) W → PassesOwn (model X.prog X.w) X.A X.env xe → PSs (X.tr pn xe) body (tb W)) (C : Clauses X (h₀ :: hs) l) :
    PS X (.Try body (h₀ :: hs) [] [] pos) (fun D σ H => tb (wAll X.K X.N.length Wo D l) D σ H) := by
  refine ⟨fun pins s σ H D I h => ?_⟩
  have ok := I.ok
  have frm : X.A.frames = some (X.env :: X.outer) := by rw [ok.frames, hst]
  refine wpAny_Try_except (wpAny_mono ((hb (wAll X.K X.N.length Wo D l) (X.pn ++ pins) _ (fun u s' y => ?_) PassesOwn.looking).run [] s σ H D (I.toTry _) h) (fun f s1 y => ?_) (fun _ _ z => z))
  · obtain ⟨a, B, sI, pins', σ', H', cls, d, rfl, J', nb, up, sky, na, os, ag, q⟩ := y
    show wpAny (model X.prog X.w) X.A (noteFrame (.ref a) X.env) _ _ _
    refine Sky.land Zc.steady frm hfr (by rw [← hst]; exact sky) fun h3 f3 u3 => ?_
    obtain ⟨oe, vs, he, hz, hd⟩ := f3.there
    have out : a ∉ frs (X.env :: X.outer) := fun hm => by
      obtain ⟨_, o', e', nf⟩ := f3.2.2.1.mem hm
      rw [he] at e'
      cases e'
      exact nf _ hd
    refine clauses_run hst hfr hN tk C (s := { s' with heap := h3 }) ⟨J'.ofTry ok, nb, up.trans u3, f3, na, os, ag, fun z => out (List.mem_filterMap.mpr ⟨X.env, List.mem_cons_self, by rw [hfr, z]⟩), fun hm => ?_⟩ q
    obtain ⟨e, he2, q2⟩ := List.mem_filterMap.mp hm
    exact out (List.mem_filterMap.mpr ⟨e, List.mem_cons_of_mem _ he2, q2⟩)
  · cases f with
    | next =>
      obtain ⟨σ', H', J', q⟩ := y
      exact wpAny_execs_nil ⟨σ', H', J'.ofTry ok, q⟩
    | ret u =>
      obtain ⟨v, σ', H', J', r, q⟩ := y
      exact ⟨v, σ', H', J'.ofTry ok, r, q⟩
    | brk =>
      obtain ⟨σ', H', J', q⟩ := y
      exact ⟨σ', H', J'.ofTry ok, q⟩
    | cont =>
      obtain ⟨σ', H', J', q⟩ := y
      exact ⟨σ', H', J'.ofTry ok, q⟩
end
end Ms

set_option Elab.async false
set_option linter.all false
set_option maxRecDepth 100000
set_option maxHeartbeats 4000000
/-! Defs with their code objects and defaults; tables; a lambda handed to a def that tries it; the end. -/
namespace Ms
open PySem PySem.Spec PyProof.Rows L2 LamX
/-- a def of the top: dvs its defaults, c its code object -/
structure FunC (K : PySem.W.Frag) (x qual : Str) (st : Stmt) (dvs : List V) (f : Addr) (fd : FuncData) (c : Addr) : Prop where
  ex : ∃ (oc : Value) (od : Option Addr) (dV kV doc pm : Value) (an : Option Addr) (ct : Value) (osl : Array (Option Value)),
    fd = PySem.W.fnOf x qual (defArgs st) (defBody st) (defScope st) dV kV doc pm an (.ref c) ct ∧ K.lookup f = some ⟨oc, od, .func fd, osl⟩ ∧ PySem.W.codeIn K (.ref c) qual = true ∧ DflV K dV dvs
  kp : PySem.W.keepIn K (.ref f) = true
section
variable {P : Program} {w : World} {K : PySem.W.Frag} {mg : Str → Option Value} {base : Heap} {x qual : Str} {st : Stmt} {dvs : List V} {f : Addr} {fd : FuncData} {c : Addr} {N ps : List Str} {k : Nat} {sp : Sp}
theorem FunC.toD (F : FunC K x qual st dvs f fd c) : FunD K x qual (defArgs st) (defBody st) (defScope st) dvs [] f fd := by
  obtain ⟨oc, od, dV, kV, doc, pm, an, ct, osl, h1, h2, h3, h4⟩ := F.ex
  exact ⟨⟨oc, od, dV, kV, doc, pm, an, .ref c, ct, osl, h1, h2, h3, h4, .inl rfl⟩, F.kp⟩
/-- a def that may let out what CX says -/
theorem FunC.okX {CX : CXT} (F : FunC K x qual st dvs f fd c) (S : FnScope N ps (defScope st)) (len : ∀ vs H Q E, sp vs H Q E → vs.length = ps.length)
    (hbody : ∀ (A : Around) (outer : List Env) (s : Shared) (H : Hp) (vs : List V) (Q : VK) (E : XK), Room k (A.deeper (envOfC qual (defScope st) s.heap.objs.size f (.ref c))) → sp vs H Q E →
      ∃ t, PSs (cxOf CX P w K mg base N qual (defScope st) f (.ref c) A outer s H E) (defBody st) t ∧ t { nx := fun _ H' => Q .non H', rt := Q } (start N vs) H) : FnOk P w K mg base CX (k + 1) f fd ps sp := by
  obtain ⟨oc, od, dV, kV, doc, pm, an, ct, osl, rfl, lk, hcd, _⟩ := F.ex
  exact fn_of lk hcd S len fun A outer s H vs Q E hr hsp => hbody A outer s H vs Q E hr hsp
/-- a def that lets nothing out -/
theorem FunC.ok (F : FunC K x qual st dvs f fd c) (S : FnScope N ps (defScope st)) (len : ∀ vs H Q E, sp vs H Q E → vs.length = ps.length)
    (hbody : ∀ (A : Around) (outer : List Env) (s : Shared) (H : Hp) (vs : List V) (Q : VK) (E : XK), Room k (A.deeper (envOfC qual (defScope st) s.heap.objs.size f (.ref c))) → sp vs H Q E →
      ∃ t, PSs (cxOf CX0 P w K mg base N qual (defScope st) f (.ref c) A outer s H E).nox (defBody st) t ∧ t { nx := fun _ H' => Q .non H', rt := Q } (start N vs) H) : FnOk P w K mg base CX0 (k + 1) f fd ps sp :=
  F.okX S len fun A outer s H vs Q E hr h => let ⟨t, a, b⟩ := hbody A outer s H vs Q E hr h; ⟨t, a.nox, b⟩
theorem FunC.binds (F : FunC K x qual st [] f fd c) (h : ∀ (kV doc pm : Value) (an : Option Addr) (ct : Value) (us : List Value), us.length = ps.length → bindArgs (PySem.W.fnOf x qual (defArgs st) (defBody st) (defScope st) .none kV doc pm an (.ref c) ct) ⟨us, []⟩ = pure (ps.zip us)) : Binds K fd ps [] := by
  obtain ⟨oc, od, dV, kV, doc, pm, an, ct, osl, rfl, lk, hcd, hd⟩ := F.ex
  rcases hd with ⟨_, rfl⟩ | ⟨z, _⟩
  · exact .all (h kV doc pm an ct)
  · exact absurd rfl z
theorem func_mk {oc : Value} {od an : Option Addr} {osl : Array (Option Value)} {dV kV doc pm ct : Value} (l : K.lookup f = some ⟨oc, od, .func (PySem.W.fnOf x qual (defArgs st) (defBody st) (defScope st) dV kV doc pm an (.ref c) ct), osl⟩)
    (hc : PySem.W.codeIn K (.ref c) qual = true) (hk : PySem.W.keepIn K (.ref f) = true) (hd : DflV K dV dvs) : FunC K x qual st dvs f (PySem.W.fnOf x qual (defArgs st) (defBody st) (defScope st) dV kV doc pm an (.ref c) ct) c :=
  ⟨⟨oc, od, dV, kV, doc, pm, an, ct, osl, rfl, l, hc, hd⟩, hk⟩
theorem dfl_one {t : Addr} {cl : Value} {dd : Option Addr} {n : Nat} {sl : Array (Option Value)} {v : V} {u : Value} (h : K.lookup t = some ⟨cl, dd, .seq #[u] n, sl⟩) (r : RelV v u) : DflV K (.ref t) [v] :=
  .inr ⟨List.cons_ne_nil _ _, t, _, [u], n, rfl, h, rfl, .cons r .nil⟩
end
/-! ### tables -/
/-- all but a and the tables is as it was -/
def Ext (a : Addr) (H H' : Hp) : Prop := ∀ b o, b ≠ a → H b = some o → (∀ ps, o ≠ .tbl ps) → H' b = some o
theorem tabs_at {T : List (Addr × Str)} {a : Addr} {H H' : Hp} {xs : List V} (t : Tabs T H) (ha : H a = some (.lst xs)) (k : ∀ b o, b ≠ a → H b = some o → H' b = some o) : Tabs T H' := fun p hp => by
  obtain ⟨ps, h1, h2, h3⟩ := t p hp
  refine ⟨ps, k _ _ (fun z => by rw [z, ha] at h1; cases h1) h1, h2, fun pos cv hc => ?_⟩
  obtain ⟨c, e1, e2⟩ := h3 pos cv hc
  exact ⟨c, e1, k _ _ (fun z => by rw [z, ha] at e2; cases e2) e2⟩
theorem Tabs.same {T : List (Addr × Str)} {H H' : Hp} (t : Tabs T H) (s : Same H H') : Tabs T H' := t.ext fun b o e => s b o e
theorem ExtN.lst {H H' : Hp} {a : Addr} {xs : List V} (e : ExtN H H') (h : H a = some (.lst xs)) : H' a = some (.lst xs) := e _ _ h fun _ z => by cases z
theorem ExtN.tup {H H' : Hp} {a : Addr} {xs : List V} (e : ExtN H H') (h : H a = some (.tup xs)) : H' a = some (.tup xs) := e _ _ h fun _ z => by cases z
theorem ExtN.same {H H1 H2 : Hp} (e : ExtN H H1) (s : Same H1 H2) : ExtN H H2 := e.trans (.of fun b o q => s b o q)
theorem Same.extN {H H1 H2 : Hp} (s : Same H H1) (e : ExtN H1 H2) : ExtN H H2 := (ExtN.of fun b o q => s b o q).trans e
theorem ExtN.seq {K : PySem.W.Frag} {H H' : Hp} {a : Addr} {xs : List V} (e : ExtN H H') (h : SqL K H a xs) : SqL K H' a xs := by
  rcases h with (h | ⟨o, h⟩) | h
  · exact .inl (.inl (e _ _ h fun _ z => by cases z))
  · exact .inl (.inr ⟨o, e _ _ h fun _ z => by cases z⟩)
  · exact .inr h
/-! ### a def tries what it got -/
/-- x = a() within a try: what is let out goes by Ech -/
def tAct (i : Nat) (f c' : Addr) (q : Str) (tl : XK → Hp → VK → Prop) (W : WX) : TS := fun D σ H => ∃ Ech : XK, (∀ cls d σ' H', Ech cls d H' → W cls d σ' H') ∧ σ[0]? = some (some (.ref f)) ∧ H c' = some (CodeO c' q) ∧ tl Ech H fun v H' => D.nx (σ.set i (some v)) H'
/-- a() within a try -/
def tActE (f c' : Addr) (q : Str) (tl : XK → Hp → VK → Prop) (W : WX) : TS := fun D σ H => ∃ Ech : XK, (∀ cls d σ' H', Ech cls d H' → W cls d σ' H') ∧ σ[0]? = some (some (.ref f)) ∧ H c' = some (CodeO c' q) ∧ tl Ech H fun _ H' => D.nx σ H'
theorem pss_act {Z : Cx} {i : Nat} {f c' : Addr} {q a x : Str} {tl : XK → Hp → VK → Prop} {W : WX} {px p1 p2 p3 : Pos}
    (act : ∀ (E : XK) (p1 p2 : Pos), (∀ cls d σ' H', E cls d H' → W cls d σ' H') → PE Z (.Call (.Name a p1) [] [] p2) (fun σZ HZ Q => σZ[0]? = some (some (.ref f)) ∧ HZ c' = some (CodeO c' q) ∧ tl E HZ Q))
    (nd : Z.N.Nodup) (hi : Z.N[i]? = some x) (hx : Loc Z.env.scope x) (hf : Z.fn x = true ∨ Z.env.scope.names.lookup x = some .local := by first | exact .inl rfl | exact .inr rfl)
    (hs : swapsWith (.Call (.Name a p1) [] [] p2) (some (.Name x px)) p3.line Z.env = pure false := by rfl) : PSs Z [.Assign [.Name x px] (.Call (.Name a p1) [] [] p2) p3] (tAct i f c' q tl W) := by
  refine ⟨fun pins s σ H D I h => ?_⟩
  obtain ⟨Ech, hW, h1, h2, h3⟩ := h
  exact (pss_one (ps_asg (act Ech p1 p2 hW) (pg_name nd hi hx hf) hs)).run pins s σ H D I ⟨h1, h2, h3⟩
/-! ### the end -/
/-- the tables of the named defs are empty -/
def OwnTabs (K : PySem.W.Frag) (mg : Str → Option Value) (q : Program) (h : Heap) : Prop := ∀ (x : Str) (fb : Addr), ((recsOf q).any fun e => e.name == x) = true → mg x = some (.ref fb) → OwnTab K fb h
theorem walk_tabs {l : PySem.W.OpenLaw} {n k : Nat} {q : Program} {loose : List Str} {XP : (Str → Option Value) → Heap → Prop} {YP : World → Heap → Prop} {d : DefRec} {K : Params → PySem.W.Frag} {CX : World → CXT} {x : Str}
    (hn : l.most = some n) (hn2 : n ≤ sizeLine) (hdf : d.params.defaults = []) (hr : Room k callerA) (hY : ∀ (w : World) (h : Heap), YP w h → (K w.params).In h)
    (F : ∀ (w : World) (mg : Str → Option Value) (fa : Addr) (h : Heap), (K w.params).In h → h.Ns mainGlobals mg → mg d.name = some (.ref fa) → OwnTabs (K w.params) mg q h → LawAtS l w (K w.params) (CX w) k n x mg fa h)
    (hCX : ∀ (w : World) (H : Hp) (s : Shared) (e : Value) (s' : Shared), CX w [] H s (fun _ _ _ => False) e s' → False) :
    PySem.W.WalkO q loose XP YP l.row.toRowW d [] (fun f vs => PySem.call f vs) := by
  refine Att.attach_callB hn hdf fun w s₀ s₁ mg mb fa o pm cd doc a vs ns G Y ho hd hcd hmg hobj hints hlen hbits hg => ?_
  have KX := hY w _ Y
  have own : OwnTabs (K w.params) mg q s₁.heap := fun x fb hx hb c P o1 fd1 e dd vs1 sl k1 k2 k3 k4 k5 => by
    obtain ⟨dL, hm, hn1⟩ := List.any_eq_true.mp hx
    obtain ⟨a', o', fd', c', P', h1, h2, h3, h4, _, ⟨⟨oc, vc, e1, _, e3, e4⟩, hP⟩⟩ := G.T.tab dL hm
    rw [beq_iff_eq.mp hn1, hb] at h1
    cases h1
    rw [KX _ _ k1] at h2
    cases h2
    rw [k2] at h3
    cases h3
    rw [k3] at h4
    cases h4
    rw [KX _ _ k4] at e1
    cases e1
    cases e3
    rw [k5] at e4
    cases e4
    exact hP
  obtain ⟨fd, cs, sp, hT, nT, C, hb, hsp, hF⟩ := F w mg fa _ KX G.T.g hmg own
  exact law_callTs KX G.T.g G.T.b G.T.builtins G.T.nolimit hg hT nT C G.T.bmain hobj hints (Nat.le_trans hlen hn2) hr hF hb (fun H hH hS => hsp H a ns hlen hbits hH hS) fun H e s' => hCX w H s₁ e s'
end Ms

set_option Elab.async false
set_option linter.all false
set_option maxRecDepth 100000
set_option maxHeartbeats 4000000
/-! An own exception's facts, from what is written; tables at the end. -/
namespace PySem
namespace Sx
open PySem.W PySem.Calls PyProof.Rows PySem.HandSPX
theorem Txt.of {prog : Program} {K : Frag} {h : Heap} {mg : Str → Option Value} {nm fld : Str} {C fI : Addr} (X : K.In h) (G : h.Ns mainGlobals mg)
    {nm' q : Str} {N : Addr} {bs bm : List Value} {sn sub ab col dd k0 k1 k2 k3 k5}
    {qual msg : Str} {oc : Value} {od : Option Addr} {doc pm : Value} {an : Option Addr} {ct : Value} {osl : Array (Option Value)} {p1 p2 c0 c1 c2 c3 c4 c5 q1 q2 q3 q4 : Pos} {j : Nat} {cda cc : Addr} {ccl : Value} {cdd : Option Addr} {vs : Array Value} {ccs : Array (Option Value)}
    {cl : Value} {cld : Option Addr} {csl : Array (Option Value)} {file : Str} {tf : Tok}
    (gC : nsIn K mainGlobals nm = some (some (.ref C)))
    (cls1 : K.lookup C = some (excClassObj nm' q C N bs bm true sn sub ab col dd k0 k1 k2 k3 k5 "ValueError.__new__")) (cls2 : refsVE bm = true) (cls3 : alongIn K "__init__" bm = some (some (.builtin "ValueError.__init__")))
    (sa : findIn K (.ref C) "__setattr__" = some (some (.builtin "object.__setattr__")))
    (ga : findIn K (.ref C) "__getattribute__" = some (some (.builtin "BaseException.__getattribute__")))
    (gg : findIn K (.ref C) "__getattr__" = some none)
    (noN : findIn K (.ref C) fld = some none)
    (iC : findIn K (.ref C) "__init__" = some (some (.ref fI)))
    (tC : typeIn K (.ref fI) = some (.type "function"))
    (kC : keepIn K (.ref C) = true)
    (exC : subIn K (.ref C) (.type "BaseException") = some true)
    (vaC : subIn K (.ref C) (.type "ValueError") = some true)
    (meC : mroIn K C (.ref C) = some true)
    (tyC : typeIn K (.ref C) = some (.type "type"))
    (isC : isClsIn K C = true)
    (hdC : hasDictIn K C = true)
    (opq : nsIn K cStatics "thirdparty.any" = some none)
    (sup : nsIn K mainGlobals "super" = some none)
    (l1 : K.lookup fI = some ⟨oc, od, .func (iF fld msg qual p1 p2 c0 c1 c2 c3 c4 c5 q1 q2 q3 q4 j doc pm an cda ct cc), osl⟩) (l2 : codeIn K (.ref cda) qual = true)
    (l3 : K.lookup cda = some ⟨ccl, cdd, .fields vs, ccs⟩) (l4 : vs[2]? = some (.str file tf)) (l5 : ((prog.main.file : Str) == file) = true) (l6 : K.lookup cc = some ⟨cl, cld, .cell (some (.ref C)), csl⟩)
    (top : (prog.main.scope.names.lookup ("super" : Str)).isSome = false)
    (fne : (("self" : Str) == fld) = false)
    (fks : (iS fld).names.lookup ("super" : Str) = some .globalImplicit)
    (fkc : (iS fld).names.lookup ("__class__" : Str) = some .free)
    (fdb : (fld == ("__debug__" : Str)) = false)
    (te : exmOne K (.ref C) (.ref C) = some true)
    (bnd : ∀ (s : Shared) (x v : Value), BindsTo s (iF fld msg qual p1 p2 c0 c1 c2 c3 c4 c5 q1 q2 q3 q4 j doc pm an cda ct cc) ⟨[x, v], []⟩ [("self", x), (fld, v)])
    (ev : ∃ pl : Sem Bool, ∀ L : Addr, eval (.Call (.Attribute (.Call (.Name "super" c0) [] [] c1) "__init__" c2) [.Constant (.str msg) j c3] [] c4) (callEnv (iF fld msg qual p1 p2 c0 c1 c2 c3 c4 c5 q1 q2 q3 q4 j doc pm an cda ct cc) L fI) = (do
      let ov ← attributeBase (.Call (.Name "super" c0) [] [] c1) "__init__" (callEnv (iF fld msg qual p1 p2 c0 c1 c2 c3 c4 c5 q1 q2 q3 q4 j doc pm an cda ct cc) L fI) (eval (.Call (.Name "super" c0) [] [] c1) (callEnv (iF fld msg qual p1 p2 c0 c1 c2 c3 c4 c5 q1 q2 q3 q4 j doc pm an cda ct cc) L fI))
      standAt c2.atName
      let (f, first) ← holding [ov] (getMethod ov "__init__" pl)
      callWith c4 f first (backTo c4 (starEach [.Constant (.str msg) j c3] (callEnv (iF fld msg qual p1 p2 c0 c1 c2 c3 c4 c5 q1 q2 q3 q4 j doc pm an cda ct cc) L fI))) [])) :
    Txt prog K mg nm fld C fI :=
  { gC := mg_of X G gC, cls := ⟨_, _, _, _, _, _, _, _, _, _, _, _, _, _, _, cls1, cls2, cls3⟩, sa := sa, ga := ga, gg := gg, noN := noN, iC := iC, tC := tC, kC := kC, exC := exC, vaC := vaC, meC := meC, tyC := tyC, hdC := hdC, te := te, opq := opq, sup := mg_none_of X G sup, top := top, fne := fne, fks := fks, fkc := fkc, fdb := fdb,
    fn := ⟨_, _, _, _, _, _, _, _, _, _, _, _, _, _, _, _, _, _, _, _, _, _, _, _, _, _, _, _, _, _, _, _, _, l1, l2, l3, l4, l5, l6, bnd, ev⟩ }
end Sx
end PySem

set_option Elab.async false
set_option linter.all false
set_option maxRecDepth 100000
set_option maxHeartbeats 4000000
/-! isinstance(e, ValueError) of an own exception: True. -/
namespace Ms
open PySem PySem.Spec PyProof.Rows L2 LamX PySem.W
theorem isi_sub {prog : Program} {w : World} {A : Around} {E : Value → Shared → Prop} {s : Shared} {K : PySem.W.Frag} {a C : Addr} {Q : Value → Shared → Prop} (X : K.In s.heap)
    (ty : PySem.W.Looks (model prog w) s.heap (typeOf (.ref a)) (.ref C)) (sb : subIn K (.ref C) (.type "ValueError") = some true) (hq : Q (.bool true) s) : wpAny (model prog w) A (call (.builtin "isinstance") [.ref a, .type "ValueError"]) Q E s := by
  refine call_isinstance_of ?_
  show wpAny _ _ (typeOf (.ref a) >>= fun t => if (t == Value.type "ValueError") = true then _ else _) _ _ _
  refine wpAny_bind (ty _ _ _ s (fun _ _ e => e) ?_)
  rw [if_neg (by simp)]
  rw [show typeOf (Value.type "ValueError") = pure (Value.type "type") from rfl]
  refine wpAny_bind (wpAny_pure ?_)
  rw [if_pos (by decide)]
  refine wpAny_bind ?_
  show wpAny _ _ (PySem.isType (.type "ValueError") >>= fun r => if (!r) = true then _ else _) _ _ _
  rw [show PySem.isType (Value.type "ValueError") = pure true from rfl]
  refine wpAny_bind (wpAny_pure ?_)
  rw [if_neg (by decide)]
  show wpAny _ _ (PySem.isInstance (.ref a) (.type "ValueError") >>= fun r => if r = true then pure true else _) _ _ _
  refine wpAny_bind ?_
  show wpAny _ _ (typeOf (.ref a) >>= fun t => isSubtype t (.type "ValueError")) _ _ _
  refine wpAny_bind (ty _ _ _ s (fun _ _ e => e) ?_)
  refine (looks_subIn X sb) _ _ _ s (fun _ _ e => e) ?_
  rw [if_pos rfl]
  exact wpAny_pure (wpAny_pure hq)
/-- isinstance(n, ValueError), n the exception that the suite holds -/
theorem call_isV {X : Cx} {a : Addr} {oe : Obj} {cls : Value} {d : Option Addr} {pn : List (Addr × Obj)} (hz : Zc cls d oe) (hf : ∃ vs, oe.data = .fields vs) :
    CallR (X.suite a ((a, oe) :: pn)) (.builtin "isinstance") (fun xs H Q => ∃ C, xs = [.ref a, .ty "ValueError"] ∧ cls = .ref C ∧ subIn X.K (.ref C) (.type "ValueError") = some true ∧ Q (.bl true) H) := by
  rintro pins s σ H xs us Q I r ⟨C, rfl, rfl, sb, q⟩
  cases r with
  | @cons _ u _ us rx rr =>
    cases rr with
    | @cons _ u2 _ us2 rt rr =>
      cases rr
      obtain rfl : u = Value.ref a := rx
      obtain rfl : u2 = Value.type "ValueError" := rt
      obtain ⟨ha, _⟩ := I.pin (a, oe) (List.mem_append_left _ List.mem_cons_self)
      obtain ⟨vs, hd⟩ := hf
      refine isi_sub I.kIn (fun A Q E s k y => wpAny_typeOf_ref (k _ _ ha) (by rw [hz.1]; exact y)) sb ?_
      exact ⟨.bl true, H, I, rfl, q⟩
end Ms

set_option Elab.async false
set_option linter.all false
set_option maxRecDepth 100000
set_option maxHeartbeats 4000000
/-! a text times a number -/
namespace Ms
open PySem PySem.Spec PyProof.Rows L2
theorem op_mulS {X : Cx} : OpR X (binaryOp .Mult) (fun x y H Q => ∃ z n, x = .str z ∧ y = .int n ∧ MulOk z n ∧ Q (.str (Txt.mul z n)) H) := by
  intro pins s σ H x y v u Q I rx ry h
  obtain ⟨z, n, rfl, rfl, hm, q⟩ := h
  obtain ⟨t, rfl⟩ := rx
  obtain ⟨t2, rfl⟩ := ry
  exact SB.mul hm fun t' k => ⟨.str _, H, I.tok _, ⟨t', rfl⟩, q⟩
end Ms

set_option Elab.async false
set_option linter.all false
set_option maxRecDepth 100000
set_option maxHeartbeats 4000000
/-! a tuple of a number and a list of numbers, less than another. -/
namespace Ms
open PySem PySem.Spec PyProof.Rows L2
theorem ints_at {xs : List Value} {ns : List Int} (h : IntsAre xs ns) : ∀ (i : Nat), (xs[i]? = none ∧ ns[i]? = none) ∨ ∃ n t, xs[i]? = some (.int n t) ∧ ns[i]? = some n := by
  induction h with
  | nil => intro i; exact .inl ⟨rfl, rfl⟩
  | cons n t _ ih =>
    intro i
    cases i with
    | zero => exact .inr ⟨n, t, rfl, rfl⟩
    | succ i => exact ih i
theorem ints_len {xs : List Value} {ns : List Int} (h : IntsAre xs ns) : xs.length = ns.length := by
  induction h with
  | nil => rfl
  | cons n t _ ih => rw [List.length_cons, List.length_cons, ih]
theorem drop_at {ns : List Int} {i : Nat} {n : Int} (h : ns[i]? = some n) : ns.drop i = n :: ns.drop (i + 1) := by
  obtain ⟨hl, e⟩ := List.getElem?_eq_some_iff.mp h
  rw [List.drop_eq_getElem_cons hl, e]
theorem drop_no {ns : List Int} {i : Nat} (h : ns[i]? = none) : ns.drop i = [] := List.drop_eq_nil_of_le (List.getElem?_eq_none_iff.mp h)
theorem ll_loop {prog : Program} {w : World} {la lb : Addr} {xs ys : Array Value} {ns ms : List Int} (hx : IntsAre xs.toList ns) (hy : IntsAre ys.toList ms) :
    ∀ (k i : Nat), ns.length - i = k → i ≤ ns.length → i ≤ ms.length → ∀ {A : Around} {R : Result → Shared → Prop} {s : Shared}, s.heap.IsList la xs → s.heap.IsList lb ys → R (.ok (.ret (.bool (HT.lexLt (ns.drop i) (ms.drop i))))) s →
      codeAny (model prog w) A (.builtin "list.__eq__.loop" ⟨[.ref la, .ref lb, rawInt (i : Nat), rawInt (0 : Nat)], []⟩) R s := by
  have l1 : xs.size = ns.length := by rw [← ints_len hx]; simp
  have l2 : ys.size = ms.length := by rw [← ints_len hy]; simp
  have ex0 : ∀ i, ns[i]? = none → xs[((i : Nat) : Int).toNat]? = none := fun i e => by
    rcases ints_at hx i with ⟨a, b⟩ | ⟨n, t, a, b⟩
    · simpa using a
    · rw [e] at b; cases b
  have ey0 : ∀ i, ms[i]? = none → ys[((i : Nat) : Int).toNat]? = none := fun i e => by
    rcases ints_at hy i with ⟨a, b⟩ | ⟨n, t, a, b⟩
    · simpa using a
    · rw [e] at b; cases b
  have ex1 : ∀ i n, ns[i]? = some n → ∃ t, xs[((i : Nat) : Int).toNat]? = some (.int n t) := fun i n e => by
    rcases ints_at hx i with ⟨a, b⟩ | ⟨n', t, a, b⟩
    · rw [e] at b; cases b
    · rw [e] at b; cases b
      exact ⟨t, by simpa using a⟩
  have ey1 : ∀ i n, ms[i]? = some n → ∃ t, ys[((i : Nat) : Int).toNat]? = some (.int n t) := fun i n e => by
    rcases ints_at hy i with ⟨a, b⟩ | ⟨n', t, a, b⟩
    · rw [e] at b; cases b
    · rw [e] at b; cases b
      exact ⟨t, by simpa using a⟩
  intro k
  induction k with
  | zero =>
    intro i hk hi1 hi2 A R s h1 h2 hq
    obtain ⟨o1, g1, c1, n1, d1⟩ := h1
    obtain ⟨o2, g2, c2, n2, d2⟩ := h2
    refine codeAny_builtin MeetsSeq3.entry_eq_loop ?_
    refine wpAny_bind (wpAny_listItems g1 d1 ?_)
    refine wpAny_bind (wpAny_listItems g2 d2 ?_)
    have e1 : ns[i]? = none := List.getElem?_eq_none_iff.mpr (by omega)
    rw [ex0 i e1]
    refine wpAny_bind (wpAny_listItems g1 d1 ?_)
    refine wpAny_bind (wpAny_listItems g2 d2 ?_)
    refine wpAny_pure ?_
    show R (.ok (.ret (.bool (decide (xs.size < ys.size))))) s
    rw [drop_no e1] at hq
    cases e2 : ms[i]? with
    | none =>
      rw [drop_no e2, HT.lexLt_nil_nil] at hq
      have := List.getElem?_eq_none_iff.mp e2
      rw [decide_eq_false (by omega)]
      exact hq
    | some m =>
      rw [drop_at e2, HT.lexLt_nil_cons] at hq
      have := (List.getElem?_eq_some_iff.mp e2).1
      rw [decide_eq_true (by omega)]
      exact hq
  | succ k ih =>
    intro i hk hi1 hi2 A R s h1 h2 hq
    have h1' := h1
    have h2' := h2
    obtain ⟨o1, g1, c1, n1, d1⟩ := h1
    obtain ⟨o2, g2, c2, n2, d2⟩ := h2
    refine codeAny_builtin MeetsSeq3.entry_eq_loop ?_
    refine wpAny_bind (wpAny_listItems g1 d1 ?_)
    refine wpAny_bind (wpAny_listItems g2 d2 ?_)
    have hl : i < ns.length := by omega
    have e1 : ns[i]? = some ns[i] := List.getElem?_eq_getElem hl
    obtain ⟨t, ex⟩ := ex1 i _ e1
    rw [ex]
    rw [drop_at e1] at hq
    cases e2 : ms[i]? with
    | none =>
      rw [ey0 i e2]
      refine wpAny_bind (wpAny_listItems g1 d1 ?_)
      refine wpAny_bind (wpAny_listItems g2 d2 ?_)
      refine wpAny_pure ?_
      show R (.ok (.ret (.bool (decide (xs.size < ys.size))))) s
      rw [drop_no e2, HT.lexLt_cons_nil] at hq
      have := List.getElem?_eq_none_iff.mp e2
      rw [decide_eq_false (by omega)]
      exact hq
    | some m =>
      obtain ⟨u, ey⟩ := ey1 i m e2
      rw [ey]
      rw [drop_at e2, HT.lexLt_cons] at hq
      refine wpAny_bind (wpAny_eqBool_int ?_)
      by_cases h : ns[i] = m
      · rw [if_pos h] at hq
        rw [if_pos (by simpa using h)]
        refine wpAny_pure ⟨plainId_quiet MeetsSeq3.plain_eq_loop _, ?_⟩
        exact ih (i + 1) (by omega) (by omega) (by have := (List.getElem?_eq_some_iff.mp e2).1; omega) h1' h2' hq
      · rw [if_neg h] at hq
        rw [if_neg (by simpa using h)]
        refine wpAny_bind (wpAny_listItems g1 d1 ?_)
        refine wpAny_bind (wpAny_listItems g2 d2 ?_)
        rw [ex, ey]
        refine wpAny_bind (HT.rcLt_int _ _ _ _ _ _ _ _ _ _ ?_)
        exact wpAny_pure hq
/-- two lists of numbers, the one less than the other -/
theorem ll_lt {prog : Program} {w : World} {A : Around} {E : Value → Shared → Prop} {s : Shared} {la lb : Addr} {xs ys : Array Value} {ns ms : List Int} {Q : Value → Shared → Prop} (h1 : s.heap.IsList la xs) (h2 : s.heap.IsList lb ys) (hx : IntsAre xs.toList ns) (hy : IntsAre ys.toList ms)
    (hu : A.units < cLine) (hq : Q (.bool (HT.lexLt ns ms)) s) : wpAny (model prog w) A (richCompare .Lt (.ref la) (.ref lb)) Q E s := by
  have m : Meets (Builtin.«list.__lt__» ⟨[.ref la, .ref lb], []⟩) (fun A R s => s.heap.IsList la xs ∧ s.heap.IsList lb ys ∧ R (.ok (.ret (.bool (HT.lexLt ns ms)))) s) := by
    rintro prog w A R s ⟨h1, h2, hr⟩
    obtain ⟨o1, g1, c1, n1, d1⟩ := id h1
    obtain ⟨o2, g2, c2, n2, d2⟩ := id h2
    refine wpAny_bind ?_
    refine wpAny_pure ?_
    refine wpAny_bind ?_
    show wpAny _ _ (typeOf (.ref lb) >>= fun t => isSubtype t (Value.type "list")) _ _ _
    refine wpAny_bind (wpAny_typeOf_ref g2 ?_)
    rw [c2]
    rw [show isSubtype (Value.type "list") (Value.type "list") = pure true from rfl]
    refine wpAny_pure ?_
    rw [if_neg (by decide)]
    refine wpAny_pure ⟨plainId_quiet MeetsSeq3.plain_eq_loop _, ?_⟩
    exact ll_loop hx hy _ 0 rfl (Nat.zero_le _) (Nat.zero_le _) h1 h2 hr
  obtain ⟨o1, g1, c1, n1, d1⟩ := id h1
  obtain ⟨o2, g2, c2, n2, d2⟩ := id h2
  exact richCompare_meets_room (T := "list") ⟨_, g1, c1⟩ ⟨_, g2, c2⟩ F.slot_list_lt F.entry_list_lt (F.args_list_lt_2 _ _) m ⟨h1, h2, (fun z => by cases z), hq⟩ hu
theorem eqv_ints : ∀ ns ms : List Int, PyData.eqvAll (ns.map PyData.int) (ms.map PyData.int) = decide (ns = ms)
  | [], [] => by rw [List.map_nil, PyData.eqvAll]; rfl
  | [], m :: ms => by rw [List.map_nil, List.map_cons, PyData.eqvAll]; simp
  | n :: ns, [] => by rw [List.map_nil, List.map_cons, PyData.eqvAll]; simp
  | n :: ns, m :: ms => by
    rw [List.map_cons, List.map_cons, PyData.eqvAll, eqv_ints ns ms, PyData.eqv]
    by_cases h : n = m
    · subst h; simp
    · simp [h]
theorem lay_ints : ∀ ns : List Int, PyData.canLayAll0 (ns.map PyData.int) = true
  | [] => by rw [List.map_nil, PyData.canLayAll0]
  | n :: ns => by rw [List.map_cons, PyData.canLayAll0, PyData.canLay0, lay_ints ns]; rfl
theorem depth_ints : ∀ ns : List Int, PyData.depthAll (ns.map PyData.int) ≤ 1
  | [] => by rw [List.map_nil, PyData.depthAll]; omega
  | n :: ns => by
    have := depth_ints ns
    rw [List.map_cons, PyData.depthAll, PyData.depth]
    omega
theorem lex_irr : ∀ ns : List Int, HT.lexLt ns ns = false
  | [] => HT.lexLt_nil_nil
  | n :: ns => by rw [HT.lexLt_cons, if_pos rfl, lex_irr ns]
theorem tl_lt {prog : Program} {w : World} {A : Around} {E : Value → Shared → Prop} {s : Shared} {p q la lb : Addr} {xs ys : Array Value} {ns ms as bs : _} {m k : Int} {t u : Tok} {Q : Value → Shared → Prop}
    (hp : IsTup s.heap p #[.int m t, .ref la]) (hq : IsTup s.heap q #[.int k u, .ref lb]) (h1 : s.heap.IsList la xs) (h2 : s.heap.IsList lb ys) (hx : IntsAre xs.toList ns) (hy : IntsAre ys.toList ms)
    (r1 : Reads s.heap (.ref la) (.list (ns.map PyData.int)) as) (r2 : Reads s.heap (.ref lb) (.list (ms.map PyData.int)) bs)
    (hu : A.units + 64 < cLine) (hQ : Q (.bool (if m = k then HT.lexLt ns ms else decide (m < k))) s) : wpAny (model prog w) A (compareOp .Lt (.ref p) (.ref q)) Q E s := by
  have me : Meets (Builtin.«tuple.__lt__» ⟨[.ref p, .ref q], []⟩) (fun A R s => (IsTup s.heap p #[.int m t, .ref la] ∧ IsTup s.heap q #[.int k u, .ref lb] ∧ s.heap.IsList la xs ∧ s.heap.IsList lb ys ∧ Reads s.heap (.ref la) (.list (ns.map PyData.int)) as ∧ Reads s.heap (.ref lb) (.list (ms.map PyData.int)) bs ∧ A.units + 64 < cLine) ∧ R (.ok (.ret (.bool (if m = k then HT.lexLt ns ms else decide (m < k))))) s) := by
    rintro prog w A R s ⟨⟨hp, hq, h1, h2, r1, r2, hu⟩, hr⟩
    obtain ⟨o2, g2, c2, n2, d2⟩ := id hq
    refine wpAny_bind ?_
    refine wpAny_pure ?_
    refine wpAny_bind ?_
    show wpAny _ _ (typeOf (.ref q) >>= fun t => isSubtype t (Value.type "tuple")) _ _ _
    refine wpAny_bind (wpAny_typeOf_ref g2 ?_)
    rw [c2]
    rw [show isSubtype (Value.type "tuple") (Value.type "tuple") = pure true from rfl]
    refine wpAny_pure ?_
    rw [if_neg (by decide)]
    refine wpAny_bind (tupleItemsOf_ hp ?_)
    refine wpAny_bind (tupleItemsOf_ hq ?_)
    refine wpAny_bind ?_
    refine wpAny_bind ?_
    refine wpAny_bind (wpAny_eqBool_int ?_)
    by_cases h : m = k
    · rw [if_pos h] at hr
      rw [if_neg (by simp [h])]
      refine wpAny_pure ?_
      refine wpAny_bind ?_
      refine wpAny_bind ?_
      have ea := SeqAt.eqAt_reads _ _ A.in1 s _ _ _ _ r1 r2 (by rw [PyData.canLay0]; exact lay_ints ns) (by rw [PyData.canLay0]; exact lay_ints ms) (by
        have d1 := depth_ints ns
        have e1 : (PyData.list (ns.map PyData.int)).depth = PyData.depthAll (ns.map PyData.int) + 1 := by rw [PyData.depth]
        have e2 : A.in1.units ≤ A.units + 1 := by first | exact Nat.le_refl _ | exact Nat.le_succ _ | (simp [Around.in1]; done)
        omega)
      rw [PyData.eqv, eqv_ints] at ea
      refine ea prog w _ _ ?_
      by_cases h2' : ns = ms
      · rw [if_neg (by simp [h2'])]
        refine wpAny_pure ?_
        refine wpAny_pure ?_
        refine wpAny_pure ?_
        rw [h2', lex_irr] at hr
        exact hr
      · rw [if_pos (by simp [h2'])]
        refine wpAny_bind (wpAny_rule ?_)
        refine wpAny_bind (ll_lt h1 h2 hx hy (by
          have e2 : A.in1.units ≤ A.units + 1 := by first | exact Nat.le_refl _ | exact Nat.le_succ _ | (simp [Around.in1]; done)
          omega) ?_)
        refine wpAny_bind (wpAny_pure ?_)
        refine wpAny_pure ?_
        refine wpAny_pure ?_
        refine wpAny_pure ?_
        exact hr
    · rw [if_neg h] at hr
      rw [if_pos (by simpa using h)]
      refine wpAny_bind (wpAny_rule ?_)
      refine wpAny_bind (HT.rcLt_int _ _ _ _ _ _ _ _ _ _ ?_)
      refine wpAny_bind (wpAny_pure ?_)
      refine wpAny_pure ?_
      refine wpAny_pure ?_
      refine wpAny_pure ?_
      exact hr
  obtain ⟨o1, g1, c1, n1, d1⟩ := id hp
  obtain ⟨o2, g2, c2, n2, d2⟩ := id hq
  show wpAny _ _ (richCompare .Lt (.ref p) (.ref q)) _ _ _
  exact richCompare_meets_room (T := "tuple") ⟨_, g1, c1⟩ ⟨_, g2, c2⟩ F.slot_tuple_lt F.entry_tuple_lt (F.args_tuple_lt_2 _ _) me ⟨⟨hp, hq, h1, h2, r1, r2, hu⟩, (fun z => by cases z), hQ⟩ (by omega)
theorem dp_ints {K : PySem.W.Frag} {H : Hp} : ∀ ns : List Int, DpAll K H (ns.map V.int) (ns.map PyData.int)
  | [] => .nil
  | n :: ns => .cons (.int n) (dp_ints ns)
theorem op_ltTL {X : Cx} (hu : X.A.units + 64 < cLine) : OpR X (compareOp .Lt) (fun x y H Q => ∃ p q m k la lb ns ms, x = .ref p ∧ y = .ref q ∧ H p = some (.tup [.int m, .ref la]) ∧ H q = some (.tup [.int k, .ref lb]) ∧
    SqL X.K H la (ns.map V.int) ∧ SqL X.K H lb (ms.map V.int) ∧ Q (.bl (if m = k then HT.lexLt ns ms else decide (m < k))) H) := by
  intro pins s σ H x y v u Q I rx ry h
  obtain ⟨p, q, m, k, la, lb, ns, ms, rfl, rfl, hp, hq, h1, h2, hQ⟩ := h
  cases rx
  cases ry
  obtain ⟨i1, v1, t1, _⟩ := I.tuple (SqT.of hp)
  obtain ⟨i2, v2, t2, _⟩ := I.tuple (SqT.of hq)
  obtain ⟨i3, v3, p3, _⟩ := I.list h1
  obtain ⟨i4, v4, p4, _⟩ := I.list h2
  obtain ⟨as, r1⟩ := Dp.reads I (.list (ns.map PyData.int)) (.ref la) (.ref la) (.lst h1 (dp_ints ns)) rfl
  obtain ⟨bs, r2⟩ := Dp.reads I (.list (ms.map PyData.int)) (.ref lb) (.ref lb) (.lst h2 (dp_ints ms)) rfl
  cases v1 with
  | cons a1 b1 =>
  cases b1 with
  | cons a2 b2 =>
  cases b2
  cases v2 with
  | cons a3 b3 =>
  cases b3 with
  | cons a4 b4 =>
  cases b4
  obtain ⟨tm, rfl⟩ := a1
  obtain ⟨tk, rfl⟩ := a3
  cases a2
  cases a4
  exact tl_lt t1 t2 p3.isList p4.isList (by simpa using L2.intsAre_of v3) (by simpa using L2.intsAre_of v4) r1 r2 hu ⟨.bl _, H, I, rfl, hQ⟩
end Ms

set_option Elab.async false
set_option linter.all false
set_option maxRecDepth 100000
set_option maxHeartbeats 4000000
/-! a text from behind -/
namespace Ms
open PySem PySem.Spec PyProof.Rows L2
def pickedS (z : Str) : Str := ⟨(List.filterMap (fun i => z.cps[i]?) (slicePicked z none none (some (-1, 0)))).toArray⟩
theorem picked_len (z : Str) : (pickedS z).length ≤ z.length := by
  show (List.filterMap _ _).toArray.size ≤ _
  rw [List.size_toArray]
  refine Nat.le_trans (List.length_filterMap_le _ _) ?_
  show (sliceRange ((z.length : Int) - 1) (-1) (-1)).length ≤ z.length
  exact sliceRange_length_le _ _ _ _ (fun h => absurd h (by decide)) (fun _ => ⟨Int.le_refl _, Int.le_refl _⟩)
theorem picked_mem (z : Str) : ∀ c ∈ (pickedS z).cps.toList, c ∈ z.cps.toList := by
  intro c hc
  have hc : c ∈ List.filterMap (fun i => z.cps[i]?) (slicePicked z none none (some (-1, 0))) := hc
  obtain ⟨i, _, e⟩ := List.mem_filterMap.mp hc
  have := Array.mem_of_getElem? e
  exact Array.mem_toList_iff.mpr this
def tRevS (te : TE) : TE := fun σ H Q => te σ H fun x H1 => ∃ z, x = .str z ∧ z.length ≤ sizeLine ∧ Q (.str (pickedS z)) H1
theorem pe_revS {X : Cx} {e : Expr} {te : TE} {k : Nat} {p1 p2 p3 pos : Pos} (he : PE X e te) : PE X (e.Subscript (.Slice none none (some (.UnaryOp .USub (.Constant (.int 1) k p1) p2)) p3) pos) (tRevS te) := by
  refine ⟨fun pins s σ H Q I h => ?_⟩
  refine Subscript_ (thn (he.run pins s σ H _ I h) fun v s1 ⟨x, H1, I1, r1, q1⟩ => ?_)
  obtain ⟨z, rfl, hz, q⟩ := q1
  obtain ⟨t, rfl⟩ := r1
  refine wpAny_Slice ?_
  refine thn (po_none.run pins s1 σ H1 (fun o H2 => o = none ∧ H2 = H1) I1 ⟨rfl, rfl⟩) fun l s2 ⟨o, H2, I2, pl, el, eh⟩ => ?_
  subst el eh
  refine thn (po_none.run pins s2 σ _ (fun o H2 => o = none ∧ H2 = _) I2 ⟨rfl, rfl⟩) fun u s3 ⟨o, H3, I3, pu, eu, eh⟩ => ?_
  subst eu eh
  refine thn ((po_some (pe_un un_neg pe_int)).run pins s3 σ _ (fun o H2 => o = some (-1) ∧ H2 = _) I3 ⟨1, rfl, -1, rfl, rfl, rfl⟩) fun st s4 ⟨o, H4, I4, ps, es, eh⟩ => ?_
  subst es eh
  cases pl
  cases pu
  cases ps with
  | int i t2 =>
  have I5 := I4.kept (h' := s4.heap.push { cls := .type "slice", data := .fields #[.none, .none, .int (-1) t2] }) (t' := s4.toks) (fun b o e => Heap.get?_push_of_some _ e)
  refine tail_any (T := "str") (ops := [.ref s4.heap.objs.size, .str z t]) rfl (by first | exact PySem.F.slot_str_getitem.lookup | exact Slot.lookup PySem.F.slot_str_getitem | exact PyProof.Rows.slot_str_getitem.lookup | exact L2.slot_str_getitem.lookup) ?_ (by rfl)
  refine wpAny_getItem_str_slice (l := none) (u := none) (st := some (-1, t2)) ⟨_, Heap.get?_push_at rfl rfl, rfl, rfl⟩ (by rfl) ?_
  show Made.post (if ((-1 : Int) == 1 && _) = true then _ else _) _ _
  rw [if_neg (by simp)]
  exact ⟨Nat.le_trans (picked_len z) hz, .str _, _, I5.tok _, ⟨_, rfl⟩, q⟩
end Ms

set_option Elab.async false
set_option linter.all false
set_option maxRecDepth 100000
set_option maxHeartbeats 4000000
/-! isinstance(e, C) of an own exception that has a dict: both answers. -/
namespace Ms
open PySem PySem.Spec PyProof.Rows L2 LamX PySem.W
theorem cls_at {K : PySem.W.Frag} {D : Addr} (hd : hasDictIn K D = true) : ∃ oc od cd sl, K.lookup D = some ⟨oc, od, .cls cd, sl⟩ := by
  obtain ⟨c, e, _⟩ := any_some hd
  unfold clsIn at e
  split at e
  · rename_i a b c2 d ho; exact ⟨_, _, _, _, ho⟩
  · cases e
theorem kitx_excD {K : PySem.W.Frag} {x D : Addr} (C : ExcC K D) : KitX K (.ref x) (.ref D) (fun h => ∃ ox od, InstAt h x ox D od) where
  ty := by
    rintro M h _ ⟨ox, od, I⟩
    exact I.type
  it := by
    intro M h X _
    obtain ⟨oc, od, cd, sl, ho⟩ := cls_at C.hd
    exact fun A' Q' E' s' k q => by unfold isType loadHead; exact wpAny_bind (wpAny_loadPart (k _ _ (X _ _ ho)) (wpAny_pure q))
  ne := by
    intro h tp dd its n sl X htp
    obtain ⟨oc, od, cd, sl2, ho⟩ := cls_at C.hd
    refine Bool.eq_false_iff.mpr (fun q => ?_)
    have e : D = tp := by simpa using q
    rw [← e, X _ _ ho] at htp
    cases htp
  ca := by
    rintro prog w A E Q s X ⟨ox, od, I⟩ k
    exact kx_classE X I C.hg C.hk C.hs (findObj_dataE (by obtain ⟨oc, od', cd, sl, ho⟩ := cls_at C.hd; unfold clsIn; rw [ho]; rfl) C.ha C.hn C.ht) C.hm k
/-- isinstance(n, c), n the exception that the suite holds -/
theorem call_isC {X : Cx} {a : Addr} {oe : Obj} {cls : Value} {d : Option Addr} {pn : List (Addr × Obj)} (hz : Zc cls d oe) (hf : ∃ vs, oe.data = .fields vs) :
    CallR (X.suite a ((a, oe) :: pn)) (.builtin "isinstance") (fun xs H Q => ∃ C C2 b dd, xs = [.ref a, .ref C2] ∧ cls = .ref C ∧ d = some dd ∧ (∃ fs, H dd = some (.xd fs)) ∧ ExcC X.K C ∧ kitOne X.K (.ref C) (.ref C2) = some b ∧ Q (.bl b) H) := by
  rintro pins s σ H xs us Q I r ⟨C, C2, b, dd, rfl, rfl, rfl, ⟨fs, hx⟩, ec, e, q⟩
  cases r with
  | @cons _ u _ us rx rr =>
    cases rr with
    | @cons _ u2 _ us2 rt rr =>
      cases rr
      obtain rfl : u = Value.ref a := rx
      obtain rfl : u2 = Value.ref C2 := rt
      obtain ⟨ha, _⟩ := I.pin (a, oe) (List.mem_append_left _ List.mem_cons_self)
      obtain ⟨vs, hd⟩ := hf
      have hx : ObjOk X.prog X.w H s.heap dd (.xd fs) := I.hok dd _ hx
      obtain ⟨mA, hns, hr⟩ := hx
      obtain ⟨od, ho, hl⟩ := lookIn_ns hns
      have J : PySem.W.InstAt s.heap a oe C (some od) := ⟨ha, hz.1, by unfold PySem.W.notCls; rw [hd] <;> rfl, by rw [hz.2]; exact ho⟩
      exact kia_one (kitx_excD ec) I.kIn ⟨_, _, J⟩ e (fun z => nomatch z) fun tk => ⟨.bl b, H, I.kept (t' := tk) fun _ _ z => z, rfl, q⟩
end Ms

set_option Elab.async false
set_option linter.all false
set_option maxRecDepth 100000
set_option maxHeartbeats 4000000
/-! An own exception that has a dict, as a value: made, its field read, isinstance. -/
namespace Ms
open PySem PySem.Spec PyProof.Rows L2 LamX PySem.W
/-- an exception object of the class C with the dict d, not raised, at a -/
def ExS (C d a : Addr) : HO := .ext fun h => ∃ (oe : Obj) (vs : Array Value), h.get? a = some oe ∧ Zc (.ref C) (some d) oe ∧ oe.data = .fields vs
theorem exS_ok {P : Program} {w : World} {H : Hp} {h : Heap} {a C d : Addr} {oe : Obj} {vs : Array Value} (e : h.get? a = some oe) (z : Zc (.ref C) (some d) oe) (q : oe.data = .fields vs) : ObjOk P w H h a (ExS C d a) :=
  ⟨⟨oe, vs, e, z, q⟩, ⟨oe, e⟩, fun _ _ ⟨o, v, r, t⟩ k => ⟨o, v, k o r, t⟩⟩
section
variable {X : Cx} {C fI : Addr} {nm fld : Str}
/-- nm(e) as a value -/
def tMkV (fld : Str) (C : Addr) (ta : TA) : TE := fun σ H Q => ta σ H fun vs H1 => ∃ v, vs = [v] ∧ ∀ d a, H1 d = none → H1 a = none → d ≠ a → Q (.ref a) (upd (upd H1 d (.xd [(fld, v)])) a (ExS C d a))
theorem pe_mkS {a : Expr} {ta : TA} {p pos : Pos} {k : Nat} (T : Sx.Txt X.prog X.K X.mg nm fld C fI) (hr : Room k X.A) (ha : PA X [a] ta) (hg : Gl X nm := by rfl) (hdb : (nm == ("__debug__" : Str)) = false := by decide)
    (he : starEach (a :: []) X.env = (false, eval a X.env) :: starEach [] X.env := by rfl) (hpl : (backTo pos (starEach [] X.env)).any (·.1) = false := by rfl) :
    PE X (.Call (.Name nm p) [a] [] pos) (tMkV fld C ta) := by
  refine ⟨fun pins s σ H Q I h => ?_⟩
  refine wpAny_Call_Name_kw (ld_glob I hg T.gC ?_ hdb)
  refine PySem.W.callWith_K (h₀ := X.base) I.ok.mod.kin T.kC (thn (ha.run pos pins s σ H _ I h) fun us s1 hh => ?_) he hpl
  obtain ⟨vs, H1, I1, r1, v, rfl, q1⟩ := hh
  refine ⟨I1.kIn, ?_⟩
  cases r1 with
  | @cons _ u' _ us' rv rn =>
    cases rn
    show wpAny _ _ (call (.ref C) [u']) _ _ _
    have hlim := I1.nolimit
    obtain ⟨mb, hb1, hb2⟩ := I1.mod.blt
    have hbs : mb "super" = some (.type "super") := (hb2 _ (by decide)).trans (by decide +kernel)
    have hg1 := I1.mod.glob.keeps I1.bk
    have hb := hb1.keeps I1.bk
    obtain ⟨hp, g, dr, tk, os⟩ := s1
    refine wpAny_call (Sx.ex_made T I1.kIn hg1 hb hbs hlim (by have := hr.dp; omega) fun h' tk' e d M => ?_)
    obtain ⟨t1, hoe⟩ := M.obj
    have ob : ObjOk X.prog X.w (upd H1 d (.xd [(fld, v)])) h' d (.xd [(fld, v)]) := ⟨_, M.ns, fun f => relO_one rv f⟩
    have hd : H1 d = none := I1.hok.fresh M.dbig
    have ha : H1 e = none := I1.hok.fresh M.new
    obtain ⟨G', g1, g2⟩ := restrict h' fun b => decide (b ≠ e)
    have gk : ∀ b, b ≠ e → G'.get? b = h'.get? b := fun b hb => g1 b (decide_eq_true hb)
    have ge : G'.get? e = none := g2 e (by simp)
    have old : ∀ b o, hp.get? b = some o → G'.get? b = some o := fun b o q => (gk b (Nat.ne_of_lt (Nat.lt_of_lt_of_le (Heap.lt_size q) M.new))).trans (M.keep b o q)
    have obG : ObjOk X.prog X.w (upd H1 d (.xd [(fld, v)])) G' d (.xd [(fld, v)]) := ⟨_, M.ns.at (fun o q => (gk d M.dne).trans q), fun f => relO_one rv f⟩
    have J : Inv X pins σ (upd H1 d (.xd [(fld, v)])) ⟨G', g, dr, tk', os⟩ := I1.laid (t' := tk') old M.dbig obG
    have he2 : upd H1 d (.xd [(fld, v)]) e = none := by rw [upd_ne (Ne.symm M.dne)]; exact ha
    have J2 := J.laidN (h' := h') (t' := tk') (a := e) (o := ExS C d e) (fun b o q => by
      by_cases hb : b = e
      · have q' : G'.get? b = some o := q
        rw [hb, ge] at q'; cases q'
      · exact (gk b hb).symm.trans q) ge he2 (exS_ok hoe ⟨rfl, rfl⟩ rfl)
    exact ⟨.ref e, _, J2, rfl, q1 d e hd ha M.dne⟩
/-- e.fld of such a value -/
def tAtS (X : Cx) (fld : Str) (te : TE) : TE := fun σ H Q => te σ H fun x H1 => ∃ (a C d fI : Addr) (nm : Str) (v : V), x = .ref a ∧ Sx.Txt X.prog X.K X.mg nm fld C fI ∧ H1 a = some (ExS C d a) ∧ H1 d = some (.xd [(fld, v)]) ∧ Q v H1
theorem pe_atS {e : Expr} {te : TE} {pos : Pos} (he : PE X e te) (hb : attributeBase e fld X.env (eval e X.env) = eval e X.env := by rfl) : PE X (.Attribute e fld pos) (tAtS X fld te) := by
  refine ⟨fun pins s σ H Q I h => attr_of hb (thn (he.run pins s σ H _ I h) fun u s1 hh => ?_)⟩
  obtain ⟨x, H1, I1, rx, a, C, d, fI, nm, v, rfl, T, ha, ea, q⟩ := hh
  obtain rfl : u = Value.ref a := rx
  obtain ⟨⟨oe, vs, hget, hz, hd⟩, _, _⟩ := I1.hok a _ ha
  have hx : ObjOk X.prog X.w H1 s1.heap d (.xd [(fld, v)]) := I1.hok d _ ea
  obtain ⟨mA, hns, hr⟩ := hx
  obtain ⟨od, ho, hl⟩ := lookIn_ns hns
  have l : List.lookup fld [(fld, v)] = some v := by simp [List.lookup]
  obtain ⟨u, hu, ru⟩ := RelO.some_of (v := v) (o := mA fld) (by rw [← l]; exact hr fld)
  have J : PySem.W.InstAt s1.heap a oe C (some od) := ⟨hget, hz.1, by unfold PySem.W.notCls; rw [hd] <;> rfl, by rw [hz.2]; exact ho⟩
  exact HandSPX.exc_get I1.kIn J T.ga T.gg T.exC (PySem.W.findObj_own T.hdC T.noN rfl (by rw [hl, hu])) (handed_of ru) ⟨v, H1, I1.tok _, ru, q⟩
/-- isinstance(e, c) of such a value -/
def rIsX (K : PySem.W.Frag) : List V → Hp → VK → Prop := fun xs H Q => ∃ (a C d : Addr) (c : V) (cv : Value) (b : Bool) (fs : List (Str × V)), xs = [.ref a, c] ∧ H a = some (ExS C d a) ∧ H d = some (.xd fs) ∧ ExcC K C ∧ ClsV c cv ∧ kitOne K (.ref C) cv = some b ∧ Q (.bl b) H
theorem call_isX : CallR X (.builtin "isinstance") (rIsX X.K) := by
  rintro pins s σ H xs us Q I r ⟨a, C, d, c, cv, b, fs, rfl, ha, hx, ec, k, e, q⟩
  obtain ⟨u1, u2, rfl, r1, r2⟩ := vals2 r
  have e2 := k.eq r2
  subst e2
  obtain rfl : u1 = Value.ref a := r1
  obtain ⟨⟨oe, vs, hget, hz, hd⟩, _, _⟩ := I.hok a _ ha
  have hx : ObjOk X.prog X.w H s.heap d (.xd fs) := I.hok d _ hx
  obtain ⟨mA, hns, hr⟩ := hx
  obtain ⟨od, ho, hl⟩ := lookIn_ns hns
  have J : PySem.W.InstAt s.heap a oe C (some od) := ⟨hget, hz.1, by unfold PySem.W.notCls; rw [hd] <;> rfl, by rw [hz.2]; exact ho⟩
  exact kia_one (kitx_excD ec) I.kIn ⟨_, _, J⟩ e (fun z => nomatch z) fun tk => ⟨.bl b, H, I.kept (t' := tk) fun _ _ z => z, rfl, q⟩
end
theorem ifN {p A B : Prop} [Decidable p] (h : ¬ p) (b : B) : if decide p = true then A else B := by
  rw [decide_eq_false h]
  exact b
theorem ifY {p A B : Prop} [Decidable p] (h : p) (a : A) : if decide p = true then A else B := by
  rw [decide_eq_true h]
  exact a
end Ms

set_option Elab.async false
set_option linter.all false
set_option maxRecDepth 100000
set_option maxHeartbeats 4000000
/-! sorted(a text): its signs, one by one, risen. -/
namespace Ms
open PySem PySem.Spec PyProof.Rows L2 LamX PySem.W
theorem strsAre_of : ∀ (vs : List Value) (xs : List Str), vs.length = xs.length → (∀ (i : Nat) (v : Value), vs[i]? = some v → ∃ (y : Str) (u : Tok), xs[i]? = some y ∧ v = Value.str y u) → StrsAre vs xs
  | [], [], _, _ => .nil
  | [], y :: xs, e, _ => by cases e
  | v :: vs, [], e, _ => by cases e
  | v :: vs, y :: xs, e, h => by
    obtain ⟨y', u, e1, rfl⟩ := h 0 v rfl
    have e1 : some y = some y' := e1
    cases e1
    exact .cons y u (strsAre_of vs xs (by simpa using e) fun i w hw => h (i + 1) w hw)
theorem sorted_text {prog : Program} {w : World} {A : Around} {E : Value → Shared → Prop} {s : Shared} {x : Str} {t : Tok} {Q : Value → Shared → Prop} (hh : A.handled = none) (hL : x.cps.size ≤ sizeLine)
    (hq : ∀ (h' : Heap) (tk : Nat) (p : Addr) (out : Array Value) (e : Nat) (ss : List Str), (∀ b o, s.heap.get? b = some o → h'.get? b = some o) → s.heap.get? p = none → h'.get? p = some (seqObj "list" out e) → StrsAre out.toList ss → ss.Perm (x.cps.toList.map fun c => ⟨#[c]⟩) → sortedS ss = true → Q (.ref p) { s with heap := h', toks := tk }) :
    wpAny (model prog w) A (call (.builtin "sorted") [.str x t]) Q E s := by
  refine Calls.call_function_entry kind_sorted plain_sorted entry_sorted (args_sorted1 _) (by
    unfold Builtin.«sorted»
    refine wpAny_bind (m := checkCount "sorted" 1 1 _) (wpAny_pure (wpAny_bind (wpAny_collect_str (by exact hh) x t (fun s' acc k g d o it => ?_) hL)))
    have hacc : StrsAre acc.toList (x.cps.toList.map fun c => ⟨#[c]⟩) := by
      refine strsAre_of _ _ (by rw [Array.length_toList, it.1, List.length_map, Array.length_toList]) fun i v hv => ?_
      rw [Array.getElem?_toList] at hv
      obtain ⟨c, u, hc, rfl⟩ := it.2 i v hv
      exact ⟨⟨#[c]⟩, u, by rw [List.getElem?_map, Array.getElem?_toList, hc]; rfl, rfl⟩
    obtain ⟨hp, g', d', tk, os⟩ := s'
    obtain ⟨hp0, g0, d0, tk0, os0⟩ := s
    obtain rfl : g' = g0 := g
    obtain rfl : d' = d0 := d
    obtain rfl : os = os0 := o
    refine wpAny_bind (wpAny_newList ?_)
    have hoL : (hp.push (seqObj "list" acc.toList.toArray 0)).get? hp.objs.size = some (seqObj "list" acc.toList.toArray 0) := Heap.get?_push_size _ rfl
    have hl : acc.toList.length ≤ sizeLine := by rw [Array.length_toList, it.1]; exact hL
    refine wpAny_bind (wpAny_holding (wpAny_call_entry slot_list_sort ⟨_, hoL, rfl⟩ entry_list_sort (list_sort_treeKAny strKind_oneLt hoL hacc.keysOf (fun v₁ v₂ rest e => keyKind_strs (by rw [← e]; exact hacc)) hl fun st' h1 h2 => ⟨_, rfl, wpAny_pure ⟨_, rfl, ?_⟩⟩) (args_list_sort _)))
    obtain ⟨ss, a1, a2, a3⟩ := sorted_out_str hacc h1 h2
    obtain ⟨e, he⟩ := sortedHeap_at (out := (arrOf st').map (·.2)) hoL
    refine hq _ _ _ _ e ss (fun b o q => ?_) ?_ he a1 a2 a3
    · have hb := k b o q
      have hlt : b < hp.objs.size := Heap.lt_size hb
      rw [sortedHeap_old (Nat.ne_of_lt hlt) (by rw [Heap.size_push]; exact Nat.lt_succ_of_lt hlt)]
      exact Heap.get?_push_of_some _ hb
    · cases q : hp0.get? hp.objs.size with
      | none => rfl
      | some o => exact absurd (Heap.lt_size (k _ _ q)) (Nat.lt_irrefl _))
/-- sorted(a text) -/
theorem cr_sortedT {X : Cx} (hc : X.calm = true) : CallR X (.builtin "sorted") (fun vs H Q => ∃ z : Str, vs = [V.str z] ∧ z.length ≤ sizeLine ∧ ∀ (ys : List Str) (p : Addr), ys.Perm (z.cps.toList.map fun c => ⟨#[c]⟩) → sortedS ys = true → H p = none → Q (.ref p) (upd H p (.lst (ys.map V.str)))) := by
  intro pins s σ H vs us Q I r h
  obtain ⟨z, rfl, hz, q⟩ := h
  cases r with
  | @cons _ u _ us rx rr =>
    cases rr
    obtain ⟨t, rfl⟩ := rx
    refine sorted_text (I.ok.hd hc) hz fun h' tk p out e ss k hp hg a1 a2 a3 => ?_
    have hn : H p = none := I.hok.gone hp
    have hlen : (ss.map V.str).length ≤ sizeLine := by
      rw [List.length_map, a2.length_eq, List.length_map]
      exact hz
    exact ⟨.ref p, upd H p (.lst (ss.map V.str)), I.laidN (h' := h') (t' := tk) k hp hn ⟨hlen, out.toList, e, vals_of_strs a1, by simpa using hg⟩, rfl, q ss p a2 a3 hn⟩
end Ms

set_option Elab.async false
set_option linter.all false
set_option maxRecDepth 100000
set_option maxHeartbeats 4000000
/-! two, four defaults -/
namespace Ms
open PySem PySem.Spec PyProof.Rows L2 LamX
theorem dfl_two {K : PySem.W.Frag} {t : Addr} {cl : Value} {dd : Option Addr} {n : Nat} {sl : Array (Option Value)} {v1 v2 : V} {u1 u2 : Value} (h : K.lookup t = some ⟨cl, dd, .seq #[u1, u2] n, sl⟩) (r1 : RelV v1 u1) (r2 : RelV v2 u2) : DflV K (.ref t) [v1, v2] :=
  .inr ⟨List.cons_ne_nil _ _, t, _, [u1, u2], n, rfl, h, rfl, .cons r1 (.cons r2 .nil)⟩
theorem dfl_four {K : PySem.W.Frag} {t : Addr} {cl : Value} {dd : Option Addr} {n : Nat} {sl : Array (Option Value)} {v1 v2 v3 v4 : V} {u1 u2 u3 u4 : Value} (h : K.lookup t = some ⟨cl, dd, .seq #[u1, u2, u3, u4] n, sl⟩) (r1 : RelV v1 u1) (r2 : RelV v2 u2) (r3 : RelV v3 u3) (r4 : RelV v4 u4) : DflV K (.ref t) [v1, v2, v3, v4] :=
  .inr ⟨List.cons_ne_nil _ _, t, _, [u1, u2, u3, u4], n, rfl, h, rfl, .cons r1 (.cons r2 (.cons r3 (.cons r4 .nil)))⟩
end Ms

set_option Elab.async false
set_option linter.all false
set_option maxRecDepth 100000
set_option maxHeartbeats 4000000
/-! rules within a comprehension: the written part by its own name -/
namespace Ms
open PySem PySem.Spec PyProof.Rows L2 LamX
section
variable {X : Cx} {K : PySem.W.Frag} (hK : X.K = K)
include hK
theorem pe_joinK {o e : Expr} {to te : TE} {apos pos : Pos} (ho : PE X o to) (he : PE X e te) (hs : starEach [e] X.env = [(false, eval e X.env)] := by rfl) (hbase : attributeBase o "join" X.env (eval o X.env) = eval o X.env := by rfl) (hline : (apos.endLine == pos.line) = true := by rfl) : PE X (.Call (.Attribute o "join" apos) [e] [] pos)
    (tM1 (fun x xs H Q => ∃ a p, ∃ ys : List Str, x = .str a ∧ xs = [.ref p] ∧ (SqL K H p (ys.map V.str) ∨ SqT K H p (ys.map V.str)) ∧ (ys.map (·.length)).sum + ys.length * a.length ≤ 16777216 ∧ Q (.str (Txt.join a ys)) H) to te) := by
  subst hK
  exact pe_join ho he hs hbase hline
theorem pe_ixLK {a b : Expr} {ta tb : TE} {pos : Pos} (ha : PE X a ta) (hb : PE X b tb) (hs : PlainIx b) : PE X (.Subscript a b pos) (tOp (rIxL K) ta tb) := by
  subst hK
  exact pe_ix ix_list ha hb hs
theorem pe_ixTK {a b : Expr} {ta tb : TE} {pos : Pos} (ha : PE X a ta) (hb : PE X b tb) (hs : PlainIx b) : PE X (.Subscript a b pos) (tOp (rIxT K) ta tb) := by
  subst hK
  exact pe_ix ix_tup ha hb hs
theorem call_len_seqK : CallR X (.builtin "len") (fun xs H Q => ∃ p ys, xs = [.ref p] ∧ (SqL K H p ys ∨ SqT K H p ys) ∧ Q (.int ys.length) H) := by
  subst hK
  exact call_len_seq
theorem isiK : CallR X (.builtin "isinstance") (rIsi K) := by
  subst hK
  exact call_isi
theorem isXK : CallR X (.builtin "isinstance") (rIsX K) := by
  subst hK
  exact call_isX
theorem sl_listK : SlR X (rSlL K) := by
  subst hK
  exact sl_list
theorem pe_fldK {e : Expr} {ta : TE} {f : Str} {pos : Pos} (he : PE X e ta) (hb : attributeBase e f X.env (eval e X.env) = eval e X.env) : PE X (.Attribute e f pos) (tFld K ta f) := by
  subst hK
  exact pe_fld he hb
theorem op_in_seqK : OpR X (compareOp .In) (rIn K false) := by
  subst hK
  exact op_in_seq
theorem op_notIn_seqK : OpR X (compareOp .NotIn) (rIn K true) := by
  subst hK
  exact op_notIn_seq
theorem op_eqDK (hu : X.A.units + 64 < cLine) : OpR X (compareOp .Eq) (rEqD K) := by
  subst hK
  exact op_eqD hu
theorem op_neDK (hu : X.A.units + 64 < cLine) : OpR X (compareOp .NotEq) (rNeD K) := by
  subst hK
  exact op_neD hu
theorem pg_tupK {es : List Expr} {k : Nat} {t : TGs} {n : Nat} {pos : Pos} (hc : X.calm = true) (h : PGs X es t)
    (hn : (assignEach es X.env).length = n := by rfl) (hst : (assignEach es X.env).findIdx? (·.1) = none := by rfl) : PG X (.Tuple es k pos) (gTup K n t) := by subst hK; exact pg_tup hc h hn hst
theorem op_catK : OpR X (binaryOp .Add) rCat := op_cat
end
end Ms

set_option Elab.async false
set_option linter.all false
set_option maxRecDepth 100000
set_option maxHeartbeats 4000000
/-! a rule told by names -/
namespace Ms
open PySem PySem.Spec PyProof.Rows L2 LamX
def perm4 {α : Type} (us _ds : List α) : List α → List α
  | [a, x, b, e] => us ++ [x, e, b, a]
  | _ => us
theorem perm4_rel {vs ds zs : List V} {us its ws : List Value} (h1 : Vals vs us) (_ : Vals ds its) (h3 : Vals zs ws) : Vals (perm4 vs ds zs) (perm4 us its ws) := by
  cases h3 with
  | nil => exact h1
  | cons ra t => cases t with
    | nil => exact h1
    | cons rx t => cases t with
      | nil => exact h1
      | cons rb t => cases t with
        | nil => exact h1
        | cons re t => cases t with
          | nil => exact h1.append (.cons rx (.cons re (.cons rb (.cons ra .nil))))
          | cons _ _ => exact h1
end Ms

set_option Elab.async false
set_option linter.all false
set_option maxRecDepth 100000
set_option maxHeartbeats 4000000
/-! try whose first clauses have names; what stands behind them is never reached -/
namespace Mu
open PySem PySem.Spec PyProof.Rows L2 Ms
def wUpto (K : PySem.W.Frag) (n : Nat) (Wo : WX) (D : Ends) : List Cl → WX
  | [] => fun _ _ _ _ => False
  | (c, i, ts) :: r => fun cls d σ H => ∃ b, PySem.W.exmOne K cls c = some b ∧ (b = true → ∀ a, H a = none → σ.length = n → ts a cls d (offEnds i D) (σ.set i (some (.ref a))) H) ∧ (b = false → wUpto K n Wo D r cls d σ H)
inductive Upto (X : Cx) : List ExceptHandler → List Cl → Prop
  | nil {hs : List ExceptHandler} : Upto X hs []
  | cons {x n : Str} {c : Value} {i : Nat} {ts : Addr → Value → Option Addr → TS} {b₀ : Stmt} {su : List Stmt} {np pp : Pos} {hs : List ExceptHandler} {l : List Cl} (nc : Names X x c) (ni : X.N[i]? = some n) (nl : X.env.kindOf n = some .local)
      (sr : ∀ (a : Addr) (oe : Obj) (cls : Value) (d : Option Addr) (pn : List (Addr × Obj)), Zc cls d oe → (∃ vs, oe.data = .fields vs) → PSs (X.suite a ((a, oe) :: pn)) (b₀ :: su) (ts a cls d)) (r : Upto X hs l) :
      Upto X (.ExceptHandler (some (.Name x np)) (some n) (b₀ :: su) pp :: hs) ((c, i, ts) :: l)
section
variable {X : Cx} {pins : List (Addr × Obj)} {σ : L2.St} {H : Hp} {sI s : Shared} {B : Heap} {a : Addr} {cls : Value} {d : Option Addr} {D : Ends} {Wo : WX}
theorem upto_run (hst : X.stack = X.env :: X.outer) (hfr : X.env.frame = some X.env.locals) (hN : X.N.Nodup) (tk : Takes X Wo) {hs : List ExceptHandler} {l : List Cl} (C : Upto X hs l) :
    ∀ {s : Shared}, Landed X pins σ H sI s B a cls d → wUpto X.K X.N.length Wo D l cls d σ H → wpAny (model X.prog X.w) X.A (handleBy (.ref a) X.env hs) (SP X pins D) X.xe s := by
  induction C with
  | nil =>
    intro s F q
    exact q.elim
  | @cons x n c i ts b₀ su np pp hs l nc ni nl sr r ih =>
    intro s F q
    obtain ⟨hp, g, dr, tk0, os0⟩ := s
    obtain ⟨b, eb, yes, no⟩ := q
    have J := F.here
    obtain ⟨oe, vs, he, hz, hd⟩ := F.fly.there
    have S := J.suite he hd F.na F.nL F.nF
    have lt : PySem.W.Looks (model X.prog X.w) hp (typeOf (.ref a)) cls := fun A Q E s k y => wpAny_typeOf_ref (k _ _ he) (by rw [hz.1]; exact y)
    have lm := PySem.W.exm_one (M := model X.prog X.w) J.kIn lt eb
    have asked : ∀ {Q : Value → Shared → Prop} {E : Value → Shared → Prop}, Q c ⟨hp, g, dr, tk0, os0⟩ → wpAny (model X.prog X.w) (X.A.mark (some (.ref a))) (eval (.Name x np) X.env) Q E ⟨hp, g, dr, tk0, os0⟩ := fun {Q E} y => by
      obtain ⟨k1, k2, k3 | ⟨k3, k4, k5⟩⟩ := nc
      · exact ld_glob (X := X.suite a ((a, oe) :: (X.pn ++ pins))) S k1 k3 y k2
      · exact ld_blt (X := X.suite a ((a, oe) :: (X.pn ++ pins))) S k1 k3 k4 y k5 k2
    refine wpAny_handleBy_cons (codeAny_handlers_test ?_) (by intro z; cases z)
    refine asked (lm.here ?_)
    cases b with
    | false => exact ih F (no rfl)
    | true =>
      refine codeAny_handlers_suite_as (HandSPX.lands_againZ F.fly fun h4 f4 u4 => ?_)
      have F4 : Landed X pins σ H sI ⟨h4, g, dr, tk0, os0⟩ B a cls d := ⟨F.inv, F.nb, F.up.trans u4, f4, F.na, F.os, F.ag, F.nL, F.nF⟩
      obtain ⟨oe4, vs4, he4, hz4, hd4⟩ := F4.fly.there
      have S4 := F4.here.suite he4 hd4 F.na F.nL F.nF
      refine store_ok (X := X.suite a ((a, oe4) :: (X.pn ++ pins))) (v := .ref a) S4 hN ni (.inl nl) rfl (fun s5 S5 => ?_) (.inr nl)
      refine wpAny_mono ((sr a oe4 cls d (X.pn ++ pins) hz4 ⟨_, hd4⟩).run [] s5 _ H _ S5 (yes rfl a F.na F.inv.len)) (fun f s6 y => ?_) (fun _ _ z => z.elim)
      have off : ∀ {τ : L2.St} {H6 : Hp} {Q : Shared → Prop}, Inv (X.suite a ((a, oe4) :: (X.pn ++ pins))) [] τ H6 s6 → (∀ s7, Inv X pins (τ.set i none) H6 s7 → Q s7) →
          wpAny (model X.prog X.w) X.A (do bindName X.env n .none; unbindBehindTheSuite X.env n pp) (fun _ s7 => Q s7) X.xe s6 := fun {τ H6 Q} S6 k => gone_ok (S6.unsuite J.ok) hN ni nl k
      cases f with
      | ret u =>
        obtain ⟨v6, τ, H6, S6, r6, q6⟩ := y
        exact off S6 fun s7 J7 => ⟨_, _, _, J7, r6, q6⟩
      | next =>
        obtain ⟨τ, H6, S6, q6⟩ := y
        exact off S6 fun s7 J7 => ⟨_, _, J7, q6⟩
      | brk =>
        obtain ⟨τ, H6, S6, q6⟩ := y
        exact off S6 fun s7 J7 => ⟨_, _, J7, q6⟩
      | cont =>
        obtain ⟨τ, H6, S6, q6⟩ := y
        exact off S6 fun s7 J7 => ⟨_, _, J7, q6⟩
/-- try: body, except x as n: suite, except y as m: suite, .. -/
theorem ps_try_upto {body : List Stmt} {h₀ : ExceptHandler} {hs : List ExceptHandler} {l : List Cl} {pos : Pos} {tb : WX → TS} (hst : X.stack = X.env :: X.outer) (hfr : X.env.frame = some X.env.locals) (hN : X.N.Nodup) (tk : Takes X Wo)
    (hb : ∀ (W : WX) (pn : List (Addr × Obj)) (xe : Value → Shared → Prop), Takes (X.tr pn xe) W → PassesOwn (model X.prog X.w) X.A X.env xe → PSs (X.tr pn xe) body (tb W)) (C : Upto X (h₀ :: hs) l) :
    PS X (.Try body (h₀ :: hs) [] [] pos) (fun D σ H => tb (wUpto X.K X.N.length Wo D l) D σ H) := by
  refine ⟨fun pins s σ H D I h => ?_⟩
  have ok := I.ok
  have frm : X.A.frames = some (X.env :: X.outer) := by rw [ok.frames, hst]
  refine wpAny_Try_except (wpAny_mono ((hb (wUpto X.K X.N.length Wo D l) (X.pn ++ pins) _ (fun u s' y => ?_) PassesOwn.looking).run [] s σ H D (I.toTry _) h) (fun f s1 y => ?_) (fun _ _ z => z))
  · obtain ⟨a, B, sI, pins', σ', H', cls, d, rfl, J', nb, up, sky, na, os, ag, q⟩ := y
    show wpAny (model X.prog X.w) X.A (noteFrame (.ref a) X.env) _ _ _
    refine Sky.land Zc.steady frm hfr (by rw [← hst]; exact sky) fun h3 f3 u3 => ?_
    obtain ⟨oe, vs, he, hz, hd⟩ := f3.there
    have out : a ∉ frs (X.env :: X.outer) := fun hm => by
      obtain ⟨_, o', e', nf⟩ := f3.2.2.1.mem hm
      rw [he] at e'
      cases e'
      exact nf _ hd
    refine upto_run hst hfr hN tk C (s := { s' with heap := h3 }) ⟨J'.ofTry ok, nb, up.trans u3, f3, na, os, ag, fun z => out (List.mem_filterMap.mpr ⟨X.env, List.mem_cons_self, by rw [hfr, z]⟩), fun hm => ?_⟩ q
    obtain ⟨e, he2, q2⟩ := List.mem_filterMap.mp hm
    exact out (List.mem_filterMap.mpr ⟨e, List.mem_cons_of_mem _ he2, q2⟩)
  · cases f with
    | next =>
      obtain ⟨σ', H', J', q⟩ := y
      exact wpAny_execs_nil ⟨σ', H', J'.ofTry ok, q⟩
    | ret u =>
      obtain ⟨v, σ', H', J', r, q⟩ := y
      exact ⟨v, σ', H', J'.ofTry ok, r, q⟩
    | brk =>
      obtain ⟨σ', H', J', q⟩ := y
      exact ⟨σ', H', J'.ofTry ok, q⟩
    | cont =>
      obtain ⟨σ', H', J', q⟩ := y
      exact ⟨σ', H', J'.ofTry ok, q⟩
end
end Mu

set_option Elab.async false
set_option linter.all false
set_option maxRecDepth 100000
set_option maxHeartbeats 4000000
/-! Own words for heaps and numbers that all laws share. -/
namespace Ms
open PySem PySem.Spec PyProof.Rows L2
/-- all that was tracked is as it was, but at a -/
def But (a : Addr) (H H' : Hp) : Prop := ∀ b o, b ≠ a → H b = some o → H' b = some o
theorem But.refl (a : Addr) (H : Hp) : But a H H := fun _ _ _ h => h
theorem But.trans {a : Addr} {H H1 H2 : Hp} (x : But a H H1) (y : But a H1 H2) : But a H H2 := fun b o n h => y b o n (x b o n h)
theorem But.upd {a : Addr} {H : Hp} {o : HO} : But a H (upd H a o) := fun b u n h => by rw [upd_ne n]; exact h
theorem Same.but {a : Addr} {H H' : Hp} (x : Same H H') : But a H H' := fun b o _ h => x b o h
theorem same_upd {H : Hp} {p : Addr} {o : HO} (h : H p = none) : Same H (upd H p o) := fun b x e => by
  rw [upd_ne (ne_of_none e h)]
  exact e
theorem But.free {a p : Addr} {H H' : Hp} (x : But a H H') (n : p ≠ a) (h : H' p = none) : H p = none := by
  cases e : H p with
  | none => rfl
  | some o => rw [x p o n e] at h; cases h
/-- the draws' list at a -/
def Src (H : Hp) (a : Addr) : Prop := ∃ x c n : Int, H a = some (.lst [.int x, .int c, .int n])
theorem Src.same {H H' : Hp} {a : Addr} (h : Src H a) (s : Same H H') : Src H' a := let ⟨x, c, n, e⟩ := h; ⟨x, c, n, s _ _ e⟩
theorem Src.ne {H : Hp} {a p : Addr} (h : Src H a) (n : H p = none) : a ≠ p := let ⟨_, _, _, e⟩ := h; ne_of_none e n
theorem fm (a : Int) {b : Int} (h : 0 < b) : 0 ≤ a.fmod b ∧ a.fmod b < b := by
  rw [Int.fmod_eq_emod_of_nonneg a (by omega)]
  exact ⟨Int.emod_nonneg a (by omega), Int.emod_lt_of_pos a h⟩
theorem ne0 {b : Int} (h : 0 < b) : b ≠ 0 := by omega
theorem fd (a : Int) {b : Int} (h : 0 < b) : a.fdiv b = a / b := Int.fdiv_eq_ediv_of_nonneg a (by omega)
theorem bnd0 (a : Int) {b : Int} (h : 0 < b) (h2 : b < 2 ^ 64) : -(2 ^ 64) < a.fmod b ∧ a.fmod b < 2 ^ 64 := by
  have := fm a h
  omega
theorem bnd1 (a : Int) {b : Int} (h : 0 < b) (h2 : b < 2 ^ 63) : -(2 ^ 64) < a.fmod b + 1 ∧ a.fmod b + 1 < 2 ^ 64 := by
  have := fm a h
  omega
/-- the cells that a law goes over -/
theorem cells (ns : List Int) (k : Int) : ∃ cs : List Int, cutV (ns.map V.int ++ [.int 0]) none (some k) = cs.map V.int := by
  refine ⟨((ns ++ [0]).drop (HT.sIx (ns ++ [0]).length 0 none)).take (HT.sIx (ns ++ [0]).length (ns ++ [0]).length (some k) - HT.sIx (ns ++ [0]).length 0 none), ?_⟩
  have e : ns.map V.int ++ [.int 0] = (ns ++ [0]).map V.int := by rw [List.map_append]; rfl
  rw [e]
  unfold cutV
  rw [List.length_map, List.map_take, List.map_drop]
theorem cell_at {cs : List Int} {i : Nat} {v : V} (h : (cs.map V.int)[i]? = some v) : ∃ c, v = .int c := by
  rw [List.getElem?_map] at h
  cases e : cs[i]? with
  | none => rw [e] at h; cases h
  | some c => rw [e] at h; exact ⟨c, (Option.some.inj h).symm⟩
/-! texts as lists of signs -/
abbrev sg (x : Str) : List Nat := x.cps.toList
def ofL (l : List Nat) : Str := ⟨l.toArray⟩
theorem ofL_sg (x : Str) : ofL (sg x) = x := rfl
theorem sg_ofL (l : List Nat) : sg (ofL l) = l := rfl
theorem sg_len (x : Str) : x.length = (sg x).length := by simp [sg, Str.length]
theorem ext_sg {x y : Str} (h : sg x = sg y) : x = y := Str.ext' (Array.toList_inj.mp h)
theorem ofL_len (l : List Nat) : (ofL l).length = l.length := by rw [sg_len, sg_ofL]
theorem sg_app (x y : Str) : sg (x ++ y) = sg x ++ sg y := by
  show (x ++ y).cps.toList = _
  rw [Str.cps_append, Array.toList_append]
theorem cps_get (x : Str) (i : Nat) : x.cps[i]? = (sg x)[i]? := by simp [sg]
theorem size_sg (x : Str) : x.cps.size = (sg x).length := by simp [sg]
theorem join_one : ∀ l : List Nat, Str.join (ofL []) (l.map fun c => ofL [c]) = ofL l
  | [] => rfl
  | [_] => rfl
  | a :: b :: r => by
    have ih := join_one (b :: r)
    refine ext_sg ?_
    show sg (ofL [a] ++ ofL [] ++ Str.join (ofL []) (ofL [b] :: r.map fun c => ofL [c])) = _
    rw [sg_app, sg_app, show Str.join (ofL []) (ofL [b] :: r.map fun c => ofL [c]) = ofL (b :: r) from ih]
    rfl
theorem txt_join (l : List Nat) : Txt.join (ofL []) (l.map fun c => ofL [c]) = ofL l := (TL.join_eq _ _).trans (join_one l)
theorem sum_one : ∀ l : List Nat, ((l.map fun c => ofL [c]).map (·.length)).sum = l.length
  | [] => rfl
  | _ :: r => by
    rw [List.map_cons, List.map_cons, List.sum_cons, sum_one r, List.length_cons, ofL_len, List.length_singleton]
    omega
theorem cut_to (x : Str) (n : Nat) : cutS x none (some (n : Int)) = ofL ((sg x).take n) := by
  refine ext_sg ?_
  show ((x.cps.toList.drop (HT.sIx x.length 0 none)).take (HT.sIx x.length x.length (some (n : Int)) - HT.sIx x.length 0 none)) = (sg x).take n
  rw [HT.sIx_none, HT.sIx_nat, List.drop_zero, Nat.sub_zero, sg_len, ← List.take_eq_take_min]
theorem cut_from (x : Str) (n : Nat) : cutS x (some (n : Int)) none = ofL ((sg x).drop n) := by
  refine ext_sg ?_
  show ((x.cps.toList.drop (HT.sIx x.length 0 (some (n : Int)))).take (HT.sIx x.length x.length none - HT.sIx x.length 0 (some (n : Int)))) = (sg x).drop n
  rw [HT.sIx_none, HT.sIx_nat, sg_len]
  by_cases h : n ≤ (sg x).length
  · rw [Nat.min_eq_left h, ← List.length_drop, List.take_length]
  · have e : (sg x).length ≤ n := by omega
    rw [Nat.min_eq_right e, Nat.sub_self, List.take_zero, List.drop_eq_nil_of_le e]
end Ms

namespace M
open PySem PySem.Spec PyProof.Rows L2 Ms LamX

abbrev prg : Program := PySem.Challenge.pw_markseam_k22_what_is_no_rule
def topS (i : Nat) : Stmt := PySem.Challenge.pw_markseam_k22_what_is_no_rule.main.body.getD i (.Pass ⟨0, 0, 0, 0⟩)
abbrev s_is_text : Stmt := topS 6
abbrev n_is_text : List Str := ["thing"]
theorem sc_is_text : FnScope n_is_text ["thing"] (defScope s_is_text) := ⟨rfl, rfl, rfl, by decide +kernel, rfl, by decide +kernel, by decide +kernel⟩
abbrev s_are_signs : Stmt := topS 7
abbrev n_are_signs : List Str := ["thing", "least", "most"]
theorem sc_are_signs : FnScope n_are_signs ["thing", "least", "most"] (defScope s_are_signs) := ⟨rfl, rfl, rfl, by decide +kernel, rfl, by decide +kernel, by decide +kernel⟩
abbrev s_are_unlike_signs : Stmt := topS 8
abbrev n_are_unlike_signs : List Str := ["thing", "most"]
theorem sc_are_unlike_signs : FnScope n_are_unlike_signs ["thing", "most"] (defScope s_are_unlike_signs) := ⟨rfl, rfl, rfl, by decide +kernel, rfl, by decide +kernel, by decide +kernel⟩
abbrev s_is_place : Stmt := topS 14
abbrev n_is_place : List Str := ["thing"]
theorem sc_is_place : FnScope n_is_place ["thing"] (defScope s_is_place) := ⟨rfl, rfl, rfl, by decide +kernel, rfl, by decide +kernel, by decide +kernel⟩
abbrev s_is_edge : Stmt := topS 15
abbrev n_is_edge : List Str := ["thing"]
theorem sc_is_edge : FnScope n_is_edge ["thing"] (defScope s_is_edge) := ⟨rfl, rfl, rfl, by decide +kernel, rfl, by decide +kernel, by decide +kernel⟩
abbrev s_are_places : Stmt := topS 16
abbrev n_are_places : List Str := ["things", "thing"]
theorem sc_are_places : FnScope n_are_places ["things"] (defScope s_are_places) := ⟨rfl, rfl, rfl, by decide +kernel, rfl, by decide +kernel, by decide +kernel⟩
abbrev s_is_beside : Stmt := topS 17
abbrev n_is_beside : List Str := ["things"]
theorem sc_is_beside : FnScope n_is_beside ["things"] (defScope s_is_beside) := ⟨rfl, rfl, rfl, by decide +kernel, rfl, by decide +kernel, by decide +kernel⟩
abbrev s_is_behind : Stmt := topS 18
abbrev n_is_behind : List Str := ["things"]
theorem sc_is_behind : FnScope n_is_behind ["things"] (defScope s_is_behind) := ⟨rfl, rfl, rfl, by decide +kernel, rfl, by decide +kernel, by decide +kernel⟩
abbrev s_is_ahead : Stmt := topS 19
abbrev n_is_ahead : List Str := ["things"]
theorem sc_is_ahead : FnScope n_is_ahead ["things"] (defScope s_is_ahead) := ⟨rfl, rfl, rfl, by decide +kernel, rfl, by decide +kernel, by decide +kernel⟩
abbrev s_want_parts : Stmt := topS 20
abbrev n_want_parts : List Str := ["what", "becomes", "behind", "ahead"]
theorem sc_want_parts : FnScope n_want_parts ["what", "becomes", "behind", "ahead"] (defScope s_want_parts) := ⟨rfl, rfl, rfl, by decide +kernel, rfl, by decide +kernel, by decide +kernel⟩
abbrev s_sorted_places : Stmt := topS 21
abbrev n_sorted_places : List Str := ["places", "place"]
theorem sc_sorted_places : FnScope n_sorted_places ["places"] (defScope s_sorted_places) := ⟨rfl, rfl, rfl, by decide +kernel, rfl, by decide +kernel, by decide +kernel⟩
abbrev s_dotted : Stmt := topS 22
abbrev n_dotted : List Str := ["places"]
theorem sc_dotted : FnScope n_dotted ["places"] (defScope s_dotted) := ⟨rfl, rfl, rfl, by decide +kernel, rfl, by decide +kernel, by decide +kernel⟩
abbrev s_y_mixed : Stmt := topS 25
abbrev n_y_mixed : List Str := ["_law_cell", "_law_k", "_law_number"]
theorem sc_y_mixed : FnScope n_y_mixed ["_law_cell", "_law_k"] (defScope s_y_mixed) := ⟨rfl, rfl, rfl, by decide +kernel, rfl, by decide +kernel, by decide +kernel⟩
abbrev s_y_source : Stmt := topS 26
abbrev n_y_source : List Str := ["_law_cell"]
theorem sc_y_source : FnScope n_y_source ["_law_cell"] (defScope s_y_source) := ⟨rfl, rfl, rfl, by decide +kernel, rfl, by decide +kernel, by decide +kernel⟩
abbrev s_y_take : Stmt := topS 27
abbrev n_y_take : List Str := ["_law_source_here", "_law_many", "_law_found"]
theorem sc_y_take : FnScope n_y_take ["_law_source_here", "_law_many"] (defScope s_y_take) := ⟨rfl, rfl, rfl, by decide +kernel, rfl, by decide +kernel, by decide +kernel⟩
abbrev s_y_unlike : Stmt := topS 28
abbrev n_y_unlike : List Str := ["_law_source_here", "_law_many", "_law_rest", "_law_found", "_law_k", "_law_at"]
theorem sc_y_unlike : FnScope n_y_unlike ["_law_source_here", "_law_many"] (defScope s_y_unlike) := ⟨rfl, rfl, rfl, by decide +kernel, rfl, by decide +kernel, by decide +kernel⟩
abbrev s_y_places : Stmt := topS 29
abbrev n_y_places : List Str := ["_law_source_here", "_law_least", "_law_most", "_law_k"]
theorem sc_y_places : FnScope n_y_places ["_law_source_here", "_law_least", "_law_most"] (defScope s_y_places) := ⟨rfl, rfl, rfl, by decide +kernel, rfl, by decide +kernel, by decide +kernel⟩
abbrev s_y_bad_place : Stmt := topS 30
abbrev n_y_bad_place : List Str := ["_law_source_here", "_law_signs", "_law_at", "_law_other", "_law_some"]
theorem sc_y_bad_place : FnScope n_y_bad_place ["_law_source_here"] (defScope s_y_bad_place) := ⟨rfl, rfl, rfl, by decide +kernel, rfl, by decide +kernel, by decide +kernel⟩
abbrev s_y_with : Stmt := topS 31
abbrev n_y_with : List Str := ["_law_places_here", "_law_at", "_law_place"]
theorem sc_y_with : FnScope n_y_with ["_law_places_here", "_law_at", "_law_place"] (defScope s_y_with) := ⟨rfl, rfl, rfl, by decide +kernel, rfl, by decide +kernel, by decide +kernel⟩
abbrev s_y_bad_what : Stmt := topS 32
abbrev n_y_bad_what : List Str := ["_law_source_here", "_law_way", "_law_good", "_law_place"]
theorem sc_y_bad_what : FnScope n_y_bad_what ["_law_source_here"] (defScope s_y_bad_what) := ⟨rfl, rfl, rfl, by decide +kernel, rfl, by decide +kernel, by decide +kernel⟩
abbrev s_y_bad_put : Stmt := topS 33
abbrev n_y_bad_put : List Str := ["_law_source_here", "_law_signs", "_law_at", "_law_other", "_law_some"]
theorem sc_y_bad_put : FnScope n_y_bad_put ["_law_source_here"] (defScope s_y_bad_put) := ⟨rfl, rfl, rfl, by decide +kernel, rfl, by decide +kernel, by decide +kernel⟩
abbrev s_y_bad_beside : Stmt := topS 34
abbrev n_y_bad_beside : List Str := ["_law_source_here", "_law_edge_first", "_law_way", "_law_good", "_law_place", "_law_more"]
theorem sc_y_bad_beside : FnScope n_y_bad_beside ["_law_source_here", "_law_edge_first"] (defScope s_y_bad_beside) := ⟨rfl, rfl, rfl, by decide +kernel, rfl, by decide +kernel, by decide +kernel⟩
abbrev s_y_refused : Stmt := topS 35
abbrev n_y_refused : List Str := ["_law_ask", "e"]
theorem sc_y_refused : FnScope n_y_refused ["_law_ask"] (defScope s_y_refused) := ⟨rfl, rfl, rfl, by decide +kernel, rfl, by decide +kernel, by decide +kernel⟩
abbrev s_Rule_init : Stmt := inClass (topS 23) 0
abbrev n_Rule_init : List Str := ["self", "what", "becomes", "behind", "ahead"]
theorem sc_Rule_init : FnScope n_Rule_init ["self", "what", "becomes", "behind", "ahead"] (defScope s_Rule_init) := ⟨rfl, rfl, rfl, by decide +kernel, rfl, by decide +kernel, by decide +kernel⟩
abbrev s_Rule_put : Stmt := inClass (topS 23) 5
abbrev n_Rule_put : List Str := ["self"]
theorem sc_Rule_put : FnScope n_Rule_put ["self"] (defScope s_Rule_put) := ⟨rfl, rfl, rfl, by decide +kernel, rfl, by decide +kernel, by decide +kernel⟩
abbrev s_Rule_eq : Stmt := inClass (topS 23) 6
abbrev n_Rule_eq : List Str := ["self", "other"]
theorem sc_Rule_eq : FnScope n_Rule_eq ["self", "other"] (defScope s_Rule_eq) := ⟨rfl, rfl, rfl, by decide +kernel, rfl, by decide +kernel, by decide +kernel⟩
abbrev s_Rule_str : Stmt := inClass (topS 23) 7
abbrev n_Rule_str : List Str := ["self"]
theorem sc_Rule_str : FnScope n_Rule_str ["self"] (defScope s_Rule_str) := ⟨rfl, rfl, rfl, by decide +kernel, rfl, by decide +kernel, by decide +kernel⟩
abbrev s_y_law : Stmt := topS 36
abbrev n_y_law : List Str := ["_law_script", "_law_cell", "_law_source_here", "_law_which", "_law_good", "_law_bad", "_law_words", "_law_wrong", "_law_handed", "_law_k", "_law_some", "_law_edges", "_law_j"]
theorem sc_y_law : FnScope n_y_law ["_law_script"] (defScope s_y_law) := ⟨rfl, rfl, rfl, by decide +kernel, rfl, by decide +kernel, by decide +kernel⟩
structure Env (K : PySem.W.Frag) (mg : Str → Option Value) (base : Heap) : Type where
  f_is_text : Addr
  d_is_text : FuncData
  c_is_text : Addr
  F_is_text : FunC K "is_text" "is_text" s_is_text [] f_is_text d_is_text c_is_text
  g_is_text : mg "is_text" = some (.ref f_is_text)
  b_is_text : Binds K d_is_text ["thing"] []
  f_are_signs : Addr
  d_are_signs : FuncData
  c_are_signs : Addr
  F_are_signs : FunC K "are_signs" "are_signs" s_are_signs [] f_are_signs d_are_signs c_are_signs
  g_are_signs : mg "are_signs" = some (.ref f_are_signs)
  b_are_signs : Binds K d_are_signs ["thing", "least", "most"] []
  f_are_unlike_signs : Addr
  d_are_unlike_signs : FuncData
  c_are_unlike_signs : Addr
  F_are_unlike_signs : FunC K "are_unlike_signs" "are_unlike_signs" s_are_unlike_signs [] f_are_unlike_signs d_are_unlike_signs c_are_unlike_signs
  g_are_unlike_signs : mg "are_unlike_signs" = some (.ref f_are_unlike_signs)
  b_are_unlike_signs : Binds K d_are_unlike_signs ["thing", "most"] []
  f_is_place : Addr
  d_is_place : FuncData
  c_is_place : Addr
  F_is_place : FunC K "is_place" "is_place" s_is_place [] f_is_place d_is_place c_is_place
  g_is_place : mg "is_place" = some (.ref f_is_place)
  b_is_place : Binds K d_is_place ["thing"] []
  f_is_edge : Addr
  d_is_edge : FuncData
  c_is_edge : Addr
  F_is_edge : FunC K "is_edge" "is_edge" s_is_edge [] f_is_edge d_is_edge c_is_edge
  g_is_edge : mg "is_edge" = some (.ref f_is_edge)
  b_is_edge : Binds K d_is_edge ["thing"] []
  f_are_places : Addr
  d_are_places : FuncData
  c_are_places : Addr
  F_are_places : FunC K "are_places" "are_places" s_are_places [] f_are_places d_are_places c_are_places
  g_are_places : mg "are_places" = some (.ref f_are_places)
  b_are_places : Binds K d_are_places ["things"] []
  f_is_beside : Addr
  d_is_beside : FuncData
  c_is_beside : Addr
  F_is_beside : FunC K "is_beside" "is_beside" s_is_beside [] f_is_beside d_is_beside c_is_beside
  g_is_beside : mg "is_beside" = some (.ref f_is_beside)
  b_is_beside : Binds K d_is_beside ["things"] []
  f_is_behind : Addr
  d_is_behind : FuncData
  c_is_behind : Addr
  F_is_behind : FunC K "is_behind" "is_behind" s_is_behind [] f_is_behind d_is_behind c_is_behind
  g_is_behind : mg "is_behind" = some (.ref f_is_behind)
  b_is_behind : Binds K d_is_behind ["things"] []
  f_is_ahead : Addr
  d_is_ahead : FuncData
  c_is_ahead : Addr
  F_is_ahead : FunC K "is_ahead" "is_ahead" s_is_ahead [] f_is_ahead d_is_ahead c_is_ahead
  g_is_ahead : mg "is_ahead" = some (.ref f_is_ahead)
  b_is_ahead : Binds K d_is_ahead ["things"] []
  f_want_parts : Addr
  d_want_parts : FuncData
  c_want_parts : Addr
  F_want_parts : FunC K "want_parts" "want_parts" s_want_parts [] f_want_parts d_want_parts c_want_parts
  g_want_parts : mg "want_parts" = some (.ref f_want_parts)
  b_want_parts : Binds K d_want_parts ["what", "becomes", "behind", "ahead"] []
  f_sorted_places : Addr
  d_sorted_places : FuncData
  c_sorted_places : Addr
  F_sorted_places : FunC K "sorted_places" "sorted_places" s_sorted_places [] f_sorted_places d_sorted_places c_sorted_places
  g_sorted_places : mg "sorted_places" = some (.ref f_sorted_places)
  b_sorted_places : Binds K d_sorted_places ["places"] []
  f_dotted : Addr
  d_dotted : FuncData
  c_dotted : Addr
  F_dotted : FunC K "dotted" "dotted" s_dotted [] f_dotted d_dotted c_dotted
  g_dotted : mg "dotted" = some (.ref f_dotted)
  b_dotted : Binds K d_dotted ["places"] []
  f_y_mixed : Addr
  d_y_mixed : FuncData
  c_y_mixed : Addr
  F_y_mixed : FunC K "_law_mixed" "_law_mixed" s_y_mixed [] f_y_mixed d_y_mixed c_y_mixed
  g_y_mixed : mg "_law_mixed" = some (.ref f_y_mixed)
  b_y_mixed : Binds K d_y_mixed ["_law_cell", "_law_k"] []
  f_y_source : Addr
  d_y_source : FuncData
  c_y_source : Addr
  F_y_source : FunC K "_law_source" "_law_source" s_y_source [] f_y_source d_y_source c_y_source
  g_y_source : mg "_law_source" = some (.ref f_y_source)
  b_y_source : Binds K d_y_source ["_law_cell"] []
  f_y_take : Addr
  d_y_take : FuncData
  c_y_take : Addr
  F_y_take : FunC K "_law_take" "_law_take" s_y_take [] f_y_take d_y_take c_y_take
  g_y_take : mg "_law_take" = some (.ref f_y_take)
  b_y_take : Binds K d_y_take ["_law_source_here", "_law_many"] []
  f_y_unlike : Addr
  d_y_unlike : FuncData
  c_y_unlike : Addr
  F_y_unlike : FunC K "_law_unlike" "_law_unlike" s_y_unlike [] f_y_unlike d_y_unlike c_y_unlike
  g_y_unlike : mg "_law_unlike" = some (.ref f_y_unlike)
  b_y_unlike : Binds K d_y_unlike ["_law_source_here", "_law_many"] []
  f_y_places : Addr
  d_y_places : FuncData
  c_y_places : Addr
  F_y_places : FunC K "_law_places" "_law_places" s_y_places [] f_y_places d_y_places c_y_places
  g_y_places : mg "_law_places" = some (.ref f_y_places)
  b_y_places : Binds K d_y_places ["_law_source_here", "_law_least", "_law_most"] []
  f_y_bad_place : Addr
  d_y_bad_place : FuncData
  c_y_bad_place : Addr
  F_y_bad_place : FunC K "_law_bad_place" "_law_bad_place" s_y_bad_place [] f_y_bad_place d_y_bad_place c_y_bad_place
  g_y_bad_place : mg "_law_bad_place" = some (.ref f_y_bad_place)
  b_y_bad_place : Binds K d_y_bad_place ["_law_source_here"] []
  f_y_with : Addr
  d_y_with : FuncData
  c_y_with : Addr
  F_y_with : FunC K "_law_with" "_law_with" s_y_with [] f_y_with d_y_with c_y_with
  g_y_with : mg "_law_with" = some (.ref f_y_with)
  b_y_with : Binds K d_y_with ["_law_places_here", "_law_at", "_law_place"] []
  f_y_bad_what : Addr
  d_y_bad_what : FuncData
  c_y_bad_what : Addr
  F_y_bad_what : FunC K "_law_bad_what" "_law_bad_what" s_y_bad_what [] f_y_bad_what d_y_bad_what c_y_bad_what
  g_y_bad_what : mg "_law_bad_what" = some (.ref f_y_bad_what)
  b_y_bad_what : Binds K d_y_bad_what ["_law_source_here"] []
  f_y_bad_put : Addr
  d_y_bad_put : FuncData
  c_y_bad_put : Addr
  F_y_bad_put : FunC K "_law_bad_put" "_law_bad_put" s_y_bad_put [] f_y_bad_put d_y_bad_put c_y_bad_put
  g_y_bad_put : mg "_law_bad_put" = some (.ref f_y_bad_put)
  b_y_bad_put : Binds K d_y_bad_put ["_law_source_here"] []
  f_y_bad_beside : Addr
  d_y_bad_beside : FuncData
  c_y_bad_beside : Addr
  F_y_bad_beside : FunC K "_law_bad_beside" "_law_bad_beside" s_y_bad_beside [] f_y_bad_beside d_y_bad_beside c_y_bad_beside
  g_y_bad_beside : mg "_law_bad_beside" = some (.ref f_y_bad_beside)
  b_y_bad_beside : Binds K d_y_bad_beside ["_law_source_here", "_law_edge_first"] []
  f_y_refused : Addr
  d_y_refused : FuncData
  c_y_refused : Addr
  F_y_refused : FunC K "_law_refused" "_law_refused" s_y_refused [] f_y_refused d_y_refused c_y_refused
  g_y_refused : mg "_law_refused" = some (.ref f_y_refused)
  b_y_refused : Binds K d_y_refused ["_law_ask"] []
  f_Rule_init : Addr
  d_Rule_init : FuncData
  c_Rule_init : Addr
  F_Rule_init : FunC K "__init__" "Rule.__init__" s_Rule_init [.non, .non] f_Rule_init d_Rule_init c_Rule_init
  b3_Rule_init : ∃ ds, Vals ([.non, .non] : List V) ds ∧ Binds K d_Rule_init ["self", "what", "becomes", "behind", "ahead"] ds
  b4_Rule_init : ∃ ds, Vals ([.non] : List V) ds ∧ Binds K d_Rule_init ["self", "what", "becomes", "behind", "ahead"] ds
  b5_Rule_init : ∃ ds, Vals ([] : List V) ds ∧ Binds K d_Rule_init ["self", "what", "becomes", "behind", "ahead"] ds
  bk_Rule_init : ∃ its : List Value, KBn K d_Rule_init ["self", "what", "becomes", "behind", "ahead"] 1 ["ahead", "what", "behind", "becomes"] (fun us ws => Ms.perm4 us its ws) (fun vs zs => Ms.perm4 vs [.non, .non] zs)
  f_Rule_put : Addr
  d_Rule_put : FuncData
  c_Rule_put : Addr
  F_Rule_put : FunC K "put" "Rule.put" s_Rule_put [] f_Rule_put d_Rule_put c_Rule_put
  b_Rule_put : Binds K d_Rule_put ["self"] []
  f_Rule_eq : Addr
  d_Rule_eq : FuncData
  c_Rule_eq : Addr
  F_Rule_eq : FunC K "__eq__" "Rule.__eq__" s_Rule_eq [] f_Rule_eq d_Rule_eq c_Rule_eq
  b_Rule_eq : Binds K d_Rule_eq ["self", "other"] []
  f_Rule_str : Addr
  d_Rule_str : FuncData
  c_Rule_str : Addr
  F_Rule_str : FunC K "__str__" "Rule.__str__" s_Rule_str [] f_Rule_str d_Rule_str c_Rule_str
  b_Rule_str : Binds K d_Rule_str ["self"] []
  f_y_law : Addr
  d_y_law : FuncData
  c_y_law : Addr
  F_y_law : FunC K "law" "law" s_y_law [] f_y_law d_y_law c_y_law
  g_y_law : mg "law" = some (.ref f_y_law)
  b_y_law : Binds K d_y_law ["_law_script"] []
  P_y_law : Addr
  T_y_law : TabB base mg c_y_law P_y_law
  t_SIGNS : Tok
  v_SIGNS : mg "SIGNS" = some (.str "ABCDEFGHIJKLMNOPQRSTUVWXYZabcdefghijklmnopqrstuvwxyz" t_SIGNS)
  t_EDGE : Tok
  v_EDGE : mg "EDGE" = some (.str "|" t_EDGE)
  t_MOST_TAKEN : Tok
  v_MOST_TAKEN : mg "MOST_TAKEN" = some (.int 3 t_MOST_TAKEN)
  t_MOST_PUT : Tok
  v_MOST_PUT : mg "MOST_PUT" = some (.int 3 t_MOST_PUT)
  t_MOST_BESIDE : Tok
  v_MOST_BESIDE : mg "MOST_BESIDE" = some (.int 2 t_MOST_BESIDE)
  C_Rule : Addr
  g_Rule : mg "Rule" = some (.ref C_Rule)
  cl_Rule : Cls K C_Rule
  na_Rule_what : NoAttr K C_Rule "_what"
  na_Rule_becomes : NoAttr K C_Rule "_becomes"
  na_Rule_behind : NoAttr K C_Rule "_behind"
  na_Rule_ahead : NoAttr K C_Rule "_ahead"
  M_Rule : Mk K C_Rule f_Rule_init
  m_Rule_put : Meth K C_Rule "put" f_Rule_put
  m_Rule_eq : Meth K C_Rule "__eq__" f_Rule_eq
  m_Rule_str : Meth K C_Rule "__str__" f_Rule_str
  C_NoRule : Addr
  I_NoRule : Addr
  X_NoRule : PySem.Sx.Txt prg K mg "NoRule" "what" C_NoRule I_NoRule
  C_SeamError : Addr
  v_SeamError : mg "SeamError" = some (.ref C_SeamError)
  m_NoRule_SeamError : PySem.W.exmOne K (.ref C_NoRule) (.ref C_SeamError) = some true
  e_NoRule : ExcC K C_NoRule
  n_NoRule_NoRule : PySem.W.kitOne K (.ref C_NoRule) (.ref C_NoRule) = some true
  z_ValueError : mg "ValueError" = none
  z_all : mg "all" = none
  z_int : mg "int" = none
  z_isinstance : mg "isinstance" = none
  z_len : mg "len" = none
  z_list : mg "list" = none
  z_range : mg "range" = none
  z_set : mg "set" = none
  z_sorted : mg "sorted" = none
  z_str : mg "str" = none
variable {w : World} {K : PySem.W.Frag} {mg : Str → Option Value} {base : Heap}
abbrev P : Program := prg
abbrev Env.TL (T : Env K mg base) : List (Addr × Str) := [(T.P_y_law, "law.<locals>.<lambda>")]
theorem mem_y_law (T : Env K mg base) : (T.P_y_law, ("law.<locals>.<lambda>" : Str)) ∈ T.TL := by simp [Env.TL]
theorem hu_y_law (T : Env K mg base) : ∀ p ∈ T.TL, p.1 = T.P_y_law → p.2 = ("law.<locals>.<lambda>" : Str) := by
  intro p hp e
  simp only [Env.TL, List.mem_cons, List.not_mem_nil, or_false] at hp
  rcases hp with rfl
  · rfl

/-! The draws. -/
def spMixed : Sp := fun vs H Q _ => ∃ c k : Int, vs = [.int c, .int k] ∧ ∀ r : Int, 0 ≤ r → r < 2147483646 → Q (.int r) H
theorem ok_mixed (T : Env K mg base) : FnOk P w K mg base CX0 1 T.f_y_mixed T.d_y_mixed ["_law_cell", "_law_k"] spMixed := by
  refine T.F_y_mixed.ok sc_y_mixed (fun vs H Q E h => ?_) (fun A outer s H vs Q E hr h => ?_)
  · obtain ⟨c, k, rfl, _⟩ := h
    rfl
  · obtain ⟨c, k, rfl, q⟩ := h
    have nd := sc_y_mixed.nd
    refine ⟨_, pss_cons (ps_set (i := 2) nd rfl (.inl rfl) (pe_op op_modN (pe_op op_mul (pe_op op_add (pe_op op_modN (pv 0) pe_int) pe_int) (pe_op op_add (pe_op op_mul (pv 1) pe_int) pe_int)) pe_int))
      (pss_cons (ps_set (i := 2) nd rfl (.inl rfl) (pe_op op_modN (pe_op op_mul (pe_op op_add (pv 2) (pe_op op_mul (pe_op op_modN (pe_op op_fdivW (pv 0) pe_int) pe_int) (pe_op op_add (pv 1) pe_int))) pe_int) pe_int))
      (pss_cons (ps_set (i := 2) nd rfl (.inl rfl) (pe_op op_modN (pe_op op_mul (pv 2) (pe_op op_add (pe_op op_add (pe_op op_fdivN (pv 2) pe_int) pe_int) (pv 1))) pe_int))
      (pss_one (ps_ret (pe_op op_modN (pe_op op_mul (pv 2) (pe_op op_add (pe_op op_fdivN (pv 2) pe_int) pe_int)) pe_int))))), ?_⟩
    refine ⟨_, rfl, _, _, rfl, rfl, (by show (_ : Int) ≠ 0; decide), _, _, rfl, rfl, _, rfl, _, _, rfl, rfl, .inr ⟨by decide, by decide⟩, _, _, rfl, rfl, _, _, rfl, rfl, .inl ?b1, _, _, rfl, rfl, (by show (_ : Int) ≠ 0; decide), ?_⟩
    case b1 =>
      refine bnd1 c ?_ ?_ <;> decide
    refine ⟨_, rfl, _, rfl, _, _, rfl, rfl, ⟨by decide, by decide⟩, _, _, rfl, rfl, (by show (_ : Int) ≠ 0; decide), _, rfl, _, _, rfl, rfl, _, _, rfl, rfl, .inl ?b2, _, _, rfl, rfl, _, _, rfl, rfl, .inr ⟨by decide, by decide⟩, _, _, rfl, rfl, (by show (_ : Int) ≠ 0; decide), ?_⟩
    case b2 =>
      refine bnd0 _ ?_ ?_ <;> decide
    refine ⟨_, rfl, _, rfl, _, _, rfl, rfl, ⟨by decide, by decide⟩, _, _, rfl, rfl, _, rfl, _, _, rfl, rfl, _, _, rfl, rfl, .inl ?b3, _, _, rfl, rfl, (by show (_ : Int) ≠ 0; decide), ?_⟩
    case b3 =>
      refine bnd0 _ ?_ ?_ <;> decide
    refine ⟨_, rfl, _, rfl, _, _, rfl, rfl, ⟨by decide, by decide⟩, _, _, rfl, rfl, _, _, rfl, rfl, .inl ?b4, _, _, rfl, rfl, (by show (_ : Int) ≠ 0; decide), ?_⟩
    case b4 =>
      refine bnd0 _ ?_ ?_ <;> decide
    refine q _ (fm _ (by decide)).1 (Int.lt_of_lt_of_le (fm _ (by decide)).2 (by decide))
def spSource : Sp := fun vs H Q _ => ∃ c : Int, vs = [.int c] ∧ ∀ p, H p = none → ∀ H', Same H H' → Src H' p → Q (.ref p) H'
theorem ok_source (T : Env K mg base) : FnOk P w K mg base CX0 1 T.f_y_source T.d_y_source ["_law_cell"] spSource := by
  refine T.F_y_source.ok sc_y_source (fun vs H Q E h => ?_) (fun A outer s H vs Q E hr h => ?_)
  · obtain ⟨c, rfl, _⟩ := h
    rfl
  · obtain ⟨c, rfl, q⟩ := h
    refine ⟨_, pss_one (ps_ret (pe_lst (pa_cons (pv 0) (pa_cons (pv 0) (pa_cons pe_int pa_nil))))), ?_⟩
    refine ⟨_, rfl, _, rfl, by show 3 ≤ sizeLine; decide, fun p hp => ?_⟩
    exact q p hp _ (same_upd hp) ⟨_, _, _, upd_same⟩
def spTake : Sp := fun vs H Q _ => ∃ (a : Addr) (m : Int), vs = [.ref a, .int m] ∧ Src H a ∧ 0 < m ∧ m < 1073741824 ∧ ∀ (r : Int) H', 0 ≤ r → r < m → Src H' a → But a H H' → Q (.int r) H'
theorem ok_take (T : Env K mg base) : FnOk P w K mg base CX0 2 T.f_y_take T.d_y_take ["_law_source_here", "_law_many"] spTake := by
  refine T.F_y_take.ok sc_y_take (fun vs H Q E h => ?_) (fun A outer s H vs Q E hr h => ?_)
  · obtain ⟨a, m, rfl, _⟩ := h
    rfl
  · obtain ⟨a, m, rfl, ⟨x, c, n, ha⟩, m0, m1, q⟩ := h
    have nd := sc_y_take.nd
    have mz : m ≠ 0 := by omega
    refine ⟨_, pss_cons (ps_if (pt_cmpR op_ge (pe_ix ix_list (pv 0) pe_int (fun _ _ => rfl)) (pe_op op_pow pe_int pe_int) (nomark _))
        (pss_cons (ps_set (i := 2) nd rfl (.inl rfl) (pe_op op_modN (pe_ix ix_list (pv 0) pe_int (fun _ _ => rfl)) (pv 1)))
          (pss_cons (ps_asg (pe_op op_fdivN (pe_ix ix_list (pv 0) pe_int (fun _ _ => rfl)) (pv 1)) (pg_sub (pv 0) pe_int set_list)) (pss_one (ps_ret (pv 2))))) pss_nil)
      (pss_cons (ps_asg (pe_op op_add (pe_ix ix_list (pv 0) pe_int (fun _ _ => rfl)) pe_int) (pg_sub (pv 0) pe_int set_list))
      (pss_one (ps_ret (pe_op op_modN (pe_call (ok_mixed T) hr (by rfl) T.g_y_mixed T.F_y_mixed.kp T.b_y_mixed .nil pass0 (pa_cons (pe_ix ix_list (pv 0) pe_int (fun _ _ => rfl)) (pa_cons (pe_ix ix_list (pv 0) pe_int (fun _ _ => rfl)) pa_nil))) (pv 1))))), ?_⟩
    refine ⟨_, rfl, a, _, _, _, rfl, rfl, SqL.of ha, atI_nat (j := 0) rfl, _, _, rfl, rfl, ⟨by decide, by decide, by decide⟩, _, _, rfl, rfl, _, rfl, ite2 (fun _ => ?_) (fun _ => ?_)⟩
    · refine ⟨_, rfl, a, _, _, _, rfl, rfl, SqL.of ha, atI_nat (j := 0) rfl, _, rfl, _, _, rfl, rfl, mz, ?_⟩
      refine ⟨_, rfl, a, _, _, _, rfl, rfl, SqL.of ha, atI_nat (j := 0) rfl, _, rfl, _, _, rfl, rfl, ⟨mz, by omega⟩, _, rfl, a, _, _, 0, rfl, rfl, ha, rfl, ?_⟩
      refine ⟨_, rfl, ?_⟩
      exact q _ _ (fm _ m0).1 (fm _ m0).2 ⟨_, _, _, upd_same⟩ But.upd
    · refine ⟨_, rfl, a, _, _, _, rfl, rfl, SqL.of ha, atI_nat (j := 2) rfl, _, _, rfl, rfl, _, rfl, a, _, _, 2, rfl, rfl, ha, rfl, ?_⟩
      refine ⟨_, rfl, a, _, _, _, rfl, rfl, SqL.of upd_same, atI_nat (j := 1) rfl, _, rfl, a, _, _, _, rfl, rfl, SqL.of upd_same, atI_nat (j := 2) rfl, ?_⟩
      refine ⟨_, _, rfl, fun r _ _ => ⟨_, rfl, _, _, rfl, rfl, mz, ?_⟩⟩
      exact q _ _ (fm _ m0).1 (fm _ m0).2 ⟨_, _, _, upd_same⟩ But.upd

/-! signs, letters, words: what is let by -/
abbrev SG : List Nat := sg "ABCDEFGHIJKLMNOPQRSTUVWXYZabcdefghijklmnopqrstuvwxyz"
/-- a thing that is no text -/
inductive Oth (s : Addr) (H : Hp) : V → Prop
  | non : Oth s H .non
  | int (i : Int) : Oth s H (.int i)
  | bl (b : Bool) : Oth s H (.bl b)
  | lst {a : Addr} {xs : List V} (n : a ≠ s) (h : H a = some (.lst xs)) : Oth s H (.ref a)
  | tup {a : Addr} {xs : List V} (n : a ≠ s) (h : H a = some (.tup xs)) : Oth s H (.ref a)
theorem Oth.ext {s : Addr} {H H' : Hp} {v : V} (h : Oth s H v) (k : ∀ b o, b ≠ s → H b = some o → (∀ ps, o ≠ .tbl ps) → H' b = some o) : Oth s H' v := by
  cases h with
  | non => exact .non
  | int i => exact .int i
  | bl b => exact .bl b
  | lst n e => exact .lst n (k _ _ n e fun _ z => by cases z)
  | tup n e => exact .tup n (k _ _ n e fun _ z => by cases z)
theorem Oth.ty {s : Addr} {H : Hp} {v : V} (h : Oth s H v) : ∃ t, TyX K H v t ∧ PySem.W.kitOne K t (.type "str") = some false := by
  cases h with
  | non => exact ⟨_, .base .non, kit_ty (by decide +kernel)⟩
  | int i => exact ⟨_, .base (.int i), kit_ty (by decide +kernel)⟩
  | bl b => exact ⟨_, .base (.bl b), kit_ty (by decide +kernel)⟩
  | lst n e => exact ⟨_, .base (.lst e), kit_ty (by decide +kernel)⟩
  | tup n e => exact ⟨_, .base (.tup e), kit_ty (by decide +kernel)⟩
/-- a text, or none -/
inductive IsT (s : Addr) (H : Hp) : V → Option (List Nat) → Prop
  | no {v : V} (h : Oth s H v) : IsT s H v none
  | yes {z : List Nat} (h : z.length ≤ 4000) : IsT s H (.str (ofL z)) (some z)
theorem IsT.ext {s : Addr} {H H' : Hp} {v : V} {tz : Option (List Nat)} (h : IsT s H v tz) (k : ∀ b o, b ≠ s → H b = some o → (∀ ps, o ≠ .tbl ps) → H' b = some o) : IsT s H' v tz := by
  cases h with
  | no h => exact .no (h.ext k)
  | yes h => exact .yes h
theorem IsT.same {s : Addr} {H H' : Hp} {v : V} {tz : Option (List Nat)} (h : IsT s H v tz) (k : Same H H') : IsT s H' v tz := h.ext fun b o _ e _ => k b o e
theorem IsT.but {s : Addr} {H H' : Hp} {v : V} {tz : Option (List Nat)} (h : IsT s H v tz) (k : But s H H') : IsT s H' v tz := h.ext fun b o n e _ => k b o n e
theorem IsT.extN {s : Addr} {H H' : Hp} {v : V} {tz : Option (List Nat)} (h : IsT s H v tz) (k : ExtN H H') : IsT s H' v tz := h.ext fun b o _ e n => k b o e n
/-- letters, as they ought to be -/
def Good (z : List Nat) : Prop := 1 ≤ z.length ∧ z.length ≤ 16 ∧ z.Nodup ∧ ∀ c ∈ z, c ∈ SG
instance (z : List Nat) : Decidable (Good z) := by unfold Good; infer_instance
/-- what is due of a thing -/
def ans (A : List Nat) : Option (List Nat) → Str × V
  | none => ("word", .int (-1))
  | some z => match z.findIdx? (fun c => decide (c ∉ A)) with | some i => ("word", .int (i : Nat)) | none => ("told", .non)
abbrev CXe (w : World) : CXT := L2.CX P w
def spAre : Sp := fun vs H Q _ => ∃ (s : Addr) (v : V) (tz : Option (List Nat)) (lo hi : Int), vs = [v, .int lo, .int hi] ∧ IsT s H v tz ∧ ∀ b : Bool, (b = true ↔ ∃ z, tz = some z ∧ lo ≤ z.length ∧ (z.length : Int) ≤ hi ∧ ∀ c ∈ z, c ∈ SG) → ∀ H', Same H H' → Q (.bl b) H'
theorem alpha_sg : ∀ c : Nat, c < 128 → (Unicode.isAlpha c = true ↔ c ∈ SG) := by
  have h : ∀ c ∈ List.range 128, (Unicode.isAlpha c = decide (c ∈ SG)) := by decide +kernel
  intro c hc
  rw [h c (List.mem_range.mpr hc), decide_eq_true_iff]
theorem ascii_iff (z : List Nat) : Txt.isascii (ofL z) = true ↔ ∀ c ∈ z, c < 128 := by
  show z.toArray.all (fun c => decide (c < 128)) = true ↔ _
  rw [List.all_toArray, List.all_eq_true]
  exact ⟨fun h c hc => of_decide_eq_true (h c hc), fun h c hc => decide_eq_true (h c hc)⟩
theorem isalpha_iff (z : List Nat) : Txt.isalpha (ofL z) = true ↔ z ≠ [] ∧ ∀ c ∈ z, Unicode.isAlpha c = true := by
  show (decide ((ofL z).length > 0) && z.toArray.all Unicode.isAlpha) = true ↔ _
  rw [List.all_toArray, Bool.and_eq_true, List.all_eq_true, decide_eq_true_iff, ofL_len]
  refine ⟨fun ⟨a, b⟩ => ⟨fun e => by rw [e] at a; exact absurd a (by decide), b⟩, fun ⟨a, b⟩ => ⟨List.length_pos_iff.mpr a, b⟩⟩
theorem sg_small : ∀ c ∈ SG, c < 128 := by decide +kernel
theorem sgs_iff {z : List Nat} (h : z ≠ []) : (Txt.isascii (ofL z) = true ∧ Txt.isalpha (ofL z) = true) ↔ ∀ c ∈ z, c ∈ SG := by
  rw [ascii_iff, isalpha_iff]
  refine ⟨fun ⟨a, _, b⟩ c hc => (alpha_sg c (a c hc)).mp (b c hc), fun g => ⟨fun c hc => sg_small c (g c hc), h, fun c hc => (alpha_sg c (sg_small c (g c hc))).mpr (g c hc)⟩⟩
def spIsText : Sp := fun vs H Q _ => ∃ (s : Addr) (v : V) (tz : Option (List Nat)), vs = [v] ∧ IsT s H v tz ∧ ∀ b : Bool, (b = true ↔ ∃ z, tz = some z ∧ ∀ c ∈ z, c ∈ SG) → Q (.bl b) H
theorem ok_is_text (T : Env K mg base) : FnOk P w K mg base CX0 1 T.f_is_text T.d_is_text ["thing"] spIsText := by
  refine T.F_is_text.ok sc_is_text (fun vs H Q E h => ?_) (fun A outer s H vs Q E hr h => ?_)
  · obtain ⟨s, v, tz, rfl, _⟩ := h
    rfl
  · obtain ⟨s, v, tz, rfl, ht, q⟩ := h
    refine ⟨_, (pss_one (ps_ret (pe_and (pe_callB call_isi (by rfl) T.z_isinstance boot_isinstance (pa_cons (pv 0) (pa_cons (pe_bltn (v := .ty "str") (by rfl) T.z_str PyProof.Rows.boot_str rfl) pa_nil))) (pe_one (pe_or (pe_cmpR op_eq (pv 0) pe_str (nomark _)) (pe_one (pe_and (pe_m0 PySem.F.slot_str_isascii PySem.F.type_str_isascii mt_isascii (pv 0)) (pe_one (pe_m0 PySem.F.slot_str_isalpha PySem.F.type_str_isalpha mt_isalpha (pv 0)))))))))), ?_⟩
    cases ht with
    | no ho =>
      obtain ⟨t, h1, h2⟩ := ho.ty (K := K)
      refine ⟨_, rfl, _, _, _, _, _, rfl, .ty "str", h1, h2, ?_⟩
      exact ⟨_, rfl, iteF (q _ (by simp))⟩
    | @yes z hz =>
      refine ⟨_, rfl, _, _, _, _, _, rfl, .ty "str", .base (.str _), rfl, _, rfl, iteT ?_⟩
      refine ⟨_, rfl, rfl, _, rfl, ?_⟩
      by_cases hz0 : z = []
      · subst hz0
        rw [decide_eq_true (show V.str (ofL []) = V.str (Str.ofString "") from rfl)]
        exact iteT (q _ ⟨fun _ => ⟨[], rfl, fun _ h => (nomatch h)⟩, fun _ => rfl⟩)
      · rw [decide_eq_false (fun e => hz0 (congrArg sg (V.str.inj e)))]
        refine iteF ⟨_, rfl, ⟨_, rfl⟩, _, rfl, rfl, trivial, _, rfl, ?_⟩
        cases ea : Txt.isascii (ofL z) with
        | false =>
          refine iteF (q _ ⟨fun h => (by cases h), fun ⟨z', e', h⟩ => ?_⟩)
          cases e'
          rw [((sgs_iff hz0).mpr h).1] at ea
          cases ea
        | true =>
          refine iteT ⟨_, rfl, ⟨_, rfl⟩, _, rfl, rfl, trivial, q _ ⟨fun h => ⟨z, rfl, (sgs_iff hz0).mp ⟨ea, h⟩⟩, fun ⟨z', e', h⟩ => ?_⟩⟩
          cases e'
          exact ((sgs_iff hz0).mpr h).2
theorem ok_are_signs (T : Env K mg base) : FnOk P w K mg base CX0 2 T.f_are_signs T.d_are_signs ["thing", "least", "most"] spAre := by
  refine T.F_are_signs.ok sc_are_signs (fun vs H Q E h => ?_) (fun A outer s H vs Q E hr h => ?_)
  · obtain ⟨s, v, tz, lo, hi, rfl, _⟩ := h
    rfl
  · obtain ⟨s, v, tz, lo, hi, rfl, ht, q⟩ := h
    refine ⟨_, (pss_one (ps_ret (pe_and (pe_call (ok_is_text T) (hr.mono (by decide)) (by rfl) T.g_is_text T.F_is_text.kp T.b_is_text .nil pass0 (pa_cons (pv 0) pa_nil)) (pe_one (pe_chain op_le op_le (pv 1) (pe_callB call_len_str (by rfl) T.z_len PySem.boot_len (pa_cons (pv 0) pa_nil)) (pv 2)))))), ?_⟩
    refine ⟨_, rfl, s, v, tz, rfl, ht, fun b hb => ⟨b, rfl, ?_⟩⟩
    cases b with
    | false => exact iteF (q _ ⟨fun z => (by cases z), fun ⟨z, e, _, _, h⟩ => hb.mpr ⟨z, e, h⟩⟩ _ (Same.refl _))
    | true =>
      obtain ⟨z, rfl, hsg⟩ := hb.mp rfl
      cases ht with
      | yes hz =>
        refine iteT ⟨_, rfl, _, rfl, _, rfl, by rw [ofL_len, sizeLine_eq]; omega, _, _, rfl, rfl, _, rfl, ?_⟩
        rw [ofL_len]
        by_cases h1 : lo ≤ (z.length : Int)
        · rw [decide_eq_true h1]
          refine iteT ⟨_, rfl, _, _, rfl, rfl, q _ ⟨fun h => ⟨z, rfl, h1, of_decide_eq_true h, hsg⟩, fun ⟨z', e', _, h3, _⟩ => ?_⟩ _ (Same.refl _)⟩
          cases e'
          exact decide_eq_true h3
        · rw [decide_eq_false h1]
          refine iteF (q _ ⟨fun z => (by cases z), fun ⟨z', e', h3, _⟩ => ?_⟩ _ (Same.refl _))
          cases e'
          exact absurd h3 h1
def spUnlike : Sp := fun vs H Q _ => ∃ (s : Addr) (v : V) (tz : Option (List Nat)) (hi : Int), vs = [v, .int hi] ∧ IsT s H v tz ∧ ∀ b : Bool, (b = true ↔ ∃ z, tz = some z ∧ 1 ≤ z.length ∧ (z.length : Int) ≤ hi ∧ z.Nodup ∧ ∀ c ∈ z, c ∈ SG) → ∀ H', Same H H' → Q (.bl b) H'
theorem ok_are_unlike_signs (T : Env K mg base) : FnOk P w K mg base CX0 3 T.f_are_unlike_signs T.d_are_unlike_signs ["thing", "most"] spUnlike := by
  refine T.F_are_unlike_signs.ok sc_are_unlike_signs (fun vs H Q E h => ?_) (fun A outer s H vs Q E hr h => ?_)
  · obtain ⟨s, v, tz, hi, rfl, _⟩ := h
    rfl
  · obtain ⟨s, v, tz, hi, rfl, ht, q⟩ := h
    refine ⟨_, pss_one (ps_ret (pe_and (pe_call (ok_are_signs T) (hr.mono (by decide)) (by rfl) T.g_are_signs T.F_are_signs.kp T.b_are_signs .nil pass0 (pa_cons (pv 0) (pa_cons pe_int (pa_cons (pv 1) pa_nil)))) <|
      pe_one (pe_cmpR op_eq (Ms.pe_lst_set (by rfl) T.z_len (by rfl) T.z_set (pv 0)) (pe_callB call_len_str (by rfl) T.z_len PySem.boot_len (pa_cons (pv 0) pa_nil)) (nomark _)))), ?_⟩
    refine ⟨_, rfl, _, rfl, s, v, tz, 1, hi, rfl, ht, fun b hb H1 s1 => ⟨b, rfl, ?_⟩⟩
    cases b with
    | false =>
      refine iteF (q _ ⟨fun z => (by cases z), fun ⟨z, e, h1, h2, _, h3⟩ => ?_⟩ _ s1)
      exact hb.mpr ⟨z, e, by omega, h2, h3⟩
    | true =>
      obtain ⟨z, rfl, h1, h2, h3⟩ := hb.mp rfl
      cases ht with
      | yes hz =>
        refine iteT ⟨_, rfl, _, rfl, by rw [ofL_len]; exact hz, fun m hm hd => ?_⟩
        refine ⟨_, rfl, _, rfl, by rw [ofL_len, sizeLine_eq]; omega, rfl, ?_⟩
        rw [ofL_len] at hm hd ⊢
        refine q _ ⟨fun h => ⟨z, rfl, by omega, h2, ?_, h3⟩, fun ⟨z', e', _, _, h4, _⟩ => ?_⟩ _ s1
        · have h := of_decide_eq_true h
          exact hd.mp (by injection h with h; omega)
        · cases e'
          have := hd.mpr h4
          rw [this]
          exact decide_eq_true rfl

theorem S_app (x y : List Nat) : ofL x ++ ofL y = ofL (x ++ y) := ext_sg (sg_app _ _)
theorem pull {l r : List Nat} {i : Nat} {c : Nat} (h : r[i]? = some c) : ((l ++ [c]) ++ (r.take i ++ r.drop (i + 1))).Perm (l ++ r) := by
  obtain ⟨hi, e⟩ := List.getElem?_eq_some_iff.mp h
  rw [List.append_assoc]
  refine List.Perm.append_left l ?_
  have e2 : r = r.take i ++ c :: r.drop (i + 1) := by
    rw [← e, List.getElem_cons_drop, List.take_append_drop]
  conv => rhs; rw [e2]
  exact (List.perm_middle (a := c) (l₁ := r.take i) (l₂ := r.drop (i + 1))).symm
def spUnl : Sp := fun vs H Q _ => ∃ (a : Addr) (m : Int), vs = [.ref a, .int m] ∧ Src H a ∧ 0 ≤ m ∧ m ≤ 17 ∧ ∀ (l : List Nat) H', (l.length : Int) = m → l.Nodup → (∀ c ∈ l, c ∈ SG) → Src H' a → But a H H' → Q (.str (ofL l)) H'
theorem ok_unlike (T : Env K mg base) : FnOk P w K mg base CX0 3 T.f_y_unlike T.d_y_unlike ["_law_source_here", "_law_many"] spUnl := by
  refine T.F_y_unlike.ok sc_y_unlike (fun vs H Q E h => ?_) (fun A outer s H vs Q E hr h => ?_)
  · obtain ⟨a, m, rfl, _⟩ := h
    rfl
  · obtain ⟨a, m, rfl, hS, m0, m1, q⟩ := h
    have nd := sc_y_unlike.nd
    refine ⟨_, pss_cons (ps_set (i := 2) nd rfl (.inl rfl) pe_str) <|
      pss_cons (ps_set (i := 3) nd rfl (.inl rfl) pe_str) <|
      pss_cons (ps_for PassesOwn.never rfl (pi_range1 rfl T.z_range (pa_cons (pv 1) pa_nil)) (pg_name (i := 4) nd rfl (.inl rfl))
        (pss_cons (ps_set (i := 5) nd rfl (.inl rfl) (pe_call (ok_take T) (hr.mono (by decide)) (by rfl) T.g_y_take T.F_y_take.kp T.b_y_take .nil pass0 (pa_cons (pv 0) (pa_cons (pe_callB call_len_str (by rfl) T.z_len PySem.boot_len (pa_cons (pv 2) pa_nil)) pa_nil)))) <|
         pss_cons (ps_set (i := 3) nd rfl (.inl rfl) (pe_op op_add_str (pv 3) (pe_item_str (pv 2) (pv 5) (fun _ _ => rfl)))) <|
         pss_one (ps_set (i := 2) nd rfl (.inl rfl) (pe_op op_add_str (pe_slice sl_str (pv 2) po_none (po_some (pv 5))) (pe_slice sl_str (pv 2) (po_some (pe_op op_add (pv 5) pe_int)) po_none))))) <|
      pss_one (ps_ret (pv 3)), ?_⟩
    refine ⟨_, rfl, m, rfl, by omega, by omega, ?_⟩
    refine for_range (lo := 0) (n := m.toNat) (fun i σ H' => ∃ l r u v, σ = [some (.ref a), some (.int m), some (.str (ofL r)), some (.str (ofL l)), u, v] ∧ l.length = i ∧ (l ++ r).Perm SG ∧ Src H' a ∧ But a H H')
      ⟨[], SG, none, none, rfl, rfl, List.Perm.refl _, hS, But.refl _ _⟩ (fun i σ H2 hi hP => ?_) (fun σ H2 hP => ?_)
    · obtain ⟨l, r, u, v, rfl, el, hp, hS2, b2⟩ := hP
      have lr : l.length + r.length = 52 := by
        have := hp.length_eq
        rw [List.length_append] at this
        rw [this]
        decide +kernel
      refine ⟨_, rfl, _, rfl, _, rfl, by rw [ofL_len, sizeLine_eq]; omega, a, _, rfl, hS2, by rw [ofL_len]; omega, by rw [ofL_len]; omega, fun r' H3 q0 q1 hS3 b3 => ?_⟩
      rw [ofL_len] at q1
      obtain ⟨j, rfl⟩ := Int.eq_ofNat_of_zero_le q0
      have hj : j < r.length := by omega
      have ej : r[j]? = some r[j] := List.getElem?_eq_getElem hj
      refine ⟨_, rfl, _, rfl, _, rfl, ofL r, j, r[j], rfl, rfl, q0, by omega, by rw [ofL_len]; exact q1, by rw [cps_get, sg_ofL]; exact ej, ?_⟩
      refine ⟨_, _, rfl, rfl, by rw [ofL_len, sizeLine_eq]; show l.length + 1 ≤ _; omega, ?_⟩
      have sz : (ofL r).length ≤ sizeLine := by rw [ofL_len, sizeLine_eq]; omega
      refine ⟨_, rfl, _, rfl, _, rfl, ofL r, rfl, sz, ?_⟩
      refine ⟨_, rfl, _, rfl, _, _, rfl, rfl, _, rfl, ofL r, rfl, sz, ?_⟩
      rw [show ((j : Int) + 1) = ((j + 1 : Nat) : Int) from rfl, cut_to, cut_from, sg_ofL]
      refine ⟨_, _, rfl, rfl, by rw [ofL_len, ofL_len, List.length_take, List.length_drop, sizeLine_eq]; omega, ?_⟩
      rw [S_app]
      refine ⟨l ++ [r[j]], r.take j ++ r.drop (j + 1), some (.int (0 + (i : Nat))), some (.int (j : Nat)), ?_, by rw [List.length_append, el]; rfl, (pull ej).trans hp, hS3, b2.trans b3⟩
      rw [← S_app l [r[j]]]
      rfl
    · obtain ⟨l, r, u, v, rfl, el, hp, hS2, b2⟩ := hP
      have nd2 : (l ++ r).Nodup := hp.nodup_iff.mpr (by decide +kernel)
      refine ⟨_, rfl, q l H2 (by omega) (List.nodup_append.mp nd2).1 (fun c hc => hp.mem_iff.mp (List.mem_append_left _ hc)) hS2 b2⟩

/-! rules: good ones -/
/-- a place: unlike signs, one at least -/
def Pl (z : List Nat) : Prop := 1 ≤ z.length ∧ z.length ≤ 52 ∧ z.Nodup ∧ ∀ c ∈ z, c ∈ SG
abbrev EDG : List Nat := [124]
theorem edg_eq : (Str.ofString "|") = ofL EDG := rfl
theorem edg_no : (124 : Nat) ∉ SG := by decide +kernel
/-- places, the edge perhaps among them -/
def PlE (z : List Nat) : Prop := Pl z ∨ z = EDG
abbrev tx (zs : List (List Nat)) : List V := zs.map fun z => V.str (ofL z)
theorem sg_len52 : SG.length = 52 := by decide +kernel
instance (z : List Nat) : Decidable (Pl z) := by unfold Pl; infer_instance
theorem tx_at {zs : List (List Nat)} {i : Nat} {v : V} (h : (tx zs)[i]? = some v) : ∃ z, zs[i]? = some z ∧ v = .str (ofL z) := by
  rw [List.getElem?_map] at h
  cases e : zs[i]? with
  | none => rw [e] at h; cases h
  | some z => rw [e] at h; exact ⟨z, rfl, (Option.some.inj h).symm⟩
theorem tx_len (zs : List (List Nat)) : (tx zs).length = zs.length := List.length_map _
theorem small1 {n : Nat} (h : n ≤ 5000) : n < sizeLine := by rw [sizeLine_eq]; omega
theorem small2 {n : Nat} (h : n ≤ 5000) : n ≤ sizeLine := by rw [sizeLine_eq]; omega
theorem map_take_snoc {α β : Type} {xs : List α} {f : α → β} {i : Nat} {x : α} (h : xs[i]? = some x) : (xs.take (i + 1)).map f = (xs.take i).map f ++ [f x] := by
  rw [List.take_add_one, h, List.map_append]
  rfl
theorem cv_from (xs : List V) (n : Nat) : cutV xs (some (n : Int)) none = xs.drop n := by
  unfold cutV
  rw [HT.sIx_none, HT.sIx_nat]
  by_cases h : n ≤ xs.length
  · rw [Nat.min_eq_left h, ← List.length_drop, List.take_length]
  · have e : xs.length ≤ n := by omega
    rw [Nat.min_eq_right e, Nat.sub_self, List.take_zero, List.drop_eq_nil_of_le e]
theorem cv_to (xs : List V) (n : Nat) : cutV xs none (some (n : Int)) = xs.take n := by
  unfold cutV
  rw [HT.sIx_none, HT.sIx_nat, List.drop_zero, Nat.sub_zero, ← List.take_eq_take_min]
theorem cv_last (xs : List V) : cutV xs none (some (-1)) = xs.dropLast := by
  unfold cutV
  rw [HT.sIx_none, List.drop_zero, Nat.sub_zero, List.dropLast_eq_take]
  have e : HT.sIx xs.length xs.length (some (-1)) = xs.length - 1 := by
    show (if (-1 : Int) < 0 then ((-1 : Int) + (xs.length : Int)).toNat else min (-1 : Int).toNat xs.length) = _
    rw [if_pos (by decide)]
    omega
  rw [e]
theorem pl_ne {z : List Nat} (h : Pl z) : z ≠ EDG := by
  rintro rfl
  exact edg_no (h.2.2.2 124 List.mem_cons_self)

theorem pr_get {α β : Type} {R : α → β → Prop} : ∀ {xs : List α} {ts : List β} {i : Nat} {x : α}, Paired R xs ts → xs[i]? = some x → ∃ t, ts[i]? = some t ∧ R x t
  | _, _, 0, _, .cons r _, e => by cases e; exact ⟨_, rfl, r⟩
  | _, _, i + 1, x, .cons _ t, e => pr_get (i := i) t e
theorem pr_len {α β : Type} {R : α → β → Prop} : ∀ {xs : List α} {ts : List β}, Paired R xs ts → xs.length = ts.length
  | _, _, .nil => rfl
  | _, _, .cons _ t => congrArg Nat.succ (pr_len t)
theorem pr_map {α β : Type} {R S : α → β → Prop} (f : ∀ x t, R x t → S x t) : ∀ {xs : List α} {ts : List β}, Paired R xs ts → Paired S xs ts
  | _, _, .nil => .nil
  | _, _, .cons r t => .cons (f _ _ r) (pr_map f t)
theorem pr_app {α β : Type} {R : α → β → Prop} : ∀ {xs ys : List α} {ts us : List β}, Paired R xs ts → Paired R ys us → Paired R (xs ++ ys) (ts ++ us)
  | _, _, _, _, .nil, h => h
  | _, _, _, _, .cons r t, h => .cons r (pr_app t h)
theorem pr_take {α β : Type} {R : α → β → Prop} : ∀ {xs : List α} {ts : List β} (n : Nat), Paired R xs ts → Paired R (xs.take n) (ts.take n)
  | _, _, 0, _ => .nil
  | _, _, _ + 1, .nil => .nil
  | _, _, n + 1, .cons r t => .cons r (pr_take n t)
theorem pr_drop {α β : Type} {R : α → β → Prop} : ∀ {xs : List α} {ts : List β} (n : Nat), Paired R xs ts → Paired R (xs.drop n) (ts.drop n)
  | _, _, 0, h => h
  | _, _, _ + 1, .nil => .nil
  | _, _, n + 1, .cons _ t => pr_drop n t
/-- is such a thing a place? -/
def plB : Option (List Nat) → Bool
  | some z => decide (Pl z)
  | none => false
def spIsPlace : Sp := fun vs H Q _ => ∃ (s : Addr) (v : V) (t : Option (List Nat)), vs = [v] ∧ IsT s H v t ∧ ∀ H', Same H H' → Q (.bl (plB t)) H'
theorem ok_is_place (T : Env K mg base) : FnOk P w K mg base CX0 4 T.f_is_place T.d_is_place ["thing"] spIsPlace := by
  refine T.F_is_place.ok sc_is_place (fun vs H Q E h => ?_) (fun A outer s H vs Q E hr h => ?_)
  · obtain ⟨s, v, t, rfl, _⟩ := h
    rfl
  · obtain ⟨s, v, t, rfl, ht, q⟩ := h
    refine ⟨_, (pss_one (ps_ret (pe_call (ok_are_unlike_signs T) (hr.mono (by decide)) (by rfl) T.g_are_unlike_signs T.F_are_unlike_signs.kp T.b_are_unlike_signs .nil pass0 (pa_cons (pv 0) (pa_cons (pe_callB call_len_str (by rfl) T.z_len PySem.boot_len (pa_cons (pe_glob (v := .str (ofL SG)) rfl T.v_SIGNS ⟨_, rfl⟩) pa_nil)) pa_nil))))), ?_⟩
    refine ⟨_, rfl, _, rfl, by decide +kernel, s, v, t, 52, rfl, ht, fun b hb H1 s1 => ?_⟩
    have e : b = plB t := by
      rw [Bool.eq_iff_iff, hb]
      constructor
      · rintro ⟨z, rfl, h⟩
        exact decide_eq_true ⟨h.1, by have := h.2.1; omega, h.2.2⟩
      · intro h
        cases t with
        | none => cases h
        | some z =>
          have h : Pl z := of_decide_eq_true h
          exact ⟨z, rfl, h.1, by have := h.2.1; omega, h.2.2⟩
    rw [e]
    exact q H1 s1
def spIsEdge : Sp := fun vs H Q _ => ∃ (s : Addr) (v : V) (t : Option (List Nat)), vs = [v] ∧ IsT s H v t ∧ Q (.bl (decide (t = some EDG))) H
theorem ok_is_edge (T : Env K mg base) : FnOk P w K mg base CX0 1 T.f_is_edge T.d_is_edge ["thing"] spIsEdge := by
  refine T.F_is_edge.ok sc_is_edge (fun vs H Q E h => ?_) (fun A outer s H vs Q E hr h => ?_)
  · obtain ⟨s, v, t, rfl, _⟩ := h
    rfl
  · obtain ⟨s, v, t, rfl, ht, q⟩ := h
    refine ⟨_, (pss_one (ps_ret (pe_and (pe_callB call_isi (by rfl) T.z_isinstance boot_isinstance (pa_cons (pv 0) (pa_cons (pe_bltn (v := .ty "str") (by rfl) T.z_str PyProof.Rows.boot_str rfl) pa_nil))) (pe_one (pe_cmpR op_eq (pv 0) (pe_glob (v := .str "|") rfl T.v_EDGE ⟨_, rfl⟩) (nomark _)))))), ?_⟩
    cases ht with
    | no ho =>
      obtain ⟨t, h1, h2⟩ := ho.ty (K := K)
      rw [decide_eq_false (fun e => by cases e)] at q
      exact ⟨_, rfl, _, _, _, _, _, rfl, .ty "str", h1, h2, _, rfl, iteF q⟩
    | @yes z hz =>
      refine ⟨_, rfl, _, _, _, _, _, rfl, .ty "str", .base (.str _), rfl, _, rfl, iteT ?_⟩
      refine ⟨_, rfl, rfl, ?_⟩
      have e : decide (V.str (ofL z) = V.str (Str.ofString "|")) = decide (some z = some EDG) := by
        rw [decide_eq_decide, edg_eq]
        exact ⟨fun h => congrArg some (congrArg sg (V.str.inj h)), fun h => by rw [Option.some.inj h]⟩
      rw [e]
      exact q
def spArePl : Sp := fun vs H Q _ => ∃ (s a : Addr) (xs : List V) (ts : List (Option (List Nat))), vs = [.ref a] ∧ H a = some (.lst xs) ∧ Paired (IsT s H) xs ts ∧ xs.length ≤ 100 ∧ ∀ H', Same H H' → Q (.bl (ts.all plB)) H'
theorem ok_are_places (T : Env K mg base) : FnOk P w K mg base CX0 5 T.f_are_places T.d_are_places ["things"] spArePl := by
  refine T.F_are_places.ok sc_are_places (fun vs H Q E h => ?_) (fun A outer s H vs Q E hr h => ?_)
  · obtain ⟨s, a, xs, ts, rfl, _⟩ := h
    rfl
  · obtain ⟨s, a, xs, ts, rfl, ha, hp, hn, q⟩ := h
    have nd := sc_are_places.nd
    have lt := pr_len hp
    refine ⟨_, (pss_one (ps_ret (pe_callB (cr_all rfl) (by rfl) T.z_all (by rfl) (pa_cons (pe_lc (own := [("thing", 1)]) (g := gName 1) (tt := tYes) (by rfl) nd (pi_list (pv 0)) (blkOk_by (own := [("thing", 1)]) (N := n_are_places) (sc := defScope s_are_places) (by decide +kernel)) (fun _ _ _ _ _ => pg_name (i := 1) nd rfl (Or.inl rfl)) (fun _ _ _ _ _ => pts_nil) (fun _ _ _ _ _ => by exact (pe_call (ok_is_place T) (hr.mono (by decide)) (by rfl) T.g_is_place T.F_is_place.kp T.b_is_place .nil pass0 (pa_cons (pv 1) pa_nil)))) pa_nil)))), ?_⟩
    refine ⟨_, rfl, a, rfl, ⟨_, SqL.of ha⟩, fun D hD => ?_⟩
    refine lc_list (xs := xs) (fun i H' => H' D = some (.lst ((ts.take i).map fun t => V.bl (plB t))) ∧ Same H H') ⟨upd_same, same_upd hD⟩ (fun i H' _ ⟨_, s⟩ => SqL.of (s _ _ ha)) ?_ ?_
    · rintro i v H1 hv ⟨hd, s1⟩
      obtain ⟨t, et, ht⟩ := pr_get hp hv
      refine ⟨rfl, _, rfl, s, v, t, rfl, ht.same s1, fun H2 s2 => ?_⟩
      have hi : i < ts.length := (List.getElem?_eq_some_iff.mp et).1
      refine ⟨_, s2 _ _ hd, by rw [List.length_map, List.length_take]; exact small1 (by omega), by rw [upd_same, map_take_snoc et], fun b o e => ?_⟩
      rw [upd_ne (ne_of_none e hD)]
      exact s2 _ _ (s1 _ _ e)
    · rintro H1 ⟨hd, s1⟩
      refine ⟨D, ts.map plB, rfl, SqL.of ?_, ?_⟩
      · rw [hd, lt, List.take_length, List.map_map]
        rfl
      · rw [List.all_map]
        exact q _ s1
/-- a thing that is no list -/
inductive NotL (s : Addr) (H : Hp) : V → Prop
  | non : NotL s H .non
  | int (i : Int) : NotL s H (.int i)
  | str (z : Str) : NotL s H (.str z)
  | tup {a : Addr} {xs : List V} (n : a ≠ s) (h : H a = some (.tup xs)) : NotL s H (.ref a)
theorem NotL.ty {s : Addr} {H : Hp} {v : V} (h : NotL s H v) : ∃ t, TyX K H v t ∧ PySem.W.kitOne K t (.type "list") = some false := by
  cases h with
  | non => exact ⟨_, .base .non, kit_ty (by decide +kernel)⟩
  | int i => exact ⟨_, .base (.int i), kit_ty (by decide +kernel)⟩
  | str b => exact ⟨_, .base (.str b), kit_ty (by decide +kernel)⟩
  | tup n e => exact ⟨_, .base (.tup e), kit_ty (by decide +kernel)⟩
abbrev Row := Option (List (Option (List Nat)))
/-- a row of things, or no list -/
inductive RowT (s : Addr) (H : Hp) : V → Row → Prop
  | no {v : V} (h : NotL s H v) : RowT s H v none
  | yes {a : Addr} {xs : List V} {ts : List (Option (List Nat))} (n : a ≠ s) (h : H a = some (.lst xs)) (p : Paired (IsT s H) xs ts) (l : xs.length ≤ 100) : RowT s H (.ref a) (some ts)
theorem RowT.but {s : Addr} {H H' : Hp} {v : V} {r : Row} (h : RowT s H v r) (b : But s H H') : RowT s H' v r := by
  cases h with
  | no h =>
    refine .no ?_
    cases h with
    | non => exact .non
    | int i => exact .int i
    | str z => exact .str z
    | tup n e => exact .tup n (b _ _ n e)
  | yes n h p l => exact .yes n (b _ _ n h) (pr_map (fun _ _ h => h.but b) p) l
theorem RowT.same {s : Addr} {H H' : Hp} {v : V} {r : Row} (h : RowT s H v r) (b : Same H H') : RowT s H' v r := h.but (Same.but b)
def besB : Row → Bool
  | some ts => decide (ts.length ≤ 2)
  | none => false
def spBeside : Sp := fun vs H Q _ => ∃ (s : Addr) (v : V) (r : Row), vs = [v] ∧ RowT s H v r ∧ Q (.bl (besB r)) H
theorem ok_is_beside (T : Env K mg base) : FnOk P w K mg base CX0 1 T.f_is_beside T.d_is_beside ["things"] spBeside := by
  refine T.F_is_beside.ok sc_is_beside (fun vs H Q E h => ?_) (fun A outer s H vs Q E hr h => ?_)
  · obtain ⟨s, v, r, rfl, _⟩ := h
    rfl
  · obtain ⟨s, v, r, rfl, h, q⟩ := h
    refine ⟨_, (pss_one (ps_ret (pe_and (pe_callB call_isi (by rfl) T.z_isinstance boot_isinstance (pa_cons (pv 0) (pa_cons (pe_bltn (v := .ty "list") (by rfl) T.z_list (by rfl) rfl) pa_nil))) (pe_one (pe_cmpR op_le (pe_callB call_len_seq (by rfl) T.z_len PySem.boot_len (pa_cons (pv 0) pa_nil)) (pe_glob (v := .int 2) rfl T.v_MOST_BESIDE ⟨_, rfl⟩) (nomark _)))))), ?_⟩
    cases h with
    | no h =>
      obtain ⟨t, h1, h2⟩ := h.ty (K := K)
      exact ⟨_, rfl, _, _, _, _, _, rfl, .ty "list", h1, h2, _, rfl, iteF q⟩
    | @yes a xs ts n ha p l =>
      refine ⟨_, rfl, _, _, _, _, _, rfl, .ty "list", .base (.lst ha), kit_ty (r := true) (by decide +kernel), _, rfl, iteT ?_⟩
      refine ⟨_, rfl, a, _, rfl, .inl (SqL.of ha), _, _, rfl, rfl, ?_⟩
      have e : decide ((xs.length : Int) ≤ 2) = decide (ts.length ≤ 2) := by rw [decide_eq_decide, pr_len p]; omega
      have q2 : Q (.bl (decide (ts.length ≤ 2))) H := q
      rw [← e] at q2
      exact q2
def restB : List (Option (List Nat)) → List (Option (List Nat))
  | t :: r => if t = some EDG then r else t :: r
  | [] => []
def goodB : Row → Bool
  | some ts => decide (ts.length ≤ 2) && (restB ts).all plB
  | none => false
def restA (ts : List (Option (List Nat))) : List (Option (List Nat)) := if ts.getLast? = some (some EDG) then ts.dropLast else ts
def goodA : Row → Bool
  | some ts => decide (ts.length ≤ 2) && (restA ts).all plB
  | none => false
def spBehind : Sp := fun vs H Q _ => ∃ (s : Addr) (v : V) (r : Row), vs = [v] ∧ RowT s H v r ∧ ∀ H', Same H H' → Q (.bl (goodB r)) H'
theorem ok_is_behind (T : Env K mg base) : FnOk P w K mg base CX0 6 T.f_is_behind T.d_is_behind ["things"] spBehind := by
  refine T.F_is_behind.ok sc_is_behind (fun vs H Q E h => ?_) (fun A outer s H vs Q E hr h => ?_)
  · obtain ⟨s, v, r, rfl, _⟩ := h
    rfl
  · obtain ⟨s, v, r, rfl, h, q⟩ := h
    refine ⟨_, (pss_cons (ps_if (pt_not (pt_val (pe_call (ok_is_beside T) (hr.mono (by decide)) (by rfl) T.g_is_beside T.F_is_beside.kp T.b_is_beside .nil pass0 (pa_cons (pv 0) pa_nil))))
        (pss_one (ps_ret pe_bl))
        pss_nil) <|
      (pss_one (ps_ret (pe_call (ok_are_places T) (hr.mono (by decide)) (by rfl) T.g_are_places T.F_are_places.kp T.b_are_places .nil pass0 (pa_cons (pe_ifExp (PW.pt (pw_and (pt_truth (pv 0) (by intro _; rfl)) (pw_and1 (pt_val (pe_call (ok_is_edge T) (hr.mono (by decide)) (by rfl) T.g_is_edge T.F_is_edge.kp T.b_is_edge .nil pass0 (pa_cons (pe_ix ix_list (pv 0) pe_int (fun _ _ => rfl)) pa_nil)))))) (pe_slice sl_list (pv 0) (po_some pe_int) po_none) (pv 0)) pa_nil))))), ?_⟩
    refine ⟨_, rfl, s, v, r, rfl, h, _, rfl, ?_⟩
    cases h with
    | no h => exact iteT (q _ (Same.refl _))
    | @yes a xs ts n ha p l =>
      by_cases h2 : ts.length ≤ 2
      · have eg : goodB (some ts) = (restB ts).all plB := by
          show (decide (ts.length ≤ 2) && _) = _
          rw [decide_eq_true h2, Bool.true_and]
        rw [eg] at q
        have eb : besB (some ts) = true := decide_eq_true h2
        rw [eb]
        refine iteF ?_
        refine ⟨_, rfl, _, .inl ⟨_, SqL.of ha, rfl⟩, ?_⟩
        cases p with
        | nil => exact iteF ⟨_, rfl, s, a, [], [], rfl, ha, .nil, l, q⟩
        | @cons x t xs ts hx pr =>
          refine iteT ⟨_, rfl, a, _, _, _, rfl, rfl, SqL.of ha, atI_nat (j := 0) rfl, s, x, t, rfl, hx, _, rfl, ?_⟩
          by_cases he : t = some EDG
          · rw [decide_eq_true he]
            have er : restB (t :: ts) = ts := if_pos he
            rw [er] at q
            refine iteT ⟨_, rfl, _, rfl, a, _, rfl, SqL.of ha, fun p hp' => ?_⟩
            have e : cutV (x :: xs) (some 1) none = xs := cv_from _ 1
            rw [e]
            have sp := same_upd hp' (o := .lst xs)
            exact ⟨s, p, xs, ts, rfl, upd_same, pr_map (fun _ _ h => h.same sp) pr, by rw [List.length_cons] at l; omega, fun H' s' => q _ (sp.trans s')⟩
          · rw [decide_eq_false he]
            have er : restB (t :: ts) = t :: ts := if_neg he
            rw [er] at q
            exact iteF ⟨_, rfl, s, a, _, _, rfl, ha, .cons hx pr, l, q⟩
      · have eb : besB (some ts) = false := decide_eq_false h2
        have eg : goodB (some ts) = false := by
          show (decide (ts.length ≤ 2) && _) = _
          rw [decide_eq_false h2, Bool.false_and]
        rw [eb]
        rw [eg] at q
        exact iteT (q _ (Same.refl _))
theorem pr_last {α β : Type} {R : α → β → Prop} {xs : List α} {ts : List β} (p : Paired R xs ts) (h : xs ≠ []) : ∃ x t, xs.getLast? = some x ∧ ts.getLast? = some t ∧ R x t := by
  have l := pr_len p
  have hl : 0 < xs.length := List.length_pos_iff.mpr h
  have e : xs[xs.length - 1]? = some xs[xs.length - 1] := List.getElem?_eq_getElem (by omega)
  obtain ⟨t, et, r⟩ := pr_get p e
  exact ⟨_, t, by rw [List.getLast?_eq_getElem?]; exact e, by rw [List.getLast?_eq_getElem?, ← l]; exact et, r⟩
theorem atI_end {xs : List V} {x : V} (h : xs.getLast? = some x) : atI xs (-1) = some x := by
  obtain ⟨ys, rfl⟩ := List.getLast?_eq_some_iff.mp h
  exact atI_last _ _
theorem pr_init {α β : Type} {R : α → β → Prop} {xs : List α} {ts : List β} (p : Paired R xs ts) : Paired R xs.dropLast ts.dropLast := by
  rw [List.dropLast_eq_take, List.dropLast_eq_take, pr_len p]
  exact pr_take _ p
def spAhead : Sp := fun vs H Q _ => ∃ (s : Addr) (v : V) (r : Row), vs = [v] ∧ RowT s H v r ∧ ∀ H', Same H H' → Q (.bl (goodA r)) H'
theorem ok_is_ahead (T : Env K mg base) : FnOk P w K mg base CX0 6 T.f_is_ahead T.d_is_ahead ["things"] spAhead := by
  refine T.F_is_ahead.ok sc_is_ahead (fun vs H Q E h => ?_) (fun A outer s H vs Q E hr h => ?_)
  · obtain ⟨s, v, r, rfl, _⟩ := h
    rfl
  · obtain ⟨s, v, r, rfl, h, q⟩ := h
    refine ⟨_, (pss_cons (ps_if (pt_not (pt_val (pe_call (ok_is_beside T) (hr.mono (by decide)) (by rfl) T.g_is_beside T.F_is_beside.kp T.b_is_beside .nil pass0 (pa_cons (pv 0) pa_nil))))
        (pss_one (ps_ret pe_bl))
        pss_nil) <|
      (pss_one (ps_ret (pe_call (ok_are_places T) (hr.mono (by decide)) (by rfl) T.g_are_places T.F_are_places.kp T.b_are_places .nil pass0 (pa_cons (pe_ifExp (PW.pt (pw_and (pt_truth (pv 0) (by intro _; rfl)) (pw_and1 (pt_val (pe_call (ok_is_edge T) (hr.mono (by decide)) (by rfl) T.g_is_edge T.F_is_edge.kp T.b_is_edge .nil pass0 (pa_cons (pe_ix ix_list (pv 0) (pe_un un_neg pe_int) (fun _ _ => rfl)) pa_nil)))))) (pe_slice sl_list (pv 0) po_none (po_some (pe_un un_neg pe_int))) (pv 0)) pa_nil))))), ?_⟩
    refine ⟨_, rfl, s, v, r, rfl, h, _, rfl, ?_⟩
    cases h with
    | no h => exact iteT (q _ (Same.refl _))
    | @yes a xs ts n ha p l =>
      by_cases h2 : ts.length ≤ 2
      · have eg : goodA (some ts) = (restA ts).all plB := by
          show (decide (ts.length ≤ 2) && _) = _
          rw [decide_eq_true h2, Bool.true_and]
        rw [eg] at q
        have eb : besB (some ts) = true := decide_eq_true h2
        rw [eb]
        refine iteF ?_
        refine ⟨_, rfl, _, .inl ⟨_, SqL.of ha, rfl⟩, ?_⟩
        by_cases hne : xs = []
        · subst hne
          cases p
          exact iteF ⟨_, rfl, s, a, [], [], rfl, ha, .nil, l, q⟩
        · obtain ⟨x, t, ex, et, hx⟩ := pr_last p hne
          have ne : (!xs.isEmpty) = true := by
            cases xs with
            | nil => exact absurd rfl hne
            | cons => rfl
          rw [ne]
          refine iteT ⟨_, rfl, _, rfl, a, _, _, _, rfl, rfl, SqL.of ha, atI_end ex, s, x, t, rfl, hx, _, rfl, ?_⟩
          by_cases he : t = some EDG
          · rw [decide_eq_true he]
            have er : restA ts = ts.dropLast := if_pos (by rw [et, he])
            rw [er] at q
            refine iteT ⟨_, rfl, _, rfl, _, rfl, a, _, rfl, SqL.of ha, fun p' hp' => ?_⟩
            have e : cutV xs none (some (-1)) = xs.dropLast := cv_last _
            rw [e]
            have sp := same_upd hp' (o := .lst xs.dropLast)
            exact ⟨s, p', _, _, rfl, upd_same, pr_map (fun _ _ h => h.same sp) (pr_init p), by rw [List.length_dropLast]; omega, fun H' s' => q _ (sp.trans s')⟩
          · rw [decide_eq_false he]
            have er : restA ts = ts := if_neg (by rw [et]; exact fun h => he (Option.some.inj h))
            rw [er] at q
            exact iteF ⟨_, rfl, s, a, _, _, rfl, ha, p, l, q⟩
      · have eb : besB (some ts) = false := decide_eq_false h2
        have eg : goodA (some ts) = false := by
          show (decide (ts.length ≤ 2) && _) = _
          rw [decide_eq_false h2, Bool.false_and]
        rw [eb]
        rw [eg] at q
        exact iteT (q _ (Same.refl _))

/-- the same places, each turned about -/
def Alike (ys zs : List (List Nat)) : Prop := ys.length = zs.length ∧ ∀ (i : Nat) (y z : List Nat), ys[i]? = some y → zs[i]? = some z → y.Perm z
theorem perm_one {z : List Nat} {ys : List Str} (h : ys.Perm (z.map fun c => ⟨#[c]⟩)) : ∃ l : List Nat, l.Perm z ∧ ys = l.map fun c => ofL [c] := by
  have m : ∀ y ∈ ys, (ofL [y.cps[0]!]) = y := by
    intro y hy
    obtain ⟨c, _, rfl⟩ := List.mem_map.mp (h.mem_iff.mp hy)
    rfl
  refine ⟨ys.map fun y => y.cps[0]!, ?_, ?_⟩
  · have := h.map fun y : Str => y.cps[0]!
    rw [List.map_map] at this
    have e : (z.map ((fun y : Str => y.cps[0]!) ∘ fun c => (⟨#[c]⟩ : Str))) = z := by
      rw [show ((fun y : Str => y.cps[0]!) ∘ fun c => (⟨#[c]⟩ : Str)) = id from rfl, List.map_id]
    rwa [e] at this
  · rw [List.map_map]
    exact ((List.map_congr_left (g := id) m).trans (List.map_id _)).symm
def spSortPl : Sp := fun vs H Q _ => ∃ (a : Addr) (zs : List (List Nat)), vs = [.ref a] ∧ H a = some (.lst (tx zs)) ∧ zs.length ≤ 100 ∧ (∀ z ∈ zs, z.length ≤ 100) ∧ ∀ p ys H', H p = none → H' p = some (.lst (tx ys)) → Alike ys zs → Same H H' → Q (.ref p) H'
theorem ok_sorted_places (T : Env K mg base) : FnOk P w K mg base CX0 1 T.f_sorted_places T.d_sorted_places ["places"] spSortPl := by
  refine T.F_sorted_places.ok sc_sorted_places (fun vs H Q E h => ?_) (fun A outer s H vs Q E hr h => ?_)
  · obtain ⟨a, zs, rfl, _⟩ := h
    rfl
  · obtain ⟨a, zs, rfl, ha, hn, hl, q⟩ := h
    have nd := sc_sorted_places.nd
    refine ⟨_, (pss_cons (ps_if (pt_cmpR op_isN (pv 0) pe_non (nomark _))
        (pss_one (ps_ret (pe_lst pa_nil)))
        pss_nil) <|
      (pss_one (ps_ret (pe_lc (own := [("place", 1)]) (g := gName 1) (tt := tYes) (by rfl) nd (pi_list (pv 0)) (blkOk_by (own := [("place", 1)]) (N := n_sorted_places) (sc := defScope s_sorted_places) (by decide +kernel)) (fun _ _ _ _ _ => pg_name (i := 1) nd rfl (Or.inl rfl)) (fun _ _ _ _ _ => pts_nil) (fun _ _ _ _ _ => by exact (Ms.pe_joinK (K := K) rfl pe_str (pe_callB (by exact Ms.cr_sortedT rfl) (by rfl) T.z_sorted (by rfl) (pa_cons (pv 1) pa_nil)))))))), ?_⟩
    refine ⟨_, rfl, rfl, _, rfl, iteF ?_⟩
    refine ⟨_, rfl, a, rfl, ⟨_, SqL.of ha⟩, fun D hD => ?_⟩
    refine lc_list (xs := tx zs) (fun i H' => ∃ ys, H' D = some (.lst (tx ys)) ∧ Alike ys (zs.take i) ∧ Same H H') ⟨[], upd_same, ⟨rfl, fun j y z h => by simp at h⟩, same_upd hD⟩ (fun i H' _ ⟨_, _, _, s⟩ => SqL.of (s _ _ ha)) ?_ ?_
    · rintro i v H1 hv ⟨ys, hd, al, s1⟩
      obtain ⟨z, hz, rfl⟩ := tx_at hv
      have lz := hl z (List.mem_of_getElem? hz)
      refine ⟨rfl, ⟨_, rfl⟩, _, rfl, ofL z, rfl, by rw [ofL_len]; exact small2 (by omega), fun ys' p hp hs hp' => ?_⟩
      obtain ⟨l, pl, rfl⟩ := perm_one hp
      refine ⟨ofL [], p, l.map fun c => ofL [c], rfl, rfl, .inl (SqL.of upd_same), ?_, ?_⟩
      · rw [sum_one, pl.length_eq]
        show z.length + _ * 0 ≤ _
        omega
      rw [txt_join]
      have hd2 := same_upd hp' (o := .lst ((l.map fun c => ofL [c]).map V.str)) _ _ hd
      refine ⟨_, hd2, by rw [tx_len, al.1, List.length_take]; exact small1 (by omega), ys ++ [l], ?_, ⟨by rw [List.length_append, al.1, List.take_add_one, hz, List.length_append]; rfl, fun j y z' hy hz' => ?_⟩, fun b o e => ?_⟩
      · rw [upd_same]
        exact congrArg (fun x => some (HO.lst x)) (List.map_append (f := fun z => V.str (ofL z)) (l₁ := ys) (l₂ := [l])).symm
      · rw [List.take_add_one, hz] at hz'
        rcases Nat.lt_or_ge j ys.length with hj | hj
        · rw [List.getElem?_append_left hj] at hy
          rw [List.getElem?_append_left (by rw [← al.1]; exact hj)] at hz'
          exact al.2 j y z' hy hz'
        · rw [List.getElem?_append_right hj] at hy
          rw [List.getElem?_append_right (by rw [← al.1]; exact hj), ← al.1] at hz'
          have j0 : j - ys.length = 0 := by
            have := (List.getElem?_eq_some_iff.mp hy).1
            simp at this
            omega
          rw [j0] at hy hz'
          cases hy
          cases hz'
          exact pl
      · rw [upd_ne (ne_of_none e hD)]
        exact same_upd hp' _ _ (s1 _ _ e)
    · rintro H1 ⟨ys, hd, al, s1⟩
      rw [tx_len, List.take_length] at al
      exact q D ys H1 hD hd al s1

/-! the parts of a rule, wanted -/
def goodW : Row → Bool
  | some ts => decide (1 ≤ ts.length) && (decide (ts.length ≤ 3) && ts.all plB)
  | none => false
def goodP : Option (List Nat) → Bool
  | some z => decide (z.length ≤ 3 ∧ ∀ c ∈ z, c ∈ SG)
  | none => false
def first (r1 : Row) (t2 : Option (List Nat)) (r3 r4 : Row) : Option Str :=
  if goodW r1 = false then some ("what" : Str) else if goodP t2 = false then some ("becomes" : Str) else if goodB r3 = false then some ("behind" : Str) else if goodA r4 = false then some ("ahead" : Str) else none
section
variable {r1 r3 r4 : Row} {t2 : Option (List Nat)}
theorem tf {b : Bool} (h : b = true) : ¬ b = false := by rw [h]; decide
theorem first1 (h : goodW r1 = false) : first r1 t2 r3 r4 = some ("what" : Str) := if_pos h
theorem first2 (h1 : goodW r1 = true) (h : goodP t2 = false) : first r1 t2 r3 r4 = some ("becomes" : Str) := by
  unfold first; rw [if_neg (tf h1), if_pos h]
theorem first3 (h1 : goodW r1 = true) (h2 : goodP t2 = true) (h : goodB r3 = false) : first r1 t2 r3 r4 = some ("behind" : Str) := by
  unfold first; rw [if_neg (tf h1), if_neg (tf h2), if_pos h]
theorem first4 (h1 : goodW r1 = true) (h2 : goodP t2 = true) (h3 : goodB r3 = true) (h : goodA r4 = false) : first r1 t2 r3 r4 = some ("ahead" : Str) := by
  unfold first; rw [if_neg (tf h1), if_neg (tf h2), if_neg (tf h3), if_pos h]
theorem first5 (h1 : goodW r1 = true) (h2 : goodP t2 = true) (h3 : goodB r3 = true) (h : goodA r4 = true) : first r1 t2 r3 r4 = none := by
  unfold first; rw [if_neg (tf h1), if_neg (tf h2), if_neg (tf h3), if_neg (tf h)]
theorem first_none (h : first r1 t2 r3 r4 = none) : goodW r1 = true ∧ goodP t2 = true ∧ goodB r3 = true ∧ goodA r4 = true := by
  cases h1 : goodW r1 with
  | false => rw [first1 h1] at h; cases h
  | true => cases h2 : goodP t2 with
    | false => rw [first2 h1 h2] at h; cases h
    | true => cases h3 : goodB r3 with
      | false => rw [first3 h1 h2 h3] at h; cases h
      | true => cases h4 : goodA r4 with
        | false => rw [first4 h1 h2 h3 h4] at h; cases h
        | true => exact ⟨rfl, rfl, rfl, rfl⟩
end
def spParts (T : Env K mg base) : Sp := fun vs H Q E => ∃ (s : Addr) (v1 v2 v3 v4 : V) (r1 : Row) (t2 : Option (List Nat)) (r3 r4 : Row), vs = [v1, v2, v3, v4] ∧ RowT s H v1 r1 ∧ IsT s H v2 t2 ∧ RowT s H v3 r3 ∧ RowT s H v4 r4 ∧ v3 ≠ .non ∧ v4 ≠ .non ∧
  (∀ nm H' d, first r1 t2 r3 r4 = some nm → Same H H' → H' d = some (.xd [("what", .str nm)]) → E (.ref T.C_NoRule) (some d) H') ∧ (first r1 t2 r3 r4 = none → ∀ H', Same H H' → Q .non H')
theorem ok_want_parts (T : Env K mg base) : FnOk P w K mg base (CXe w) 7 T.f_want_parts T.d_want_parts ["what", "becomes", "behind", "ahead"] (spParts T) := by
  refine T.F_want_parts.okX sc_want_parts (fun vs H Q E h => ?_) (fun A outer s H vs Q E hr h => ?_)
  · obtain ⟨s, v1, v2, v3, v4, r1, t2, r3, r4, rfl, _⟩ := h
    rfl
  · obtain ⟨s, v1, v2, v3, v4, r1, t2, r3, r4, rfl, h1, h2, h3, h4, n3, n4, ex, q⟩ := h
    refine ⟨_, (pss_cons (ps_if (PW.pt (pw_or (pt_not (pt_val (pe_callB call_isi (by rfl) T.z_isinstance boot_isinstance (pa_cons (pv 0) (pa_cons (pe_bltn (v := .ty "list") (by rfl) T.z_list (by rfl) rfl) pa_nil))))) (pw_or (pt_not (pt_chain op_le op_le pe_int (pe_callB call_len_seq (by rfl) T.z_len PySem.boot_len (pa_cons (pv 0) pa_nil)) (pe_glob (v := .int 3) rfl T.v_MOST_TAKEN ⟨_, rfl⟩))) (pw_or1 (pt_not (pt_val (pe_call (ok_are_places T) (hr.mono (by decide)) (by rfl) T.g_are_places T.F_are_places.kp T.b_are_places .nil pass0 (pa_cons (pv 0) pa_nil))))))))
        (pss_one (Ms.ps_raiseS rfl T.X_NoRule hr (takes_of rfl rfl rfl rfl) (pa_cons pe_str pa_nil)))
        pss_nil) <|
      pss_cons (ps_if (pt_not (pt_val (pe_call (ok_are_signs T) (hr.mono (by decide)) (by rfl) T.g_are_signs T.F_are_signs.kp T.b_are_signs .nil pass0 (pa_cons (pv 1) (pa_cons pe_int (pa_cons (pe_glob (v := .int 3) rfl T.v_MOST_PUT ⟨_, rfl⟩) pa_nil))))))
        (pss_one (Ms.ps_raiseS rfl T.X_NoRule hr (takes_of rfl rfl rfl rfl) (pa_cons pe_str pa_nil)))
        pss_nil) <|
      pss_cons (ps_if (PW.pt (pw_and (pt_cmpR op_notN (pv 2) pe_non (nomark _)) (pw_and1 (pt_not (pt_val (pe_call (ok_is_behind T) (hr.mono (by decide)) (by rfl) T.g_is_behind T.F_is_behind.kp T.b_is_behind .nil pass0 (pa_cons (pv 2) pa_nil)))))))
        (pss_one (Ms.ps_raiseS rfl T.X_NoRule hr (takes_of rfl rfl rfl rfl) (pa_cons pe_str pa_nil)))
        pss_nil) <|
      (pss_one (ps_if (PW.pt (pw_and (pt_cmpR op_notN (pv 3) pe_non (nomark _)) (pw_and1 (pt_not (pt_val (pe_call (ok_is_ahead T) (hr.mono (by decide)) (by rfl) T.g_is_ahead T.F_is_ahead.kp T.b_is_ahead .nil pass0 (pa_cons (pv 3) pa_nil)))))))
        (pss_one (Ms.ps_raiseS rfl T.X_NoRule hr (takes_of rfl rfl rfl rfl) (pa_cons pe_str pa_nil)))
        pss_nil))), ?_⟩
    cases h1 with
    | no h =>
      obtain ⟨t, k1, k2⟩ := h.ty (K := K)
      exact ⟨_, rfl, _, _, _, _, _, rfl, .ty "list", k1, k2, _, rfl, iteT (iteT ⟨_, rfl, fun d hd => ex _ _ d (first1 rfl) (same_upd hd) upd_same⟩)⟩
    | @yes a xs ts n ha p l =>
    have lt := pr_len p
    refine ⟨_, rfl, _, _, _, _, _, rfl, .ty "list", .base (.lst ha), kit_ty (r := true) (by decide +kernel), _, rfl, iteF ?_⟩
    refine ⟨_, rfl, a, _, rfl, .inl (SqL.of ha), _, _, rfl, rfl, _, rfl, ?_⟩
    by_cases c1 : ¬ 1 ≤ ts.length
    · have b1 : goodW (some ts) = false := by
        show (decide (1 ≤ ts.length) && _) = false
        rw [decide_eq_false c1, Bool.false_and]
      rw [decide_eq_false (by omega)]
      exact iteF ⟨_, rfl, iteT (iteT ⟨_, rfl, fun d hd => ex _ _ d (first1 b1) (same_upd hd) upd_same⟩)⟩
    have c1 : 1 ≤ ts.length := Decidable.not_not.mp c1
    rw [decide_eq_true (by omega)]
    refine iteT ⟨_, _, rfl, rfl, _, rfl, ?_⟩
    by_cases c2 : ¬ ts.length ≤ 3
    · have b1 : goodW (some ts) = false := by
        show (decide (1 ≤ ts.length) && (decide (ts.length ≤ 3) && _)) = false
        rw [decide_eq_false c2, Bool.false_and, Bool.and_false]
      rw [decide_eq_false (by omega)]
      first | exact iteT (iteT ⟨_, rfl, fun d hd => ex _ _ d (first1 b1) (same_upd hd) upd_same⟩) | exact iteT (iteT (iteT ⟨_, rfl, fun d hd => ex _ _ d (first1 b1) (same_upd hd) upd_same⟩)) | exact iteT ⟨_, rfl, fun d hd => ex _ _ d (first1 b1) (same_upd hd) upd_same⟩
    have c2 : ts.length ≤ 3 := Decidable.not_not.mp c2
    rw [decide_eq_true (by omega)]
    refine iteF ⟨_, rfl, s, a, xs, ts, rfl, ha, p, l, fun H1 s1 => ⟨_, rfl, ?_⟩⟩
    have g1 : goodW (some ts) = ts.all plB := by
      show (decide (1 ≤ ts.length) && (decide (ts.length ≤ 3) && _)) = _
      rw [decide_eq_true c1, decide_eq_true c2, Bool.true_and, Bool.true_and]
    cases e1 : ts.all plB with
    | false => exact iteT ⟨_, rfl, fun d hd => ex _ _ d (first1 (g1.trans e1)) (s1.trans (same_upd hd)) upd_same⟩
    | true =>
    have g1 := g1.trans e1
    refine iteF ?_
    refine ⟨_, rfl, s, v2, t2, 0, 3, rfl, h2.same s1, fun b eb H2 s2 => ?_⟩
    have s12 := s1.trans s2
    have e2 : b = goodP t2 := by
      rw [Bool.eq_iff_iff, eb]
      constructor
      · rintro ⟨z, rfl, _, h5, h6⟩
        exact decide_eq_true ⟨by omega, h6⟩
      · intro h
        cases t2 with
        | none => cases h
        | some z =>
          have h : z.length ≤ 3 ∧ ∀ c ∈ z, c ∈ SG := of_decide_eq_true h
          exact ⟨z, rfl, by omega, by omega, h.2⟩
    subst e2
    refine ⟨_, rfl, ?_⟩
    cases g2 : goodP t2 with
    | false => exact iteT ⟨_, rfl, fun d hd => ex _ _ d (first2 g1 g2) (s12.trans (same_upd hd)) upd_same⟩
    | true =>
    refine iteF ?_
    refine ⟨_, rfl, rfl, _, rfl, ?_⟩
    rw [decide_eq_false n3]
    refine iteT ⟨_, rfl, s, v3, r3, rfl, h3.same s12, fun H3 s3 => ⟨_, rfl, ?_⟩⟩
    have s13 := s12.trans s3
    cases g3 : goodB r3 with
    | false => exact iteT ⟨_, rfl, fun d hd => ex _ _ d (first3 g1 g2 g3) (s13.trans (same_upd hd)) upd_same⟩
    | true =>
    refine iteF ?_
    refine ⟨_, rfl, rfl, _, rfl, ?_⟩
    rw [decide_eq_false n4]
    refine iteT ⟨_, rfl, s, v4, r4, rfl, h4.same s13, fun H4 s4 => ⟨_, rfl, ?_⟩⟩
    have s14 := s13.trans s4
    cases g4 : goodA r4 with
    | false => exact iteT ⟨_, rfl, fun d hd => ex _ _ d (first4 g1 g2 g3 g4) (s14.trans (same_upd hd)) upd_same⟩
    | true => exact iteF (q (first5 g1 g2 g3 g4) _ s14)

/-! a rule made -/
theorem plB_len {t : Option (List Nat)} (h : plB t = true) : ∃ z : List Nat, t = some z ∧ z.length ≤ 100 := by
  cases t with
  | none => cases h
  | some z =>
    have h : Pl z := of_decide_eq_true h
    exact ⟨z, rfl, by have := h.2.1; omega⟩
theorem goodW_all {r : Row} (h : goodW r = true) : ∃ ts, r = some ts ∧ ∀ t ∈ ts, ∃ z : List Nat, t = some z ∧ z.length ≤ 100 := by
  cases r with
  | none => cases h
  | some ts =>
    have h : (decide (1 ≤ ts.length) && (decide (ts.length ≤ 3) && ts.all plB)) = true := h
    rw [Bool.and_eq_true, Bool.and_eq_true] at h
    exact ⟨ts, rfl, fun t ht => plB_len (List.all_eq_true.mp h.2.2 t ht)⟩
theorem goodB_all {r : Row} (h : goodB r = true) : ∃ ts, r = some ts ∧ ∀ t ∈ ts, ∃ z : List Nat, t = some z ∧ z.length ≤ 100 := by
  cases r with
  | none => cases h
  | some ts =>
    have h : (decide (ts.length ≤ 2) && (restB ts).all plB) = true := h
    rw [Bool.and_eq_true] at h
    refine ⟨ts, rfl, fun t ht => ?_⟩
    have h := List.all_eq_true.mp h.2
    cases ts with
    | nil => cases ht
    | cons u us =>
      by_cases e : u = some EDG
      · rw [show restB (u :: us) = us from if_pos e] at h
        rcases List.mem_cons.mp ht with rfl | ht
        · exact ⟨EDG, e, by decide⟩
        · exact plB_len (h t ht)
      · rw [show restB (u :: us) = u :: us from if_neg e] at h
        exact plB_len (h t ht)
theorem goodA_all {r : Row} (h : goodA r = true) : ∃ ts, r = some ts ∧ ∀ t ∈ ts, ∃ z : List Nat, t = some z ∧ z.length ≤ 100 := by
  cases r with
  | none => cases h
  | some ts =>
    have h : (decide (ts.length ≤ 2) && (restA ts).all plB) = true := h
    rw [Bool.and_eq_true] at h
    refine ⟨ts, rfl, fun t ht => ?_⟩
    have h := List.all_eq_true.mp h.2
    by_cases e : ts.getLast? = some (some EDG)
    · rw [show restA ts = ts.dropLast from if_pos e] at h
      obtain ⟨us, rfl⟩ := List.getLast?_eq_some_iff.mp e
      rw [List.dropLast_concat] at h
      rcases List.mem_append.mp ht with ht | ht
      · exact plB_len (h t ht)
      · exact ⟨EDG, List.mem_singleton.mp ht, by decide⟩
    · rw [show restA ts = ts from if_neg e] at h
      exact plB_len (h t ht)
theorem pr_tx {s : Addr} {H : Hp} : ∀ {xs : List V} {ts : List (Option (List Nat))}, Paired (IsT s H) xs ts → (∀ t ∈ ts, ∃ z : List Nat, t = some z ∧ z.length ≤ 100) → ∃ zs : List (List Nat), xs = tx zs ∧ ∀ z ∈ zs, z.length ≤ 100
  | _, _, .nil, _ => ⟨[], rfl, fun _ h => by cases h⟩
  | x :: xs, t :: ts, .cons r p, h => by
    obtain ⟨zs, rfl, hz⟩ := pr_tx p (fun u hu => h u (List.mem_cons_of_mem _ hu))
    obtain ⟨z, rfl, lz⟩ := h t List.mem_cons_self
    cases r with
    | yes l => exact ⟨z :: zs, rfl, fun y hy => (List.mem_cons.mp hy).elim (fun e => by rw [e]; exact lz) (hz y)⟩
theorem row_tx {s : Addr} {H : Hp} {v : V} {r : Row} (h : RowT s H v r) (g : ∃ ts, r = some ts ∧ ∀ t ∈ ts, ∃ z : List Nat, t = some z ∧ z.length ≤ 100) : ∃ a zs, v = .ref a ∧ H a = some (.lst (tx zs)) ∧ zs.length ≤ 100 ∧ ∀ z ∈ zs, z.length ≤ 100 := by
  obtain ⟨ts, rfl, g⟩ := g
  cases h with
  | yes n ha p l =>
    obtain ⟨zs, rfl, hz⟩ := pr_tx p g
    rw [tx_len] at l
    exact ⟨_, zs, rfl, ha, l, hz⟩
def spRInit (T : Env K mg base) : Sp := fun vs H Q E => ∃ (p dx s : Addr) (v1 v2 v3 v4 : V) (r1 : Row) (t2 : Option (List Nat)) (r3 r4 : Row), vs = [.ref p, v1, v2, v3, v4] ∧ H p = some (.ins T.C_Rule dx []) ∧ RowT s H v1 r1 ∧ IsT s H v2 t2 ∧ RowT s H v3 r3 ∧ RowT s H v4 r4 ∧ v3 ≠ .non ∧ v4 ≠ .non ∧
  (∀ nm H' d, first r1 t2 r3 r4 = some nm → Same H H' → H' d = some (.xd [("what", .str nm)]) → E (.ref T.C_NoRule) (some d) H') ∧ (first r1 t2 r3 r4 = none → ∀ H', But p H H' → Q .non H')
theorem ok_Rule_init (T : Env K mg base) : FnOk P w K mg base (CXe w) 8 T.f_Rule_init T.d_Rule_init ["self", "what", "becomes", "behind", "ahead"] (spRInit T) := by
  refine T.F_Rule_init.okX sc_Rule_init (fun vs H Q E h => ?_) (fun A outer s H vs Q E hr h => ?_)
  · obtain ⟨p, dx, s, v1, v2, v3, v4, r1, t2, r3, r4, rfl, _⟩ := h
    rfl
  · obtain ⟨p, dx, s, v1, v2, v3, v4, r1, t2, r3, r4, rfl, hp, h1, h2, h3, h4, n3, n4, ex, q⟩ := h
    refine ⟨_, (pss_cons (ps_expr (pe_call (ok_want_parts T) (hr.mono (by decide)) (by rfl) T.g_want_parts T.F_want_parts.kp T.b_want_parts .nil (passes_call (takes_of rfl rfl rfl rfl) (fun _ _ _ _ h => h)) (pa_cons (pv 1) (pa_cons (pv 2) (pa_cons (pv 3) (pa_cons (pv 4) pa_nil)))))) <|
      pss_cons (ps_fld (pv 0) (pe_call (ok_sorted_places T) (hr.mono (by decide)) (by rfl) T.g_sorted_places T.F_sorted_places.kp T.b_sorted_places .nil pass0 (pa_cons (pv 1) pa_nil)) rfl) <|
      pss_cons (ps_fld (pv 0) (pv 2) rfl) <|
      pss_cons (ps_fld (pv 0) (pe_call (ok_sorted_places T) (hr.mono (by decide)) (by rfl) T.g_sorted_places T.F_sorted_places.kp T.b_sorted_places .nil pass0 (pa_cons (pv 3) pa_nil)) rfl) <|
      (pss_one (ps_fld (pv 0) (pe_call (ok_sorted_places T) (hr.mono (by decide)) (by rfl) T.g_sorted_places T.F_sorted_places.kp T.b_sorted_places .nil pass0 (pa_cons (pv 4) pa_nil)) rfl))), ?_⟩
    refine ⟨_, rfl, _, rfl, _, rfl, _, rfl, s, v1, v2, v3, v4, r1, t2, r3, r4, rfl, h1, h2, h3, h4, n3, n4, ex, fun f0 H1 s1 => ?_⟩
    obtain ⟨g1, g2, g3, g4⟩ := first_none f0
    have q := q f0
    obtain ⟨a, wh, rfl, ha, la, hw⟩ := row_tx h1 (goodW_all g1)
    obtain ⟨c, bh, rfl, hc, lc, hb⟩ := row_tx h3 (goodB_all g3)
    obtain ⟨d, ah, rfl, hd, ld, hh⟩ := row_tx h4 (goodA_all g4)
    refine ⟨_, rfl, a, wh, rfl, s1 _ _ ha, la, hw, fun p1 ys1 H2 n1 h1 al1 s2 => ?_⟩
    have s12 := s1.trans s2
    have hp2 := s12 _ _ hp
    have neq : ∀ {H' : Hp} {x : Addr} {xs : List V}, H' p = some (.ins T.C_Rule dx []) → H' x = some (.lst xs) → x ≠ p := fun h1 h2 e => by rw [e, h1] at h2; cases h2
    have np1 : p1 ≠ p := neq hp2 h1
    have nc : c ≠ p := neq hp hc
    have nd' : d ≠ p := neq hp hd
    refine ⟨_, rfl, p, _, dx, _, rfl, hp2, T.cl_Rule, T.na_Rule_what, by show 0 < 1000; decide, ?_⟩
    refine ⟨_, rfl, _, rfl, p, _, dx, _, rfl, upd_same, T.cl_Rule, T.na_Rule_becomes, by show 1 < 1000; decide, ?_⟩
    refine ⟨_, rfl, c, bh, rfl, by rw [upd_ne nc, upd_ne nc]; exact s12 _ _ hc, lc, hb, fun p2 ys2 H3 n2 h2 al2 s3 => ?_⟩
    have keep3 : ∀ {b o}, b ≠ p → H b = some o → H3 b = some o := fun {b o} n e => s3 _ _ (by rw [upd_ne n, upd_ne n]; exact s12 _ _ e)
    have hp3 := s3 _ _ upd_same
    refine ⟨_, rfl, p, _, dx, _, rfl, hp3, T.cl_Rule, T.na_Rule_behind, by show 2 < 1000; decide, ?_⟩
    refine ⟨_, rfl, d, ah, rfl, by rw [upd_ne nd']; exact keep3 nd' hd, ld, hh, fun p3 ys3 H4 n3 h3 al3 s4 => ?_⟩
    have hp4 := s4 _ _ upd_same
    refine ⟨_, rfl, p, _, dx, _, rfl, hp4, T.cl_Rule, T.na_Rule_ahead, by show 3 < 1000; decide, ?_⟩
    refine q _ fun b o n e => ?_
    rw [upd_ne n]
    exact s4 _ _ (by rw [upd_ne n]; exact keep3 n e)
/-! what tries -/
def exR (CR : Addr) (Q : VK) : XK := fun cls d H => cls = .ref CR ∧ ∃ dd v, d = some dd ∧ H dd = some (.xd [("what", v)]) ∧ Q v H
def TTr (CR : Addr) (tl : XK → Hp → VK → Prop) (H : Hp) (Q : VK) : Prop := ∀ R : VK, (∀ v H', Q .non H' → R v H') → tl (exR CR Q) H R
theorem at1 {σ : L2.St} {v : V} (h : σ.length = 2) : (σ.set 1 (some v))[1]? = some (some v) := by
  rw [List.getElem?_set_self (by omega)]
theorem pss_actE {Z : Cx} {f c' : Addr} {q a : Str} {tl : XK → Hp → VK → Prop} {W : WX} {p1 p2 p3 : Pos}
    (act : ∀ (E : XK) (p1 p2 : Pos), (∀ cls d σ' H', E cls d H' → W cls d σ' H') → PE Z (.Call (.Name a p1) [] [] p2) (fun σZ HZ Q => σZ[0]? = some (some (.ref f)) ∧ HZ c' = some (CodeO c' q) ∧ tl E HZ Q)) : PSs Z [.Expr (.Call (.Name a p1) [] [] p2) p3] (Ms.tActE f c' q tl W) := by
  refine ⟨fun pins s σ H D I h => ?_⟩
  obtain ⟨Ech, hW, h1, h2, h3⟩ := h
  exact (pss_one (ps_expr (act Ech p1 p2 hW))).run pins s σ H D I ⟨h1, h2, h3⟩
theorem gives_refused {X : Cx} {q : Str} (hP : X.prog = prg) (T : Env X.K X.mg X.base) : GivesTo X n_y_refused "_law_refused" (defScope s_y_refused) T.f_y_refused (.ref T.c_y_refused) (defBody s_y_refused) "_law_ask" q (TTr T.C_NoRule) := by
  obtain ⟨prog, w, K, mg, base, A, N, s_0, H_0, env, outer, stack, ex, fn, calm, pn, xe⟩ := X
  have hP : prog = prg := hP
  subst hP
  intro f c' s H Q tl act hc h
  have nd := sc_y_refused.nd
  refine ⟨_, pss_cons (Mu.ps_try_upto rfl rfl nd L2.takes0 (fun W pn xe tk po => pss_actE (fun E p1 p2 he => act W pn xe E p1 p2 tk he))
      (.cons (c := .ref T.C_NoRule) (i := 1) ⟨rfl, rfl, .inl T.X_NoRule.gC⟩ rfl rfl (fun a oe cls d pn hz hf => pss_one (ps_ret (Ms.pe_byS T.X_NoRule hz hf (pv 1)))) .nil))
    (pss_one (ps_ret pe_non)), ?_⟩
  refine ⟨exR T.C_NoRule Q, ?_, rfl, hc, h _ fun v H' hq => hq⟩
  rintro cls d σ' H' ⟨rfl, dd, v, rfl, hd, hq⟩
  exact ⟨true, T.X_NoRule.te, fun _ a ha hl => ⟨_, at1 hl, rfl, rfl, dd, v, rfl, hd, hq⟩, (fun z => by cases z)⟩
theorem pe_lam_y_refused {X : Cx} (hP : X.prog = prg) (T : Env X.K X.mg X.base) {c Pp : Addr} {k : Nat} {params : Arguments} {body : Expr} {scope : Scope} {t : XK → TE} {p lpos pos : Pos} (hg : Gl X "_law_refused")
    (TB : TabB X.base X.mg c Pp) (hcode : X.env.code = .ref c) (hmT : (Pp, X.env.qual ++ Str.ofString "<lambda>") ∈ T.TL) (hu : ∀ p ∈ T.TL, p.1 = Pp → p.2 = X.env.qual ++ Str.ofString "<lambda>") (hr : Room (k + 2) X.A) (L : LamS X.env.scope scope)
    (hdef : defaultsOf params X.env = ([], [])) (hbind : ∀ (q : Str) (cl : List (Str × Addr)) (pm cv ctv : Value), bindArgs (PySem.W.kla_fn (Str.ofString "<lambda>") q params body scope cl pm cv ctv) {} = pure [])
    (bd : ∀ (A : Around) (outer : List PySem.Env) (s : Shared) (H : Hp) (E : XK) (f c' : Addr), Room k (A.deeper (lamEnv X scope s.heap.objs.size f c')) → PE (lamCx X A outer s H E scope f c') body (t E)) :
    PE X (.Call (.Name "_law_refused" p) [.Lambda params body scope lpos] [] pos) (tLam T.TL (TTr T.C_NoRule) t) := by
  obtain ⟨oc, od, dV, kV, doc, pm, an, ct, osl, e, lk, hcd, _⟩ := T.F_y_refused.ex
  exact pe_lamcall hg T.g_y_refused T.F_y_refused.kp (e ▸ lk) hcd (e ▸ T.b_y_refused) sc_y_refused rfl (by first | exact .inl rfl | rfl | decide) (gives_refused hP T) TB hcode hmT hu hr L hdef hbind bd
theorem mk_bad {T : Env K mg base} {s : Addr} {H : Hp} {v1 v2 v3 v4 : V} {r1 : Row} {t2 : Option (List Nat)} {r3 r4 : Row} {Q : VK} {nm : Str} (h1 : RowT s H v1 r1) (h2 : IsT s H v2 t2) (h3 : RowT s H v3 r3) (h4 : RowT s H v4 r4) (n3 : v3 ≠ .non) (n4 : v4 ≠ .non)
    (hf : first r1 t2 r3 r4 = some nm) (q : ∀ H', Same H H' → Q (.str nm) H') {R : VK} : ∀ x dx, H x = none → H dx = none → dx ≠ x → spRInit T [.ref x, v1, v2, v3, v4] (upd (upd H dx (.own x)) x (.ins T.C_Rule dx [])) R (exR T.C_NoRule Q) := by
  intro x dx hx hdx n
  have sr : Same H (upd (upd H dx (.own x)) x (.ins T.C_Rule dx [])) := (same_upd hdx).trans (same_upd (by rw [upd_ne n.symm]; exact hx))
  refine ⟨x, dx, s, v1, v2, v3, v4, r1, t2, r3, r4, rfl, upd_same, h1.same sr, h2.same sr, h3.same sr, h4.same sr, n3, n4, fun nm' H' d e s' hd => ?_, fun e => by rw [hf] at e; cases e⟩
  rw [hf] at e
  cases e
  exact ⟨rfl, d, _, rfl, hd, q _ (sr.trans s')⟩
theorem mk_good {T : Env K mg base} {s : Addr} {H : Hp} {v1 v2 v3 v4 : V} {r1 : Row} {t2 : Option (List Nat)} {r3 r4 : Row} {Q : VK} {E : XK} (h1 : RowT s H v1 r1) (h2 : IsT s H v2 t2) (h3 : RowT s H v3 r3) (h4 : RowT s H v4 r4) (n3 : v3 ≠ .non) (n4 : v4 ≠ .non)
    (hf : first r1 t2 r3 r4 = none) {R : VK} (q : ∀ H', Same H H' → R .non H') : ∀ x dx, H x = none → H dx = none → dx ≠ x → spRInit T [.ref x, v1, v2, v3, v4] (upd (upd H dx (.own x)) x (.ins T.C_Rule dx [])) R E := by
  intro x dx hx hdx n
  have sr : Same H (upd (upd H dx (.own x)) x (.ins T.C_Rule dx [])) := (same_upd hdx).trans (same_upd (by rw [upd_ne n.symm]; exact hx))
  refine ⟨x, dx, s, v1, v2, v3, v4, r1, t2, r3, r4, rfl, upd_same, h1.same sr, h2.same sr, h3.same sr, h4.same sr, n3, n4, (fun nm' H' d e => by rw [hf] at e; cases e), fun e H' b => q _ fun y o hy => ?_⟩
  exact b y o (ne_of_none hy hx) (sr _ _ hy)

/-! what the law draws -/
def In (S z : List Nat) : Prop := ∀ c ∈ z, c ∈ S
def spPlaces : Sp := fun vs H Q _ => ∃ (a : Addr) (lo hi : Int), vs = [.ref a, .int lo, .int hi] ∧ Src H a ∧ 0 ≤ lo ∧ lo ≤ hi ∧ hi ≤ 100 ∧
  ∀ p zs H', H p = none → p ≠ a → H' p = some (.lst (tx zs)) → lo ≤ zs.length → (zs.length : Int) ≤ hi → (∀ z ∈ zs, Pl z) → Src H' a → But a H H' → Q (.ref p) H'
theorem ok_places (T : Env K mg base) : FnOk P w K mg base CX0 4 T.f_y_places T.d_y_places ["_law_source_here", "_law_least", "_law_most"] spPlaces := by
  refine T.F_y_places.ok sc_y_places (fun vs H Q E h => ?_) (fun A outer s H vs Q E hr h => ?_)
  · obtain ⟨a, lo, hi, rfl, _⟩ := h
    rfl
  · obtain ⟨a, lo, hi, rfl, hS, h0, h1, h2, q⟩ := h
    have nd := sc_y_places.nd
    refine ⟨_, (pss_one (ps_ret (pe_lc (own := [("_law_k", 3)]) (g := gName 3) (tt := tYes) (by rfl) nd (pi_range1 rfl T.z_range (pa_cons (pe_op op_add (pv 1) (pe_call (ok_take T) (hr.mono (by decide)) (by rfl) T.g_y_take T.F_y_take.kp T.b_y_take .nil pass0 (pa_cons (pv 0) (pa_cons (pe_op op_add (pe_op op_sub (pv 2) (pv 1)) pe_int) pa_nil)))) pa_nil)) (blkOk_by (own := [("_law_k", 3)]) (N := n_y_places) (sc := defScope s_y_places) (by decide +kernel)) (fun _ _ _ _ _ => pg_name (i := 3) nd rfl (Or.inl rfl)) (fun _ _ _ _ _ => pts_nil) (fun _ _ _ _ _ => by exact (pe_call (ok_unlike T) (hr.mono (by decide)) (by rfl) T.g_y_unlike T.F_y_unlike.kp T.b_y_unlike .nil pass0 (pa_cons (pv 0) (pa_cons (pe_op op_add pe_int (pe_call (ok_take T) (hr.mono (by decide)) (by rfl) T.g_y_take T.F_y_take.kp T.b_y_take .nil pass0 (pa_cons (pv 0) (pa_cons pe_int pa_nil)))) pa_nil))))))), ?_⟩
    refine ⟨_, rfl, _, rfl, _, rfl, _, rfl, _, _, rfl, rfl, _, _, rfl, rfl, a, _, rfl, hS, by omega, by omega, fun r H1 r0 r1 src1 b1 => ⟨_, _, rfl, rfl, ?_⟩⟩
    refine ⟨lo + r, rfl, by omega, by omega, fun D hD => ?_⟩
    have naD : a ≠ D := src1.ne hD
    refine lc_range (lo := 0) (n := (lo + r).toNat) (fun i H' => ∃ zs : List (List Nat), zs.length = i ∧ (∀ z ∈ zs, Pl z) ∧ H' D = some (.lst (tx zs)) ∧ Src H' a ∧ ∀ b o, b ≠ a → b ≠ D → H1 b = some o → H' b = some o)
      ⟨[], rfl, fun _ h => (nomatch h), upd_same, src1.same (same_upd hD), fun b o _ n e => by rw [upd_ne n]; exact e⟩ (fun i H2 hi' hP => ?_) (fun H2 hP => ?_)
    · obtain ⟨zs, el, hz, hd, src2, k2⟩ := hP
      refine ⟨rfl, _, rfl, _, rfl, a, 4, rfl, src2, by decide, by decide, fun r4 H3 c0 c1 src3 b3 => ⟨_, _, rfl, rfl, a, _, rfl, src3, by omega, by omega, fun z H4 ez nz sz src4 b4 => ?_⟩⟩
      have pz : Pl z := ⟨by omega, by omega, nz, sz⟩
      have b34 := b3.trans b4
      have hd3 := b34 D _ naD.symm hd
      refine ⟨_, hd3, by rw [tx_len]; exact small1 (by omega), zs ++ [z], by rw [List.length_append, el]; rfl, fun y hy => ?_, by rw [upd_same]; exact congrArg (fun x => some (HO.lst x)) (List.map_append (f := fun z => V.str (ofL z)) (l₁ := zs) (l₂ := [z])).symm, ?_, fun b o n1 n2 e => by rw [upd_ne n2]; exact b34 b o n1 (k2 b o n1 n2 e)⟩
      · rcases List.mem_append.mp hy with hy | hy
        · exact hz y hy
        · rw [List.mem_singleton.mp hy]; exact pz
      · obtain ⟨x, y, u, e⟩ := src4
        exact ⟨x, y, u, by rw [upd_ne naD]; exact e⟩
    · obtain ⟨zs, el, hz, hd, src2, k2⟩ := hP
      have hD0 : H D = none := b1.free naD.symm hD
      refine q D zs H2 hD0 naD.symm hd (by omega) (by omega) hz src2 (fun b o n e => ?_)
      exact k2 b o n (ne_of_none e hD0) (b1 b o n e)
theorem at_mem {xs : List V} {r : Int} (h0 : 0 ≤ r) (h1 : r < xs.length) : ∃ v, atI xs r = some v ∧ v ∈ xs := by
  obtain ⟨j, rfl⟩ := Int.eq_ofNat_of_zero_le h0
  have hj : j < xs.length := by omega
  exact ⟨xs[j], atI_nat (List.getElem?_eq_getElem hj), List.getElem_mem hj⟩
/-- no place, nor an edge -/
def BadP (a : Addr) (H : Hp) (v : V) : Prop := ∃ t, IsT a H v t ∧ plB t = false ∧ t ≠ some EDG
theorem BadP.but {a : Addr} {H H' : Hp} {v : V} (h : BadP a H v) (b : But a H H') : BadP a H' v := by
  obtain ⟨t, h1, h2⟩ := h
  exact ⟨t, h1.but b, h2⟩
theorem badp_str {a : Addr} {H : Hp} {z : List Nat} (l : z.length ≤ 100) (h : ¬ Pl z) (e : z ≠ EDG) : BadP a H (.str (ofL z)) :=
  ⟨some z, .yes (by omega), decide_eq_false h, fun h => e (Option.some.inj h)⟩
theorem badp_sign {a : Addr} {H : Hp} {z : List Nat} {c : Nat} (l : z.length ≤ 100) (h : c ∈ z) (n : c ∉ SG) (e : z.length ≠ 1) : BadP a H (.str (ofL z)) :=
  badp_str l (fun p => n (p.2.2.2 c h)) (fun h => e (by rw [h]; rfl))
theorem badp_no {a : Addr} {H : Hp} {v : V} (h : Oth a H v) : BadP a H v := ⟨none, .no h, rfl, fun h => by cases h⟩
def spBadPl : Sp := fun vs H Q _ => ∃ a : Addr, vs = [.ref a] ∧ Src H a ∧ ∀ v H', BadP a H' v → Src H' a → But a H H' → Q v H'
theorem ok_bad_place (T : Env K mg base) : FnOk P w K mg base CX0 4 T.f_y_bad_place T.d_y_bad_place ["_law_source_here"] spBadPl := by
  refine T.F_y_bad_place.ok sc_y_bad_place (fun vs H Q E h => ?_) (fun A outer s H vs Q E hr h => ?_)
  · obtain ⟨a, rfl, _⟩ := h
    rfl
  · obtain ⟨a, rfl, hS, q⟩ := h
    have nd := sc_y_bad_place.nd
    refine ⟨_, (pss_cons (ps_set (i := 1) nd rfl (by first | exact .inl rfl | exact .inr rfl) (pe_call (ok_unlike T) (hr.mono (by decide)) (by rfl) T.g_y_unlike T.F_y_unlike.kp T.b_y_unlike .nil pass0 (pa_cons (pv 0) (pa_cons pe_int pa_nil)))) <|
      pss_cons (ps_set (i := 2) nd rfl (by first | exact .inl rfl | exact .inr rfl) (pe_call (ok_take T) (hr.mono (by decide)) (by rfl) T.g_y_take T.F_y_take.kp T.b_y_take .nil pass0 (pa_cons (pv 0) (pa_cons pe_int pa_nil)))) <|
      pss_cons (ps_set (i := 3) nd rfl (by first | exact .inl rfl | exact .inr rfl) (pe_item_str pe_str (pe_call (ok_take T) (hr.mono (by decide)) (by rfl) T.g_y_take T.F_y_take.kp T.b_y_take .nil pass0 (pa_cons (pv 0) (pa_cons pe_int pa_nil))) (fun _ _ => rfl))) <|
      pss_cons (ps_set (i := 4) nd rfl (by first | exact .inl rfl | exact .inr rfl) (pe_lst (pa_cons pe_str (pa_cons (pe_op op_add_str (pv 1) (pe_item_str (pv 1) (pe_call (ok_take T) (hr.mono (by decide)) (by rfl) T.g_y_take T.F_y_take.kp T.b_y_take .nil pass0 (pa_cons (pv 0) (pa_cons pe_int pa_nil))) (fun _ _ => rfl))) (pa_cons (pe_op op_add_str (pe_op op_add_str (pe_slice sl_str (pv 1) po_none (po_some (pv 2))) (pv 3)) (pe_slice sl_str (pv 1) (po_some (pv 2)) po_none)) (pa_cons (pe_op op_add_str (pe_op op_add_str (pe_slice sl_str (pv 1) po_none (po_some (pv 2))) pe_str) (pe_slice sl_str (pv 1) (po_some (pv 2)) po_none)) pa_nil)))))) <|
      (pss_one (ps_ret (pe_ix ix_list (pe_op op_cat (pv 4) (pe_lst (pa_cons pe_str (pa_cons pe_non (pa_cons pe_int (pa_cons (pe_lst (pa_cons (pv 1) pa_nil)) (pa_cons (pe_tup (pa_cons (pv 1) (pa_cons (pv 1) pa_nil))) pa_nil))))))) (pe_call (ok_take T) (hr.mono (by decide)) (by rfl) T.g_y_take T.F_y_take.kp T.b_y_take .nil pass0 (pa_cons (pv 0) (pa_cons pe_int pa_nil))) (fun _ _ => rfl))))), ?_⟩
    refine ⟨_, rfl, a, 3, rfl, hS, by decide, by decide, fun S H1 eS nS sS src1 b1 => ?_⟩
    have lS : S.length = 3 := by omega
    have szS : (ofL S).length ≤ sizeLine := by rw [ofL_len]; exact small2 (by omega)
    refine ⟨_, rfl, a, 4, rfl, src1, by decide, by decide, fun at_ H2 a0 a1 src2 b2 => ?_⟩
    obtain ⟨i, rfl⟩ := Int.eq_ofNat_of_zero_le a0
    refine ⟨_, rfl, a, 6, rfl, src2, by decide, by decide, fun r H3 r0 r1 src3 b3 => ?_⟩
    have oc : ∃ c, (ofL [48, 32, 45, 46, 62, 47]).cps[r.toNat]? = some c ∧ c ∉ SG := by
      rw [cps_get, sg_ofL]
      have hr' : r.toNat < 6 := by omega
      have no : ∀ c ∈ ([48, 32, 45, 46, 62, 47] : List Nat), c ∉ SG := by decide +kernel
      exact ⟨_, List.getElem?_eq_getElem hr', no _ (List.getElem_mem _)⟩
    obtain ⟨oc, eoc, noc⟩ := oc
    refine ⟨ofL [48, 32, 45, 46, 62, 47], r, oc, rfl, rfl, r0, by omega, by rw [ofL_len]; exact r1, eoc, ?_⟩
    rw [show (⟨#[oc]⟩ : Str) = ofL [oc] from rfl]
    refine ⟨_, rfl, _, rfl, _, rfl, a, 3, rfl, src3, by decide, by decide, fun k H4 k0 k1 src4 b4 => ?_⟩
    have hk : k.toNat < S.length := by omega
    refine ⟨ofL S, k, S[k.toNat], rfl, rfl, k0, by omega, by rw [ofL_len]; omega, by rw [cps_get, sg_ofL, List.getElem?_eq_getElem hk], ?_⟩
    have hc : S[k.toNat] ∈ S := List.getElem_mem _
    generalize S[k.toNat] = c at hc ⊢
    have sc : ∀ c, (⟨#[c]⟩ : Str) = ofL [c] := fun _ => rfl
    refine ⟨_, _, rfl, rfl, by rw [sc, ofL_len, ofL_len]; exact small2 (by show _ + 1 ≤ _; omega), ?_⟩
    rw [sc, S_app]
    have lt : ∀ n, (S.take n).length ≤ 3 := fun n => by rw [List.length_take]; omega
    have ld : ∀ n, (S.drop n).length ≤ 3 := fun n => by rw [List.length_drop]; omega
    refine ⟨_, rfl, _, rfl, _, rfl, ofL S, rfl, szS, ?_⟩
    rw [cut_to, sg_ofL]
    refine ⟨_, rfl, _, _, rfl, rfl, by have := lt i; rw [ofL_len, ofL_len]; exact small2 (by show _ + 1 ≤ _; omega), ?_⟩
    refine ⟨_, rfl, _, rfl, _, rfl, ofL S, rfl, szS, ?_⟩
    rw [cut_from, sg_ofL, S_app]
    refine ⟨_, _, rfl, rfl, by have := lt i; have := ld i; rw [ofL_len, ofL_len, List.length_append]; exact small2 (by show _ + 1 + _ ≤ _; omega), ?_⟩
    rw [S_app]
    refine ⟨_, rfl, _, rfl, _, rfl, ofL S, rfl, szS, ?_⟩
    rw [cut_to, sg_ofL]
    refine ⟨_, _, rfl, rfl, by have := lt i; rw [edg_eq, ofL_len, ofL_len]; exact small2 (by show _ + 1 ≤ _; omega), ?_⟩
    refine ⟨_, rfl, _, rfl, _, rfl, ofL S, rfl, szS, ?_⟩
    rw [cut_from, sg_ofL, edg_eq, S_app]
    refine ⟨_, _, rfl, rfl, by have := lt i; have := ld i; rw [ofL_len, ofL_len, List.length_append]; exact small2 (by show _ + 1 + _ ≤ _; omega), ?_⟩
    rw [S_app]
    refine ⟨by show 4 ≤ sizeLine; decide, fun l hl => ?_⟩
    have dup : BadP a H4 (.str (ofL (S ++ [c]))) := badp_str (by rw [List.length_append]; show _ + 1 ≤ _; omega) (fun p => by
      have := (List.nodup_append.mp p.2.2.1).2.2 c hc c (List.mem_singleton.mpr rfl)
      exact this rfl) (fun e => by have := congrArg List.length e; rw [List.length_append] at this; have e1 : EDG.length = 1 := rfl; have e2 : [c].length = 1 := rfl; omega)
    have len : ∀ d : Nat, (S.take i ++ [d] ++ S.drop i).length = 4 := fun d => by
      rw [List.length_append, List.length_append, List.length_take, List.length_drop]
      show _ + 1 + _ = _
      omega
    have spo : ∀ d : Nat, d ∉ SG → BadP a H4 (.str (ofL (S.take i ++ [d] ++ S.drop i))) := fun d hd => badp_sign (by rw [len]; omega) (List.mem_append_left _ (List.mem_append_right _ (List.mem_singleton.mpr rfl))) hd (by rw [len]; decide)
    have sp1 := spo oc noc
    have sp2 := spo 124 edg_no
    generalize S.take i ++ [oc] ++ S.drop i = w1 at sp1 ⊢
    generalize S.take i ++ EDG ++ S.drop i = w2 at sp2 ⊢
    generalize S ++ [c] = w3 at dup ⊢
    have s5 := same_upd hl (o := .lst [.str (Str.ofString ""), .str (ofL w3), .str (ofL w1), .str (ofL w2)])
    have hl5 : upd H4 l (.lst [.str (Str.ofString ""), .str (ofL w3), .str (ofL w1), .str (ofL w2)]) l = _ := upd_same
    generalize upd H4 l (.lst [.str (Str.ofString ""), .str (ofL w3), .str (ofL w1), .str (ofL w2)]) = H5 at s5 hl5 ⊢
    refine ⟨_, rfl, _, rfl, by show 1 ≤ sizeLine; decide, fun l1 hl1 => ?_⟩
    have s6 := same_upd hl1 (o := .lst [.str (ofL S)])
    have h61 : upd H5 l1 (.lst [.str (ofL S)]) l1 = _ := upd_same
    generalize upd H5 l1 (.lst [.str (ofL S)]) = H6 at s6 h61 ⊢
    refine ⟨_, rfl, _, rfl, by show 2 ≤ sizeLine; decide, fun t ht => ?_⟩
    have s7 := same_upd ht (o := .tup [.str (ofL S), .str (ofL S)])
    have h7t : upd H6 t (.tup [.str (ofL S), .str (ofL S)]) t = _ := upd_same
    generalize upd H6 t (.tup [.str (ofL S), .str (ofL S)]) = H7 at s7 h7t ⊢
    refine ⟨by show 5 ≤ sizeLine; decide, fun l2 hl2 => ?_⟩
    have s8 := same_upd hl2 (o := .lst [.str (Str.ofString "||"), .non, .int 4, .ref l1, .ref t])
    have h8 : upd H7 l2 (.lst [.str (Str.ofString "||"), .non, .int 4, .ref l1, .ref t]) l2 = _ := upd_same
    refine ⟨_, _, _, _, rfl, rfl, s8 _ _ (s7 _ _ (s6 _ _ hl5)), h8, by show 4 + 5 ≤ sizeLine; decide, fun p hp => ?_⟩
    generalize upd H7 l2 (.lst [.str (Str.ofString "||"), .non, .int 4, .ref l1, .ref t]) = H8 at s8 h8 hp ⊢
    have s9 := same_upd hp (o := .lst ([.str (Str.ofString ""), .str (ofL w3), .str (ofL w1), .str (ofL w2)] ++ [.str (Str.ofString "||"), .non, .int 4, .ref l1, .ref t]))
    have sl := (((s5.trans s6).trans s7).trans s8).trans s9
    have src9 := src4.same sl
    have k59 := ((s6.trans s7).trans s8).trans s9
    have na1 : l1 ≠ a := (src4.same s5).ne hl1 |>.symm
    have nat : t ≠ a := ((src4.same s5).same s6).ne ht |>.symm
    refine ⟨_, rfl, a, 9, rfl, src9, by decide, by decide, fun r9 H10 q0 q1 src10 b10 => ?_⟩
    obtain ⟨v, ev, mv⟩ := at_mem (xs := ([.str (Str.ofString ""), .str (ofL w3), .str (ofL w1), .str (ofL w2)] ++ [.str (Str.ofString "||"), .non, .int 4, .ref l1, .ref t] : List V)) q0 (by show r9 < 9; exact q1)
    have np : p ≠ a := (src4.same (((s5.trans s6).trans s7).trans s8)).ne hp |>.symm
    refine ⟨p, _, _, v, rfl, rfl, SqL.of (b10 _ _ np upd_same), ev, ?_⟩
    have bT := (Same.but (a := a) sl).trans b10
    refine q v H10 ?_ src10 ((((b1.trans b2).trans b3).trans b4).trans bT)
    have e1 : H10 l1 = some (.lst [.str (ofL S)]) := b10 _ _ na1 (s9 _ _ (s8 _ _ (s7 _ _ h61)))
    have e2 : H10 t = some (.tup [.str (ofL S), .str (ofL S)]) := b10 _ _ nat (s9 _ _ (s8 _ _ h7t))
    have all : ∀ v ∈ ([.str (ofL []), .str (ofL w3), .str (ofL w1), .str (ofL w2), .str (ofL [124, 124]), .non, .int 4, .ref l1, .ref t] : List V), BadP a H10 v := by
      refine List.forall_mem_cons.mpr ⟨badp_str (by decide) (fun h => absurd h.1 (by decide)) (by decide), List.forall_mem_cons.mpr ⟨dup.but bT, List.forall_mem_cons.mpr ⟨sp1.but bT, List.forall_mem_cons.mpr ⟨sp2.but bT, ?_⟩⟩⟩⟩
      exact List.forall_mem_cons.mpr ⟨badp_sign (c := 124) (by decide) (by decide) edg_no (by decide), List.forall_mem_cons.mpr ⟨badp_no .non, List.forall_mem_cons.mpr ⟨badp_no (.int 4), List.forall_mem_cons.mpr ⟨badp_no (.lst na1 e1), List.forall_mem_cons.mpr ⟨badp_no (.tup nat e2), fun _ h => by cases h⟩⟩⟩⟩⟩
    exact all v mv

def spWith : Sp := fun vs H Q _ => ∃ (l : Addr) (xs : List V) (i : Nat) (v : V), vs = [.ref l, .int i, v] ∧ H l = some (.lst xs) ∧ xs.length ≤ 50 ∧ ∀ p H', H p = none → H' p = some (.lst (xs.take i ++ [v] ++ xs.drop i)) → Same H H' → Q (.ref p) H'
theorem ok_with (T : Env K mg base) : FnOk P w K mg base CX0 1 T.f_y_with T.d_y_with ["_law_places_here", "_law_at", "_law_place"] spWith := by
  refine T.F_y_with.ok sc_y_with (fun vs H Q E h => ?_) (fun A outer s H vs Q E hr h => ?_)
  · obtain ⟨l, xs, i, v, rfl, _⟩ := h
    rfl
  · obtain ⟨l, xs, i, v, rfl, hl, lx, q⟩ := h
    have nd := sc_y_with.nd
    refine ⟨_, (pss_one (ps_ret (pe_op op_cat (pe_op op_cat (pe_slice sl_list (pv 0) po_none (po_some (pv 1))) (pe_lst (pa_cons (pv 2) pa_nil))) (pe_slice sl_list (pv 0) (po_some (pv 1)) po_none)))), ?_⟩
    refine ⟨_, rfl, _, rfl, _, rfl, l, xs, rfl, SqL.of hl, fun p1 hp1 => ?_⟩
    rw [cv_to]
    have s1 := same_upd hp1 (o := .lst (xs.take i))
    have h1 : upd H p1 (.lst (xs.take i)) p1 = _ := upd_same
    generalize upd H p1 (.lst (xs.take i)) = H1 at s1 h1 ⊢
    refine ⟨_, rfl, by show 1 ≤ sizeLine; decide, fun p2 hp2 => ?_⟩
    have s2 := same_upd hp2 (o := .lst [v])
    have h2 : upd H1 p2 (.lst [v]) p2 = _ := upd_same
    generalize upd H1 p2 (.lst [v]) = H2 at s2 h2 ⊢
    refine ⟨_, _, _, _, rfl, rfl, s2 _ _ h1, h2, by rw [List.length_take]; exact small2 (by show _ + 1 ≤ _; omega), fun p3 hp3 => ?_⟩
    have s3 := same_upd hp3 (o := .lst (xs.take i ++ [v]))
    have h3 : upd H2 p3 (.lst (xs.take i ++ [v])) p3 = _ := upd_same
    generalize upd H2 p3 (.lst (xs.take i ++ [v])) = H3 at s3 h3 ⊢
    have s13 := (s1.trans s2).trans s3
    refine ⟨_, rfl, _, rfl, _, rfl, l, xs, rfl, SqL.of (s13 _ _ hl), fun p4 hp4 => ?_⟩
    rw [cv_from]
    have s4 := same_upd hp4 (o := .lst (xs.drop i))
    have h4 : upd H3 p4 (.lst (xs.drop i)) p4 = _ := upd_same
    generalize upd H3 p4 (.lst (xs.drop i)) = H4 at s4 h4 ⊢
    refine ⟨_, _, _, _, rfl, rfl, s4 _ _ h3, h4, by rw [List.length_append, List.length_take, List.length_drop]; exact small2 (by show _ + 1 + _ ≤ _; omega), fun p5 hp5 => ?_⟩
    have sA := s13.trans s4
    exact q p5 _ (sA.free hp5) upd_same (sA.trans (same_upd hp5))
theorem IsT.pl {a : Addr} {H : Hp} {z : List Nat} (h : Pl z) : IsT a H (.str (ofL z)) (some z) := .yes (by have := h.2.1; omega)
theorem row_str {a : Addr} {H : Hp} : ∀ {zs : List (List Nat)}, (∀ z ∈ zs, z.length ≤ 4000) → Paired (IsT a H) (tx zs) (zs.map some)
  | [], _ => .nil
  | z :: zs, h => .cons (.yes (h z List.mem_cons_self)) (row_str fun y hy => h y (List.mem_cons_of_mem _ hy))
theorem goodW_mem {ts : List (Option (List Nat))} {t : Option (List Nat)} (h : t ∈ ts) (b : plB t = false) : goodW (some ts) = false := by
  have : ts.all plB = false := by
    rw [List.all_eq_false]
    exact ⟨t, h, by rw [b]; decide⟩
  show (decide (1 ≤ ts.length) && (decide (ts.length ≤ 3) && _)) = _
  rw [this, Bool.and_false, Bool.and_false]
theorem goodB_mem {ts : List (Option (List Nat))} {t : Option (List Nat)} (h : t ∈ ts) (b : plB t = false) (e : t ≠ some EDG) : goodB (some ts) = false := by
  have : (restB ts).all plB = false := by
    rw [List.all_eq_false]
    refine ⟨t, ?_, by rw [b]; decide⟩
    cases ts with
    | nil => cases h
    | cons u us =>
      by_cases hu : u = some EDG
      · rw [show restB (u :: us) = us from if_pos hu]
        rcases List.mem_cons.mp h with rfl | h
        · exact absurd hu e
        · exact h
      · rw [show restB (u :: us) = u :: us from if_neg hu]
        exact h
  show (decide (ts.length ≤ 2) && _) = _
  rw [this, Bool.and_false]
theorem goodA_mem {ts : List (Option (List Nat))} {t : Option (List Nat)} (h : t ∈ ts) (b : plB t = false) (e : t ≠ some EDG) : goodA (some ts) = false := by
  have : (restA ts).all plB = false := by
    rw [List.all_eq_false]
    refine ⟨t, ?_, by rw [b]; decide⟩
    by_cases hu : ts.getLast? = some (some EDG)
    · rw [show restA ts = ts.dropLast from if_pos hu]
      obtain ⟨us, rfl⟩ := List.getLast?_eq_some_iff.mp hu
      rw [List.dropLast_concat]
      rcases List.mem_append.mp h with h | h
      · exact h
      · exact absurd (List.mem_singleton.mp h) e
    · rw [show restA ts = ts from if_neg hu]
      exact h
  show (decide (ts.length ≤ 2) && _) = _
  rw [this, Bool.and_false]
theorem goodB_long {ts : List (Option (List Nat))} (h : 2 < ts.length) : goodB (some ts) = false := by
  show (decide (ts.length ≤ 2) && _) = _
  rw [decide_eq_false (by omega), Bool.false_and]
theorem goodA_long {ts : List (Option (List Nat))} (h : 2 < ts.length) : goodA (some ts) = false := by
  show (decide (ts.length ≤ 2) && _) = _
  rw [decide_eq_false (by omega), Bool.false_and]
theorem pl_edg : plB (some EDG) = false := (decide_eq_false (fun h : Pl EDG => edg_no (h.2.2.2 124 List.mem_cons_self)) : decide (Pl EDG) = false)
def spBadW : Sp := fun vs H Q _ => ∃ a : Addr, vs = [.ref a] ∧ Src H a ∧ ∀ v r H', RowT a H' v r → goodW r = false → Src H' a → But a H H' → Q v H'
theorem ok_bad_what (T : Env K mg base) : FnOk P w K mg base CX0 5 T.f_y_bad_what T.d_y_bad_what ["_law_source_here"] spBadW := by
  refine T.F_y_bad_what.ok sc_y_bad_what (fun vs H Q E h => ?_) (fun A outer s H vs Q E hr h => ?_)
  · obtain ⟨a, rfl, _⟩ := h
    rfl
  · obtain ⟨a, rfl, hS, q⟩ := h
    have nd := sc_y_bad_what.nd
    refine ⟨_, (pss_cons (ps_set (i := 1) nd rfl (by first | exact .inl rfl | exact .inr rfl) (pe_call (ok_take T) (hr.mono (by decide)) (by rfl) T.g_y_take T.F_y_take.kp T.b_y_take .nil pass0 (pa_cons (pv 0) (pa_cons pe_int pa_nil)))) <|
      pss_cons (ps_set (i := 2) nd rfl (by first | exact .inl rfl | exact .inr rfl) (pe_call (ok_places T) (hr.mono (by decide)) (by rfl) T.g_y_places T.F_y_places.kp T.b_y_places .nil pass0 (pa_cons (pv 0) (pa_cons pe_int (pa_cons pe_int pa_nil))))) <|
      pss_cons (ps_set (i := 3) nd rfl (by first | exact .inl rfl | exact .inr rfl) (pe_call (ok_bad_place T) (hr.mono (by decide)) (by rfl) T.g_y_bad_place T.F_y_bad_place.kp T.b_y_bad_place .nil pass0 (pa_cons (pv 0) pa_nil))) <|
      pss_cons (ps_if (pt_cmpR op_lt (pv 1) pe_int (nomark _))
        (pss_one (ps_ret (pe_call (ok_with T) (hr.mono (by decide)) (by rfl) T.g_y_with T.F_y_with.kp T.b_y_with .nil pass0 (pa_cons (pv 2) (pa_cons (pe_call (ok_take T) (hr.mono (by decide)) (by rfl) T.g_y_take T.F_y_take.kp T.b_y_take .nil pass0 (pa_cons (pv 0) (pa_cons (pe_op op_add (pe_callB call_len_seq (by rfl) T.z_len PySem.boot_len (pa_cons (pv 2) pa_nil)) pe_int) pa_nil))) (pa_cons (pv 3) pa_nil))))))
        pss_nil) <|
      pss_cons (ps_if (pt_cmpR op_eq (pv 1) pe_int (nomark _))
        (pss_one (ps_ret (pe_call (ok_with T) (hr.mono (by decide)) (by rfl) T.g_y_with T.F_y_with.kp T.b_y_with .nil pass0 (pa_cons (pv 2) (pa_cons (pe_call (ok_take T) (hr.mono (by decide)) (by rfl) T.g_y_take T.F_y_take.kp T.b_y_take .nil pass0 (pa_cons (pv 0) (pa_cons (pe_op op_add (pe_callB call_len_seq (by rfl) T.z_len PySem.boot_len (pa_cons (pv 2) pa_nil)) pe_int) pa_nil))) (pa_cons pe_str pa_nil))))))
        pss_nil) <|
      (pss_one (ps_ret (pe_ix ix_list (pe_lst (pa_cons (pe_lst pa_nil) (pa_cons (pe_op op_rep (pe_slice sl_list (pv 2) po_none (po_some pe_int)) pe_int) (pa_cons (pe_ix ix_list (pe_lst (pa_cons pe_non (pa_cons (pe_ix ix_list (pv 2) pe_int (fun _ _ => rfl)) (pa_cons (pe_tup (pa_cons (pe_ix ix_list (pv 2) pe_int (fun _ _ => rfl)) (pa_cons pe_str pa_nil))) (pa_cons pe_int pa_nil))))) (pe_call (ok_take T) (hr.mono (by decide)) (by rfl) T.g_y_take T.F_y_take.kp T.b_y_take .nil pass0 (pa_cons (pv 0) (pa_cons pe_int pa_nil))) (fun _ _ => rfl)) pa_nil)))) (pe_op op_sub (pv 1) pe_int) (fun _ _ => rfl))))), ?_⟩
    refine ⟨_, rfl, a, 8, rfl, hS, by decide, by decide, fun way H1 w0 w1 src1 b1 => ?_⟩
    refine ⟨_, rfl, a, 1, 2, rfl, src1, by decide, by decide, by decide, fun g zs H2 ng nga hg l1 l2 hz src2 b2 => ?_⟩
    refine ⟨_, rfl, a, rfl, src2, fun v H3 bp src3 b3 => ?_⟩
    have hg3 := b3 _ _ nga hg
    have b13 := (b1.trans b2).trans b3
    have rows : ∀ {H' : Hp}, Paired (IsT a H') (tx zs) (zs.map some) := fun {H'} => row_str fun z h => by have := (hz z h).2.1; omega
    -- with a bad one
    have withB : ∀ (v : V) (H4 : Hp) (i : Nat), BadP a H4 v ∨ v = .str (ofL EDG) → H4 g = some (.lst (tx zs)) → Src H4 a → But a H H4 → spWith [.ref g, .int i, v] H4 Q (fun _ _ _ => False) := by
      intro v H4 i hv hg4 src4 b4
      refine ⟨g, tx zs, i, v, rfl, hg4, by rw [tx_len]; omega, fun p H5 np hp s5 => ?_⟩
      have npa : p ≠ a := (src4.ne np).symm
      have : ∃ t, IsT a H5 v t ∧ plB t = false := by
        rcases hv with ⟨t, h1, h2, _⟩ | rfl
        · exact ⟨t, h1.same s5, h2⟩
        · exact ⟨some EDG, .yes (by decide), pl_edg⟩
      obtain ⟨t, ht, bt⟩ := this
      refine q _ _ H5 (.yes npa hp (pr_app (pr_app (pr_take i rows) (.cons ht .nil)) (pr_drop i rows)) ?_) (goodW_mem (t := t) (List.mem_append_left _ (List.mem_append_right _ (List.mem_singleton.mpr rfl))) bt) (src4.same s5) (b4.trans (Same.but s5))
      rw [List.length_append, List.length_append, List.length_take, List.length_drop, tx_len]
      show _ + 1 + _ ≤ _
      omega
    refine ⟨_, rfl, _, _, rfl, rfl, _, rfl, ite2 (fun c => ?_) (fun c => ?_)⟩
    · refine ⟨_, rfl, _, rfl, _, rfl, g, _, rfl, .inl (SqL.of hg3), _, _, rfl, rfl, a, _, rfl, src3, by rw [tx_len]; omega, by rw [tx_len]; omega, fun r H4 r0 r1 src4 b4 => ?_⟩
      obtain ⟨i, rfl⟩ := Int.eq_ofNat_of_zero_le r0
      exact ⟨_, rfl, withB v H4 i (.inl (bp.but b4)) (b4 _ _ nga hg3) src4 (b13.trans b4)⟩
    refine ⟨_, rfl, rfl, _, rfl, ite2 (fun c2 => ?_) (fun c2 => ?_)⟩
    · refine ⟨_, rfl, _, rfl, _, rfl, g, _, rfl, .inl (SqL.of hg3), _, _, rfl, rfl, a, _, rfl, src3, by rw [tx_len]; omega, by rw [tx_len]; omega, fun r H4 r0 r1 src4 b4 => ?_⟩
      obtain ⟨i, rfl⟩ := Int.eq_ofNat_of_zero_le r0
      exact withB _ H4 i (.inr rfl) (b4 _ _ nga hg3) src4 (b13.trans b4)
    -- the rest
    have c' : ¬ way < 4 := fun h => c (decide_eq_true h)
    have c2' : way ≠ 4 := fun h => c2 (decide_eq_true (congrArg V.int h))
    obtain ⟨z0, zr, rfl⟩ : ∃ z0 zr, zs = z0 :: zr := by
      cases zs with
      | nil => exact absurd l1 (by decide)
      | cons z0 zr => exact ⟨z0, zr, rfl⟩
    have hx : (tx (z0 :: zr))[0]? = some (.str (ofL z0)) := rfl
    have pz := hz z0 List.mem_cons_self
    refine ⟨by show 0 ≤ sizeLine; decide, fun p0 hp0 => ?_⟩
    have s4 := same_upd hp0 (o := .lst [])
    have h40 : upd H3 p0 (.lst []) p0 = _ := upd_same
    have np0 : p0 ≠ a := (src3.ne hp0).symm
    generalize upd H3 p0 (.lst []) = H4 at s4 h40 ⊢
    refine ⟨_, rfl, _, rfl, g, _, rfl, SqL.of (s4 _ _ hg3), fun p1 hp1 => ?_⟩
    have e1 : cutV (tx (z0 :: zr)) none (some 1) = [.str (ofL z0)] := cv_to _ 1
    rw [e1]
    have s5 := same_upd hp1 (o := .lst [.str (ofL z0)])
    have h51 : upd H4 p1 (.lst [.str (ofL z0)]) p1 = _ := upd_same
    generalize upd H4 p1 (.lst [.str (ofL z0)]) = H5 at s5 h51 ⊢
    refine ⟨p1, _, _, rfl, rfl, h51, by decide, by decide, by show 1 * 4 ≤ sizeLine; decide, fun p2 hp2 => ?_⟩
    have s6 := same_upd hp2 (o := .lst (List.replicate (4 : Int).toNat [V.str (ofL z0)]).flatten)
    have h62 : upd H5 p2 (.lst (List.replicate (4 : Int).toNat [V.str (ofL z0)]).flatten) p2 = some (.lst [.str (ofL z0), .str (ofL z0), .str (ofL z0), .str (ofL z0)]) := upd_same
    have np2 : p2 ≠ a := ((src3.same s4).same s5).ne hp2 |>.symm
    generalize upd H5 p2 (.lst (List.replicate (4 : Int).toNat [V.str (ofL z0)]).flatten) = H6 at s6 h62 ⊢
    have s36 := (s4.trans s5).trans s6
    refine ⟨_, rfl, g, _, _, _, rfl, rfl, SqL.of (s36 _ _ hg3), atI_nat (j := 0) hx, ?_⟩
    refine ⟨_, rfl, g, _, _, _, rfl, rfl, SqL.of (s36 _ _ hg3), atI_nat (j := 0) hx, ?_⟩
    refine ⟨by show 2 ≤ sizeLine; decide, fun t ht => ?_⟩
    have s7 := same_upd ht (o := .tup [.str (ofL z0), .str (Str.ofString "a")])
    have h7t : upd H6 t (.tup [.str (ofL z0), .str (Str.ofString "a")]) t = _ := upd_same
    have nt : t ≠ a := (src3.same s36).ne ht |>.symm
    generalize upd H6 t (.tup [.str (ofL z0), .str (Str.ofString "a")]) = H7 at s7 h7t ⊢
    refine ⟨by show 4 ≤ sizeLine; decide, fun l4 hl4 => ?_⟩
    have s8 := same_upd hl4 (o := .lst [.non, .str (ofL z0), .ref t, .int 5])
    have h84 : upd H7 l4 (.lst [.non, .str (ofL z0), .ref t, .int 5]) l4 = _ := upd_same
    have s38 := (s36.trans s7).trans s8
    have nl4 : l4 ≠ a := (src3.same (s36.trans s7)).ne hl4 |>.symm
    generalize upd H7 l4 (.lst [.non, .str (ofL z0), .ref t, .int 5]) = H8 at s8 h84 s38 ⊢
    refine ⟨_, rfl, a, 4, rfl, src3.same s38, by decide, by decide, fun r H9 r0 r1 src9 b9 => ?_⟩
    obtain ⟨v4, ev4, mv4⟩ := at_mem (xs := ([.non, .str (ofL z0), .ref t, .int 5] : List V)) r0 (by show r < 4; exact r1)
    refine ⟨l4, _, _, v4, rfl, rfl, SqL.of (b9 _ _ nl4 h84), ev4, ?_⟩
    refine ⟨by show 3 ≤ sizeLine; decide, fun L hL => ?_⟩
    have s10 := same_upd hL (o := .lst [.ref p0, .ref p2, v4])
    refine ⟨_, rfl, _, _, rfl, rfl, ?_⟩
    obtain ⟨v, ev, mv⟩ := at_mem (xs := ([.ref p0, .ref p2, v4] : List V)) (r := way - 5) (by omega) (by show way - 5 < 3; omega)
    refine ⟨L, _, _, v, rfl, rfl, SqL.of upd_same, ev, ?_⟩
    have kp : ∀ {b o}, b ≠ a → H8 b = some o → upd H9 L (.lst [.ref p0, .ref p2, v4]) b = some o := fun {b o} n e => s10 _ _ (b9 _ _ n e)
    have bT : But a H3 (upd H9 L (.lst [.ref p0, .ref p2, v4])) := ((Same.but s38).trans b9).trans (Same.but s10)
    have n4 : ∀ v ∈ ([.non, .str (ofL z0), .ref t, .int 5] : List V), NotL a (upd H9 L (.lst [.ref p0, .ref p2, v4])) v :=
      List.forall_mem_cons.mpr ⟨.non, List.forall_mem_cons.mpr ⟨.str _, List.forall_mem_cons.mpr ⟨.tup nt (kp nt (s8 _ _ h7t)), List.forall_mem_cons.mpr ⟨.int 5, fun _ h => by cases h⟩⟩⟩⟩
    have i0 : IsT a (upd H9 L (.lst [.ref p0, .ref p2, v4])) (.str (ofL z0)) (some z0) := IsT.pl pz
    have all : ∀ v ∈ ([.ref p0, .ref p2, v4] : List V), ∃ r, RowT a (upd H9 L (.lst [.ref p0, .ref p2, v4])) v r ∧ goodW r = false :=
      List.forall_mem_cons.mpr ⟨⟨_, .yes np0 (kp np0 (s8 _ _ (s7 _ _ (s6 _ _ (s5 _ _ h40))))) .nil (by decide), rfl⟩,
        List.forall_mem_cons.mpr ⟨⟨_, .yes np2 (kp np2 (s8 _ _ (s7 _ _ h62))) (.cons i0 (.cons i0 (.cons i0 (.cons i0 .nil)))) (by show 4 ≤ 100; decide), rfl⟩,
          List.forall_mem_cons.mpr ⟨⟨none, .no (n4 v4 mv4), rfl⟩, fun _ h => by cases h⟩⟩⟩
    obtain ⟨rw_, h1, h2⟩ := all v mv
    exact q v rw_ _ h1 h2 (src9.same s10) (b13.trans bT)

def spBadPut : Sp := fun vs H Q _ => ∃ a : Addr, vs = [.ref a] ∧ Src H a ∧ ∀ v t H', IsT a H' v t → goodP t = false → Src H' a → But a H H' → Q v H'
theorem goodP_long {z : List Nat} (h : 3 < z.length) : goodP (some z) = false := (decide_eq_false (fun p : z.length ≤ 3 ∧ ∀ c ∈ z, c ∈ SG => by have := p.1; omega) : decide _ = false)
theorem goodP_sign {z : List Nat} {c : Nat} (h : c ∈ z) (n : c ∉ SG) : goodP (some z) = false := (decide_eq_false (fun p : z.length ≤ 3 ∧ ∀ c ∈ z, c ∈ SG => n (p.2 c h)) : decide _ = false)
theorem ok_bad_put (T : Env K mg base) : FnOk P w K mg base CX0 4 T.f_y_bad_put T.d_y_bad_put ["_law_source_here"] spBadPut := by
  refine T.F_y_bad_put.ok sc_y_bad_put (fun vs H Q E h => ?_) (fun A outer s H vs Q E hr h => ?_)
  · obtain ⟨a, rfl, _⟩ := h
    rfl
  · obtain ⟨a, rfl, hS, q⟩ := h
    have nd := sc_y_bad_put.nd
    refine ⟨_, (pss_cons (ps_set (i := 1) nd rfl (by first | exact .inl rfl | exact .inr rfl) (pe_call (ok_unlike T) (hr.mono (by decide)) (by rfl) T.g_y_unlike T.F_y_unlike.kp T.b_y_unlike .nil pass0 (pa_cons (pv 0) (pa_cons pe_int pa_nil)))) <|
      pss_cons (ps_set (i := 2) nd rfl (by first | exact .inl rfl | exact .inr rfl) (pe_call (ok_take T) (hr.mono (by decide)) (by rfl) T.g_y_take T.F_y_take.kp T.b_y_take .nil pass0 (pa_cons (pv 0) (pa_cons pe_int pa_nil)))) <|
      pss_cons (ps_set (i := 3) nd rfl (by first | exact .inl rfl | exact .inr rfl) (pe_item_str pe_str (pe_call (ok_take T) (hr.mono (by decide)) (by rfl) T.g_y_take T.F_y_take.kp T.b_y_take .nil pass0 (pa_cons (pv 0) (pa_cons pe_int pa_nil))) (fun _ _ => rfl))) <|
      pss_cons (ps_set (i := 4) nd rfl (by first | exact .inl rfl | exact .inr rfl) (pe_lst (pa_cons (pv 1) (pa_cons (pe_op op_add_str (pe_slice sl_str (pv 1) (po_some pe_int) po_none) (pv 1)) (pa_cons (pe_op op_add_str (pe_slice sl_str (pv 1) (po_some pe_int) (po_some (pv 2))) (pv 3)) (pa_cons pe_non (pa_cons pe_int (pa_cons (pe_lst (pa_cons (pe_item_str (pv 1) pe_int (fun _ _ => rfl)) pa_nil)) (pa_cons (pe_tup (pa_cons (pe_item_str (pv 1) pe_int (fun _ _ => rfl)) (pa_cons (pe_item_str (pv 1) pe_int (fun _ _ => rfl)) pa_nil))) pa_nil))))))))) <|
      (pss_one (ps_ret (pe_ix ix_list (pv 4) (pe_call (ok_take T) (hr.mono (by decide)) (by rfl) T.g_y_take T.F_y_take.kp T.b_y_take .nil pass0 (pa_cons (pv 0) (pa_cons pe_int pa_nil))) (fun _ _ => rfl))))), ?_⟩
    refine ⟨_, rfl, a, 4, rfl, hS, by decide, by decide, fun S H1 eS nS sS src1 b1 => ?_⟩
    have lS : S.length = 4 := by omega
    have szS : (ofL S).length ≤ sizeLine := by rw [ofL_len]; exact small2 (by omega)
    refine ⟨_, rfl, a, 4, rfl, src1, by decide, by decide, fun at_ H2 a0 a1 src2 b2 => ?_⟩
    obtain ⟨i, rfl⟩ := Int.eq_ofNat_of_zero_le a0
    refine ⟨_, rfl, a, 5, rfl, src2, by decide, by decide, fun r H3 r0 r1 src3 b3 => ?_⟩
    have oc : ∃ c, (ofL [48, 32, 124, 46, 126]).cps[r.toNat]? = some c ∧ c ∉ SG := by
      rw [cps_get, sg_ofL]
      have hr' : r.toNat < 5 := by omega
      have no : ∀ c ∈ ([48, 32, 124, 46, 126] : List Nat), c ∉ SG := by decide +kernel
      exact ⟨_, List.getElem?_eq_getElem hr', no _ (List.getElem_mem _)⟩
    obtain ⟨oc, eoc, noc⟩ := oc
    refine ⟨ofL [48, 32, 124, 46, 126], r, oc, rfl, rfl, r0, by omega, by rw [ofL_len]; exact r1, eoc, ?_⟩
    rw [show (⟨#[oc]⟩ : Str) = ofL [oc] from rfl]
    refine ⟨_, rfl, _, rfl, _, rfl, ofL S, rfl, szS, ?_⟩
    have eS1 : cutS (ofL S) (some 1) none = ofL (S.drop 1) := by rw [show (1 : Int) = ((1 : Nat) : Int) from rfl, cut_from, sg_ofL]
    rw [eS1]
    refine ⟨_, rfl, _, _, rfl, rfl, by rw [ofL_len, ofL_len, List.length_drop]; exact small2 (by omega), ?_⟩
    rw [S_app]
    refine ⟨_, rfl, _, rfl, _, rfl, _, rfl, ofL S, rfl, szS, ?_⟩
    obtain ⟨z, ez, lz⟩ : ∃ z : List Nat, cutS (ofL S) (some 1) (some (i : Int)) = ofL z ∧ z.length ≤ 4 := by
      refine ⟨((ofL S).cps.toList.drop (HT.sIx (ofL S).length 0 (some 1))).take (HT.sIx (ofL S).length (ofL S).length (some (i : Int)) - HT.sIx (ofL S).length 0 (some 1)), ext_sg rfl, ?_⟩
      rw [List.length_take, List.length_drop]
      have : (ofL S).cps.toList.length = 4 := lS
      omega
    rw [ez]
    refine ⟨_, rfl, _, _, rfl, rfl, by rw [ofL_len, ofL_len]; exact small2 (by show _ + 1 ≤ _; omega), ?_⟩
    rw [S_app]
    have it : ∀ (k : Nat) (hk : k < S.length), (ofL S).cps[k]? = some S[k] := fun k hk => by rw [cps_get, sg_ofL, List.getElem?_eq_getElem hk]
    refine ⟨_, rfl, ofL S, 0, S[0], rfl, rfl, by decide, by decide, by rw [ofL_len]; omega, it 0 (by omega), ?_⟩
    refine ⟨by show 1 ≤ sizeLine; decide, fun l1 hl1 => ?_⟩
    have s4 := same_upd hl1 (o := .lst [.str ⟨#[S[0]]⟩])
    have h41 : upd H3 l1 (.lst [.str ⟨#[S[0]]⟩]) l1 = _ := upd_same
    have n1 : l1 ≠ a := (src3.ne hl1).symm
    generalize upd H3 l1 (.lst [.str ⟨#[S[0]]⟩]) = H4 at s4 h41 ⊢
    refine ⟨_, rfl, ofL S, 0, S[0], rfl, rfl, by decide, by decide, by rw [ofL_len]; omega, it 0 (by omega), ?_⟩
    refine ⟨_, rfl, ofL S, 1, S[1], rfl, rfl, by decide, by decide, by rw [ofL_len]; omega, it 1 (by omega), ?_⟩
    refine ⟨by show 2 ≤ sizeLine; decide, fun t ht => ?_⟩
    have s5 := same_upd ht (o := .tup [.str ⟨#[S[0]]⟩, .str ⟨#[S[1]]⟩])
    have h5t : upd H4 t (.tup [.str ⟨#[S[0]]⟩, .str ⟨#[S[1]]⟩]) t = _ := upd_same
    have n2 : t ≠ a := ((src3.same s4).ne ht).symm
    generalize upd H4 t (.tup [.str ⟨#[S[0]]⟩, .str ⟨#[S[1]]⟩]) = H5 at s5 h5t ⊢
    refine ⟨by show 7 ≤ sizeLine; decide, fun L hL => ?_⟩
    have s6 := same_upd hL (o := .lst [.str (ofL S), .str (ofL (S.drop 1 ++ S)), .str (ofL (z ++ [oc])), .non, .int 3, .ref l1, .ref t])
    have h6 : upd H5 L (.lst [.str (ofL S), .str (ofL (S.drop 1 ++ S)), .str (ofL (z ++ [oc])), .non, .int 3, .ref l1, .ref t]) L = _ := upd_same
    have nL : L ≠ a := ((src3.same (s4.trans s5)).ne hL).symm
    generalize upd H5 L (.lst [.str (ofL S), .str (ofL (S.drop 1 ++ S)), .str (ofL (z ++ [oc])), .non, .int 3, .ref l1, .ref t]) = H6 at s6 h6 ⊢
    have s36 := (s4.trans s5).trans s6
    refine ⟨_, rfl, _, rfl, a, 7, rfl, src3.same s36, by decide, by decide, fun r7 H7 q0 q1 src7 b7 => ?_⟩
    obtain ⟨v, ev, mv⟩ := at_mem (xs := ([.str (ofL S), .str (ofL (S.drop 1 ++ S)), .str (ofL (z ++ [oc])), .non, .int 3, .ref l1, .ref t] : List V)) q0 (by show r7 < 7; exact q1)
    refine ⟨L, _, _, v, rfl, rfl, SqL.of (b7 _ _ nL h6), ev, ?_⟩
    have all : ∀ v ∈ ([.str (ofL S), .str (ofL (S.drop 1 ++ S)), .str (ofL (z ++ [oc])), .non, .int 3, .ref l1, .ref t] : List V), ∃ t, IsT a H7 v t ∧ goodP t = false :=
      List.forall_mem_cons.mpr ⟨⟨_, .yes (by omega), goodP_long (by omega)⟩,
       List.forall_mem_cons.mpr ⟨⟨_, .yes (by rw [List.length_append, List.length_drop]; omega), goodP_long (by rw [List.length_append, List.length_drop]; omega)⟩,
        List.forall_mem_cons.mpr ⟨⟨_, .yes (by rw [List.length_append]; show _ + 1 ≤ _; omega), goodP_sign (List.mem_append_right _ (List.mem_singleton.mpr rfl)) noc⟩,
         List.forall_mem_cons.mpr ⟨⟨none, .no .non, rfl⟩, List.forall_mem_cons.mpr ⟨⟨none, .no (.int 3), rfl⟩,
          List.forall_mem_cons.mpr ⟨⟨none, .no (.lst n1 (b7 _ _ n1 (s6 _ _ (s5 _ _ h41)))), rfl⟩,
           List.forall_mem_cons.mpr ⟨⟨none, .no (.tup n2 (b7 _ _ n2 (s6 _ _ h5t))), rfl⟩, fun _ h => by cases h⟩⟩⟩⟩⟩⟩⟩
    obtain ⟨t', h1, h2⟩ := all v mv
    exact q v t' _ h1 h2 src7 (((b1.trans b2).trans b3).trans ((Same.but s36).trans b7))
def badB (e : Bool) (r : Row) : Prop := if e = true then goodB r = false else goodA r = false
theorem badB_mem {e : Bool} {ts : List (Option (List Nat))} {t : Option (List Nat)} (h : t ∈ ts) (b : plB t = false) (n : t ≠ some EDG) : badB e (some ts) := by
  cases e with
  | true => exact iteT (goodB_mem h b n)
  | false => exact iteF (goodA_mem h b n)
theorem badB_none {e : Bool} : badB e none := by
  cases e with
  | true => exact iteT rfl
  | false => exact iteF rfl
def spBadB : Sp := fun vs H Q _ => ∃ (a : Addr) (e : Bool), vs = [.ref a, .bl e] ∧ Src H a ∧ ∀ v r H', RowT a H' v r → badB e r → v ≠ .non → Src H' a → But a H H' → Q v H'
theorem ok_bad_beside (T : Env K mg base) : FnOk P w K mg base CX0 5 T.f_y_bad_beside T.d_y_bad_beside ["_law_source_here", "_law_edge_first"] spBadB := by
  refine T.F_y_bad_beside.ok sc_y_bad_beside (fun vs H Q E h => ?_) (fun A outer s H vs Q E hr h => ?_)
  · obtain ⟨a, e, rfl, _⟩ := h
    rfl
  · obtain ⟨a, e, rfl, hS, q⟩ := h
    have nd := sc_y_bad_beside.nd
    refine ⟨_, (pss_cons (ps_set (i := 2) nd rfl (by first | exact .inl rfl | exact .inr rfl) (pe_call (ok_take T) (hr.mono (by decide)) (by rfl) T.g_y_take T.F_y_take.kp T.b_y_take .nil pass0 (pa_cons (pv 0) (pa_cons pe_int pa_nil)))) <|
      pss_cons (ps_set (i := 3) nd rfl (by first | exact .inl rfl | exact .inr rfl) (pe_call (ok_places T) (hr.mono (by decide)) (by rfl) T.g_y_places T.F_y_places.kp T.b_y_places .nil pass0 (pa_cons (pv 0) (pa_cons pe_int (pa_cons pe_int pa_nil))))) <|
      pss_cons (ps_set (i := 4) nd rfl (by first | exact .inl rfl | exact .inr rfl) (pe_call (ok_bad_place T) (hr.mono (by decide)) (by rfl) T.g_y_bad_place T.F_y_bad_place.kp T.b_y_bad_place .nil pass0 (pa_cons (pv 0) pa_nil))) <|
      pss_cons (ps_if (pt_cmpR op_lt (pv 2) pe_int (nomark _))
        (pss_one (ps_ret (pe_call (ok_with T) (hr.mono (by decide)) (by rfl) T.g_y_with T.F_y_with.kp T.b_y_with .nil pass0 (pa_cons (pv 3) (pa_cons (pe_call (ok_take T) (hr.mono (by decide)) (by rfl) T.g_y_take T.F_y_take.kp T.b_y_take .nil pass0 (pa_cons (pv 0) (pa_cons pe_int pa_nil))) (pa_cons (pv 4) pa_nil))))))
        pss_nil) <|
      pss_cons (ps_if (PW.pt (pw_and (pt_cmpR op_eq (pv 2) pe_int (nomark _)) (pw_and1 (pt_val (pv 1)))))
        (pss_one (ps_ret (pe_op op_cat (pv 3) (pe_lst (pa_cons pe_str pa_nil)))))
        pss_nil) <|
      pss_cons (ps_if (pt_cmpR op_eq (pv 2) pe_int (nomark _))
        (pss_one (ps_ret (pe_op op_cat (pe_lst (pa_cons pe_str pa_nil)) (pv 3))))
        pss_nil) <|
      pss_cons (ps_set (i := 5) nd rfl (by first | exact .inl rfl | exact .inr rfl) (pe_lst (pa_cons (pe_op op_rep (pv 3) pe_int) (pa_cons (pe_op op_cat (pe_op op_rep (pe_lst (pa_cons pe_str pa_nil)) pe_int) (pe_op op_rep (pv 3) (pe_callTy call_int1 (by rfl) T.z_int (by rfl) (pa_cons (pv 1) pa_nil)))) (pa_cons (pe_ix ix_list (pv 3) pe_int (fun _ _ => rfl)) (pa_cons (pe_tup (pa_cons (pe_ix ix_list (pv 3) pe_int (fun _ _ => rfl)) (pa_cons pe_str pa_nil))) (pa_cons pe_int (pa_cons pe_str pa_nil)))))))) <|
      (pss_one (ps_ret (pe_ix ix_list (pv 5) (pe_call (ok_take T) (hr.mono (by decide)) (by rfl) T.g_y_take T.F_y_take.kp T.b_y_take .nil pass0 (pa_cons (pv 0) (pa_cons pe_int pa_nil))) (fun _ _ => rfl))))), ?_⟩
    refine ⟨_, rfl, a, 7, rfl, hS, by decide, by decide, fun way H1 w0 w1 src1 b1 => ?_⟩
    refine ⟨_, rfl, a, 1, 1, rfl, src1, by decide, by decide, by decide, fun g zs H2 ng nga hg l1 l2 hz src2 b2 => ?_⟩
    refine ⟨_, rfl, a, rfl, src2, fun v H3 bp src3 b3 => ?_⟩
    obtain ⟨z0, rfl⟩ : ∃ z0, zs = [z0] := by
      cases zs with
      | nil => exact absurd l1 (by decide)
      | cons z0 zr => cases zr with
        | nil => exact ⟨z0, rfl⟩
        | cons _ _ => simp only [List.length_cons] at l2; omega
    have pz := hz z0 List.mem_cons_self
    have hg3 : H3 g = some (.lst [.str (ofL z0)]) := b3 _ _ nga hg
    have b13 := (b1.trans b2).trans b3
    have i0 : ∀ {H' : Hp}, IsT a H' (.str (ofL z0)) (some z0) := fun {H'} => IsT.pl pz
    have ne0 : (some z0 : Option (List Nat)) ≠ some EDG := fun h => pl_ne pz (Option.some.inj h)
    refine ⟨_, rfl, _, _, rfl, rfl, _, rfl, ite2 (fun c => ?_) (fun c => ?_)⟩
    · refine ⟨_, rfl, _, rfl, a, 2, rfl, src3, by decide, by decide, fun r H4 r0 r1 src4 b4 => ?_⟩
      obtain ⟨i, rfl⟩ := Int.eq_ofNat_of_zero_le r0
      obtain ⟨t, ht, bt, et⟩ := bp.but b4
      refine ⟨_, rfl, g, [.str (ofL z0)], i, v, rfl, b4 _ _ nga hg3, by show 1 ≤ 50; decide, fun p H5 np hp s5 => ?_⟩
      have npa : p ≠ a := (src4.ne np).symm
      refine q _ _ H5 (.yes npa hp (pr_app (pr_app (pr_take i (.cons i0 .nil)) (.cons (ht.same s5) .nil)) (pr_drop i (.cons i0 .nil))) ?_) (badB_mem (t := t) (List.mem_append_left _ (List.mem_append_right _ (List.mem_singleton.mpr rfl))) bt et) (fun h => by cases h) (src4.same s5) ((b13.trans b4).trans (Same.but s5))
      rw [List.length_append, List.length_append, List.length_take, List.length_drop]
      show _ + 1 + (1 - _) ≤ _
      have : min i ([V.str (ofL z0)] : List V).length ≤ 1 := Nat.min_le_right _ _
      omega
    refine ⟨_, rfl, rfl, _, rfl, ?_⟩
    have c4 : (1 : Nat) + 1 ≤ sizeLine := by decide
    by_cases c3 : way = 3
    · subst c3
      rw [decide_eq_true rfl]
      refine iteT ⟨_, rfl, e, rfl, ?_⟩
      cases e with
      | true =>
        refine iteT ⟨_, rfl, by show 1 ≤ sizeLine; decide, fun l hl => ?_⟩
        have s4 := same_upd hl (o := .lst [.str (Str.ofString "|")])
        refine ⟨_, _, _, _, rfl, rfl, s4 _ _ hg3, upd_same, c4, fun p hp => ?_⟩
        have np : p ≠ a := ((src3.same s4).ne hp).symm
        have s5 := s4.trans (same_upd hp (o := .lst ([.str (ofL z0)] ++ [.str (Str.ofString "|")])))
        refine q _ (some [some z0, some EDG]) _ (.yes np upd_same (.cons i0 (.cons (IsT.yes (z := EDG) (by decide)) .nil)) (by show 2 ≤ 100; decide)) (iteT ?_) (fun h => by cases h) (src3.same s5) (b13.trans (Same.but s5))
        show (decide (2 ≤ 2) && (restB [some z0, some EDG]).all plB) = false
        rw [show restB [some z0, some EDG] = [some z0, some EDG] from if_neg ne0]
        show (true && (plB (some z0) && (plB (some EDG) && true))) = false
        rw [pl_edg, Bool.false_and, Bool.and_false, Bool.and_false]
      | false =>
        refine iteF ⟨_, rfl, rfl, _, rfl, ?_⟩
        rw [decide_eq_true rfl]
        refine iteT ⟨by show 1 ≤ sizeLine; decide, fun l hl => ?_⟩
        have s4 := same_upd hl (o := .lst [.str (Str.ofString "|")])
        refine ⟨_, rfl, _, _, _, _, rfl, rfl, upd_same, s4 _ _ hg3, c4, fun p hp => ?_⟩
        have np : p ≠ a := ((src3.same s4).ne hp).symm
        have s5 := s4.trans (same_upd hp (o := .lst ([.str (Str.ofString "|")] ++ [.str (ofL z0)])))
        refine q _ (some [some EDG, some z0]) _ (.yes np upd_same (.cons (IsT.yes (z := EDG) (by decide)) (.cons i0 .nil)) (by show 2 ≤ 100; decide)) (iteF ?_) (fun h => by cases h) (src3.same s5) (b13.trans (Same.but s5))
        show (decide (2 ≤ 2) && (restA [some EDG, some z0]).all plB) = false
        rw [show restA [some EDG, some z0] = [some EDG, some z0] from if_neg (fun h => ne0 (Option.some.inj h))]
        show (true && (plB (some EDG) && _)) = false
        rw [pl_edg, Bool.false_and, Bool.and_false]
    rw [decide_eq_false (fun h => c3 (V.int.inj h))]
    refine iteF ⟨_, rfl, rfl, _, rfl, ?_⟩
    rw [decide_eq_false (fun h => c3 (V.int.inj h))]
    refine iteF ?_
    refine ⟨_, rfl, g, _, _, rfl, rfl, hg3, by decide, by decide, by show 1 * 3 ≤ sizeLine; decide, fun p1 hp1 => ?_⟩
    have s4 := same_upd hp1 (o := .lst (List.replicate (3 : Int).toNat [V.str (ofL z0)]).flatten)
    have h41 : upd H3 p1 (.lst (List.replicate (3 : Int).toNat [V.str (ofL z0)]).flatten) p1 = some (.lst [.str (ofL z0), .str (ofL z0), .str (ofL z0)]) := upd_same
    have np1 : p1 ≠ a := (src3.ne hp1).symm
    generalize upd H3 p1 (.lst (List.replicate (3 : Int).toNat [V.str (ofL z0)]).flatten) = H4 at s4 h41 ⊢
    refine ⟨by show 1 ≤ sizeLine; decide, fun l2 hl2 => ?_⟩
    have s5 := same_upd hl2 (o := .lst [.str (Str.ofString "|")])
    have h52 : upd H4 l2 (.lst [.str (Str.ofString "|")]) l2 = _ := upd_same
    generalize upd H4 l2 (.lst [.str (Str.ofString "|")]) = H5 at s5 h52 ⊢
    refine ⟨l2, _, _, rfl, rfl, h52, by decide, by decide, by show 1 * 2 ≤ sizeLine; decide, fun p2 hp2 => ?_⟩
    have s6 := same_upd hp2 (o := .lst (List.replicate (2 : Int).toNat [V.str (Str.ofString "|")]).flatten)
    have h62 : upd H5 p2 (.lst (List.replicate (2 : Int).toNat [V.str (Str.ofString "|")]).flatten) p2 = some (.lst [.str (ofL EDG), .str (ofL EDG)]) := upd_same
    generalize upd H5 p2 (.lst (List.replicate (2 : Int).toNat [V.str (Str.ofString "|")]).flatten) = H6 at s6 h62 ⊢
    have s36 := (s4.trans s5).trans s6
    refine ⟨_, rfl, _, rfl, .inr ⟨e, rfl, ?_⟩⟩
    have e01 : (0 : Int) ≤ (if e = true then 1 else 0) ∧ (if e = true then (1 : Int) else 0) ≤ 1 := by cases e <;> decide
    refine ⟨g, _, _, rfl, rfl, s36 _ _ hg3, by omega, by omega, by show 1 * _ ≤ _; exact small2 (by omega), fun p3 hp3 => ?_⟩
    have er : (List.replicate (if e = true then (1 : Int) else 0).toNat [V.str (ofL z0)]).flatten = if e = true then [V.str (ofL z0)] else [] := by cases e <;> rfl
    rw [er]
    have s7 := same_upd hp3 (o := .lst (if e = true then [V.str (ofL z0)] else []))
    have h73 : upd H6 p3 (.lst (if e = true then [V.str (ofL z0)] else [])) p3 = _ := upd_same
    generalize upd H6 p3 (.lst (if e = true then [V.str (ofL z0)] else [])) = H7 at s7 h73 ⊢
    refine ⟨_, _, _, _, rfl, rfl, s7 _ _ h62, h73, (by
      cases e with
      | true => exact (show 2 + 1 ≤ sizeLine by decide)
      | false => exact (show 2 + 0 ≤ sizeLine by decide)), fun p4 hp4 => ?_⟩
    have s37 := s36.trans s7
    have np4 : p4 ≠ a := ((src3.same s37).ne hp4).symm
    have s8 := same_upd hp4 (o := .lst ([.str (ofL EDG), .str (ofL EDG)] ++ if e = true then [V.str (ofL z0)] else []))
    have h84 : upd H7 p4 (.lst ([.str (ofL EDG), .str (ofL EDG)] ++ if e = true then [V.str (ofL z0)] else [])) p4 = _ := upd_same
    generalize upd H7 p4 (.lst ([.str (ofL EDG), .str (ofL EDG)] ++ if e = true then [V.str (ofL z0)] else [])) = H8 at s8 h84 ⊢
    have s38 := s37.trans s8
    refine ⟨_, rfl, g, _, _, _, rfl, rfl, SqL.of (s38 _ _ hg3), atI_nat (j := 0) rfl, ?_⟩
    refine ⟨_, rfl, g, _, _, _, rfl, rfl, SqL.of (s38 _ _ hg3), atI_nat (j := 0) rfl, ?_⟩
    refine ⟨by show 2 ≤ sizeLine; decide, fun t ht => ?_⟩
    have s9 := same_upd ht (o := .tup [.str (ofL z0), .str (Str.ofString "b")])
    have h9t : upd H8 t (.tup [.str (ofL z0), .str (Str.ofString "b")]) t = _ := upd_same
    have nt : t ≠ a := ((src3.same s38).ne ht).symm
    generalize upd H8 t (.tup [.str (ofL z0), .str (Str.ofString "b")]) = H9 at s9 h9t ⊢
    refine ⟨by show 6 ≤ sizeLine; decide, fun L hL => ?_⟩
    have s10 := same_upd hL (o := .lst [.ref p1, .ref p4, .str (ofL z0), .ref t, .int 4, .str (Str.ofString "|")])
    have h10 : upd H9 L (.lst [.ref p1, .ref p4, .str (ofL z0), .ref t, .int 4, .str (Str.ofString "|")]) L = _ := upd_same
    have s39 := s38.trans s9
    have nL : L ≠ a := ((src3.same s39).ne hL).symm
    generalize upd H9 L (.lst [.ref p1, .ref p4, .str (ofL z0), .ref t, .int 4, .str (Str.ofString "|")]) = H10 at s10 h10 ⊢
    have sA := s39.trans s10
    refine ⟨_, rfl, _, rfl, a, 6, rfl, src3.same sA, by decide, by decide, fun r H11 r0 r1 src11 b11 => ?_⟩
    obtain ⟨v', ev, mv⟩ := at_mem (xs := ([.ref p1, .ref p4, .str (ofL z0), .ref t, .int 4, .str (Str.ofString "|")] : List V)) r0 (by show r < 6; exact r1)
    refine ⟨L, _, _, v', rfl, rfl, SqL.of (b11 _ _ nL h10), ev, ?_⟩
    have g1 : H11 p1 = some (.lst [.str (ofL z0), .str (ofL z0), .str (ofL z0)]) := b11 _ _ np1 (s10 _ _ (s9 _ _ (s8 _ _ (s7 _ _ (s6 _ _ (s5 _ _ h41))))))
    have g4 := b11 _ _ np4 (s10 _ _ (s9 _ _ h84))
    have gt := b11 _ _ nt (s10 _ _ h9t)
    have iE : IsT a H11 (.str (ofL EDG)) (some EDG) := .yes (by decide)
    have r4 : ∃ r, RowT a H11 (.ref p4) r ∧ badB e r := by
      cases e with
      | true => exact ⟨some [some EDG, some EDG, some z0], .yes np4 g4 (.cons iE (.cons iE (.cons i0 .nil))) (by show 3 ≤ 100; decide), iteT (goodB_long (by show 2 < 3; decide))⟩
      | false =>
        refine ⟨some [some EDG, some EDG], .yes np4 g4 (.cons iE (.cons iE .nil)) (by show 2 ≤ 100; decide), iteF ?_⟩
        show (decide (2 ≤ 2) && (restA [some EDG, some EDG]).all plB) = false
        rw [show restA [some EDG, some EDG] = [some EDG] from if_pos rfl]
        show (true && (plB (some EDG) && true)) = false
        rw [pl_edg]
        rfl
    have r1' : badB e (some [some z0, some z0, some z0]) := by
      cases e with
      | true => exact iteT (goodB_long (by show 2 < 3; decide))
      | false => exact iteF (goodA_long (by show 2 < 3; decide))
    have all : ∀ v ∈ ([.ref p1, .ref p4, .str (ofL z0), .ref t, .int 4, .str (Str.ofString "|")] : List V), v ≠ .non ∧ ∃ r, RowT a H11 v r ∧ badB e r :=
      List.forall_mem_cons.mpr ⟨⟨(fun h => by cases h), _, .yes np1 g1 (.cons i0 (.cons i0 (.cons i0 .nil))) (by show 3 ≤ 100; decide), r1'⟩,
       List.forall_mem_cons.mpr ⟨⟨(fun h => by cases h), r4⟩,
        List.forall_mem_cons.mpr ⟨⟨(fun h => by cases h), none, .no (.str _), badB_none⟩,
         List.forall_mem_cons.mpr ⟨⟨(fun h => by cases h), none, .no (.tup nt gt), badB_none⟩,
          List.forall_mem_cons.mpr ⟨⟨(fun h => by cases h), none, .no (.int 4), badB_none⟩,
           List.forall_mem_cons.mpr ⟨⟨(fun h => by cases h), none, .no (.str _), badB_none⟩, fun _ h => by cases h⟩⟩⟩⟩⟩⟩
    obtain ⟨nn, rr, h1, h2⟩ := all v' mv
    exact q v' rr _ h1 h2 nn src11 (b13.trans ((Same.but sA).trans b11))

theorem lamS {sc scope : Scope} (a : scope.kind = ScopeKind.function := by rfl) (b : scope.isCoroutine = false := by rfl) (c : scope.isGenerator = false := by rfl) (d : scope.names.all (fun y => y.2 != .local && y.2 != .cell) = true := by decide +kernel)
    (e : scope.names.all (fun y => y.2 != .free || sc.names.lookup y.1 == some .cell || sc.names.lookup y.1 == some .free) = true := by decide +kernel) : LamS sc scope := by
  refine ⟨a, b, c, fun y hy => ?_, fun y hy hf => ?_⟩
  · have := List.all_eq_true.mp d y hy
    simpa using this
  · have := List.all_eq_true.mp e y hy
    rw [hf] at this
    simpa using this
def dOf : V → PyData
  | .int i => .int i
  | .str z => .str z
  | _ => .none
theorem dpT {H : Hp} {t : Addr} {a : Str} {b : V} (ha : PyData.strOk a = true) (hb : b = .non ∨ (∃ i, b = .int i) ∨ ∃ z, b = .str z ∧ PyData.strOk z = true) (h : H t = some (.tup [.str a, b])) :
    Dp K H (.ref t) (.tuple [.str a, dOf b]) ∧ SeqAt.shaped (.tuple [.str a, dOf b]) = true ∧ (PyData.tuple [.str a, dOf b]).canLay0 = true := by
  rcases hb with rfl | ⟨i, rfl⟩ | ⟨z, rfl, hz⟩
  · exact ⟨.tup (SqT.of h) (.cons (.str _) (.cons .non .nil)), by simp [SeqAt.shaped, PyData.canLay0, PyData.canLayAll0, PyData.depth, PyData.depthAll, ha, dOf], by simp [PyData.canLay0, PyData.canLayAll0, ha, dOf]⟩
  · exact ⟨.tup (SqT.of h) (.cons (.str _) (.cons (.int _) .nil)), by simp [SeqAt.shaped, PyData.canLay0, PyData.canLayAll0, PyData.depth, PyData.depthAll, ha, dOf], by simp [PyData.canLay0, PyData.canLayAll0, ha, dOf]⟩
  · exact ⟨.tup (SqT.of h) (.cons (.str _) (.cons (.str _) .nil)), by simp [SeqAt.shaped, PyData.canLay0, PyData.canLayAll0, PyData.depth, PyData.depthAll, ha, hz, dOf], by simp [PyData.canLay0, PyData.canLayAll0, ha, hz, dOf]⟩

/-! the law -/
theorem RowT.extN {s : Addr} {H H' : Hp} {v : V} {r : Row} (h : RowT s H v r) (k : ExtN H H') : RowT s H' v r := by
  cases h with
  | no h =>
    refine .no ?_
    cases h with
    | non => exact .non
    | int i => exact .int i
    | str z => exact .str z
    | tup n e => exact .tup n (k _ _ e fun _ z => by cases z)
  | yes n h p l => exact .yes n (k _ _ h fun _ z => by cases z) (pr_map (fun _ _ h => h.extN k) p) l
/-- four parts, each good or not -/
def Parts (s : Addr) (H : Hp) (v1 v2 v3 v4 : V) (c1 c2 c3 c4 : Bool) : Prop :=
  ∃ (r1 : Row) (t2 : Option (List Nat)) (r3 r4 : Row), RowT s H v1 r1 ∧ IsT s H v2 t2 ∧ RowT s H v3 r3 ∧ RowT s H v4 r4 ∧ v3 ≠ .non ∧ v4 ≠ .non ∧ goodW r1 = c1 ∧ goodP t2 = c2 ∧ goodB r3 = c3 ∧ goodA r4 = c4
theorem Parts.extN {s : Addr} {H H' : Hp} {v1 v2 v3 v4 : V} {c1 c2 c3 c4 : Bool} (h : Parts s H v1 v2 v3 v4 c1 c2 c3 c4) (k : ExtN H H') : Parts s H' v1 v2 v3 v4 c1 c2 c3 c4 := by
  obtain ⟨r1, t2, r3, r4, h1, h2, h3, h4, h⟩ := h
  exact ⟨r1, t2, r3, r4, h1.extN k, h2.extN k, h3.extN k, h4.extN k, h⟩
def nm4 (c1 c2 c3 c4 : Bool) : Option Str :=
  if c1 = false then some ("what" : Str) else if c2 = false then some ("becomes" : Str) else if c3 = false then some ("behind" : Str) else if c4 = false then some ("ahead" : Str) else none
theorem Parts.bad {T : Env K mg base} {s : Addr} {H : Hp} {v1 v2 v3 v4 : V} {c1 c2 c3 c4 : Bool} {Q : VK} {nm : Str} (h : Parts s H v1 v2 v3 v4 c1 c2 c3 c4) (hn : nm4 c1 c2 c3 c4 = some nm) (q : ∀ H', Same H H' → Q (.str nm) H') {R : VK} :
    ∀ x dx, H x = none → H dx = none → dx ≠ x → spRInit T [.ref x, v1, v2, v3, v4] (upd (upd H dx (.own x)) x (.ins T.C_Rule dx [])) R (exR T.C_NoRule Q) := by
  obtain ⟨r1, t2, r3, r4, h1, h2, h3, h4, n3, n4, rfl, rfl, rfl, rfl⟩ := h
  exact mk_bad h1 h2 h3 h4 n3 n4 hn q
theorem Parts.good {T : Env K mg base} {s : Addr} {H : Hp} {v1 v2 v3 v4 : V} {E : XK} (h : Parts s H v1 v2 v3 v4 true true true true) {R : VK} (q : ∀ H', Same H H' → R .non H') :
    ∀ x dx, H x = none → H dx = none → dx ≠ x → spRInit T [.ref x, v1, v2, v3, v4] (upd (upd H dx (.own x)) x (.ins T.C_Rule dx [])) R E := by
  obtain ⟨r1, t2, r3, r4, h1, h2, h3, h4, n3, n4, g1, g2, g3, g4⟩ := h
  exact mk_good (Q := R) h1 h2 h3 h4 n3 n4 (first5 g1 g2 g3 g4) q
abbrev pk (p : Bool) (b g : V) : V := if p = true then b else g
theorem Parts.mix {s : Addr} {H : Hp} {g1 g2 g3 g4 b1 b2 b3 b4 : V} (g : Parts s H g1 g2 g3 g4 true true true true) (b : Parts s H b1 b2 b3 b4 false false false false) (p1 p2 p3 p4 : Bool) :
    Parts s H (pk p1 b1 g1) (pk p2 b2 g2) (pk p3 b3 g3) (pk p4 b4 g4) (!p1) (!p2) (!p3) (!p4) := by
  obtain ⟨r1, t2, r3, r4, h1, h2, h3, h4, n3, n4, e1, e2, e3, e4⟩ := g
  obtain ⟨r1', t2', r3', r4', h1', h2', h3', h4', n3', n4', e1', e2', e3', e4'⟩ := b
  refine ⟨if p1 = true then r1' else r1, if p2 = true then t2' else t2, if p3 = true then r3' else r3, if p4 = true then r4' else r4, ?_, ?_, ?_, ?_, ?_, ?_, ?_, ?_, ?_, ?_⟩
  · cases p1 <;> assumption
  · cases p2 <;> assumption
  · cases p3 <;> assumption
  · cases p4 <;> assumption
  · cases p3 <;> assumption
  · cases p4 <;> assumption
  · cases p1 <;> assumption
  · cases p2 <;> assumption
  · cases p3 <;> assumption
  · cases p4 <;> assumption
abbrev nms : List V := [.str "what", .str "becomes", .str "behind", .str "ahead"]
/-- the first that is bad -/
theorem nm_at {p : Nat → Bool} {k : Nat} (hk : k < 4) (h : p k = true) (no : ∀ j, j < k → p j = false) : ∃ nm : Str, nm4 (!p 0) (!p 1) (!p 2) (!p 3) = some nm ∧ nms[k]? = some (.str nm) := by
  match k, hk, h, no with
  | 0, _, h, _ => rw [h]; exact ⟨_, rfl, rfl⟩
  | 1, _, h, no => rw [no 0 (by decide), h]; exact ⟨_, rfl, rfl⟩
  | 2, _, h, no => rw [no 0 (by decide), no 1 (by decide), h]; exact ⟨_, rfl, rfl⟩
  | 3, _, h, no => rw [no 0 (by decide), no 1 (by decide), no 2 (by decide), h]; exact ⟨_, rfl, rfl⟩
def bitP (n : Int) (k : Nat) : Bool := decide ((n.fdiv ((2 ^ k : Nat) : Int)).fmod 2 = 1)
theorem bit_some {n : Int} (h1 : 1 ≤ n) (h2 : n ≤ 15) : ∃ k, k < 4 ∧ bitP n k = true := by
  have h : ∀ m, m < 16 → 1 ≤ m → ∃ k, k < 4 ∧ bitP ((m : Nat) : Int) k = true := by decide
  obtain ⟨m, rfl⟩ := Int.eq_ofNat_of_zero_le (by omega : 0 ≤ n)
  exact h m (by omega) (by omega)
theorem head_filter {p : Nat → Bool} : ∀ {l : List Nat}, (∃ k, k ∈ l ∧ p k = true) → ∃ k r, l.filter p = k :: r ∧ k ∈ l ∧ p k = true
  | [], h => by obtain ⟨_, h, _⟩ := h; cases h
  | x :: l, h => by
    cases hx : p x with
    | true => exact ⟨x, _, List.filter_cons_of_pos hx, List.mem_cons_self, hx⟩
    | false =>
      have : ∃ k, k ∈ l ∧ p k = true := by
        obtain ⟨k, hk, pk⟩ := h
        rcases List.mem_cons.mp hk with rfl | hk
        · rw [hx] at pk; cases pk
        · exact ⟨k, hk, pk⟩
      obtain ⟨k, r, e, m, q⟩ := head_filter this
      exact ⟨k, r, by rw [List.filter_cons_of_neg (by rw [hx]; decide)]; exact e, List.mem_cons_of_mem _ m, q⟩
theorem first_bit {p : Nat → Bool} (h : ∃ k, k < 4 ∧ p k = true) : ∃ k r, (List.range 4).filter p = k :: r ∧ k < 4 ∧ p k = true ∧ ∀ j, j < k → p j = false := by
  show ∃ k r, [0, 1, 2, 3].filter p = k :: r ∧ _
  cases h0 : p 0 with
  | true => exact ⟨0, _, List.filter_cons_of_pos h0, by decide, h0, fun j hj => absurd hj (Nat.not_lt_zero j)⟩
  | false =>
    rw [List.filter_cons_of_neg (by rw [h0]; decide)]
    cases h1 : p 1 with
    | true => exact ⟨1, _, List.filter_cons_of_pos h1, by decide, h1, fun j hj => by
        match j, hj with
        | 0, _ => exact h0⟩
    | false =>
      rw [List.filter_cons_of_neg (by rw [h1]; decide)]
      cases h2 : p 2 with
      | true => exact ⟨2, _, List.filter_cons_of_pos h2, by decide, h2, fun j hj => by
          match j, hj with
          | 0, _ => exact h0
          | 1, _ => exact h1⟩
      | false =>
        rw [List.filter_cons_of_neg (by rw [h2]; decide)]
        cases h3 : p 3 with
        | true => exact ⟨3, _, List.filter_cons_of_pos h3, by decide, h3, fun j hj => by
            match j, hj with
            | 0, _ => exact h0
            | 1, _ => exact h1
            | 2, _ => exact h2⟩
        | false =>
          obtain ⟨k, hk, e⟩ := h
          match k, hk with
          | 0, _ => rw [h0] at e; cases e
          | 1, _ => rw [h1] at e; cases e
          | 2, _ => rw [h2] at e; cases e
          | 3, _ => rw [h3] at e; cases e
abbrev LCX : CXT := CX0
abbrev lvl : Nat := 13
theorem lcx0 {H : Hp} {s : Shared} {e : Value} {s' : Shared} (h : LCX [] H s (fun _ _ _ => False) e s') : False := h
def spLaw (K : PySem.W.Frag) (TL : List (Addr × Str)) : Sp := fun vs H Q _ => ∃ (a : Addr) (ns : List Int), vs = [.ref a] ∧ SqL K H a (ns.map V.int) ∧ ns.length ≤ 63 ∧ Tabs TL H ∧ ∀ H', Q (.bl true) H'
theorem Tabs.but {TL : List (Addr × Str)} {s : Addr} {H H' : Hp} (t : Tabs TL H) (hs : Src H s) (k : But s H H') : Tabs TL H' := by
  obtain ⟨x, c, n, e⟩ := hs
  exact tabs_at t e fun b o nb h => k b o nb h
theorem goodW_pl {zs : List (List Nat)} (h : ∀ z ∈ zs, Pl z) (h1 : 1 ≤ zs.length) (h3 : zs.length ≤ 3) : goodW (some (zs.map some)) = true := by
  show (decide (1 ≤ (zs.map some).length) && (decide ((zs.map some).length ≤ 3) && (zs.map some).all plB)) = true
  rw [List.length_map, decide_eq_true h1, decide_eq_true h3, Bool.true_and, Bool.true_and, List.all_map, List.all_eq_true]
  exact fun z hz => (decide_eq_true (h z hz) : decide (Pl z) = true)
theorem all_pl {zs : List (List Nat)} (h : ∀ z ∈ zs, Pl z) : (zs.map some).all plB = true := by
  rw [List.all_map, List.all_eq_true]
  exact fun z hz => (decide_eq_true (h z hz) : decide (Pl z) = true)
theorem ne_edg {z : List Nat} (h : Pl z) : (some z : Option (List Nat)) ≠ some EDG := fun e => pl_ne h (Option.some.inj e)
theorem goodB_pl {zs : List (List Nat)} (h : ∀ z ∈ zs, Pl z) (h2 : zs.length ≤ 2) : goodB (some (zs.map some)) = true := by
  have e : restB (zs.map some) = zs.map some := by
    cases zs with
    | nil => rfl
    | cons z r => exact if_neg (ne_edg (h z List.mem_cons_self))
  show (decide ((zs.map some).length ≤ 2) && (restB (zs.map some)).all plB) = true
  rw [List.length_map, decide_eq_true h2, e, all_pl h]
  rfl
theorem goodA_pl {zs : List (List Nat)} (h : ∀ z ∈ zs, Pl z) (h2 : zs.length ≤ 2) : goodA (some (zs.map some)) = true := by
  have e : restA (zs.map some) = zs.map some := by
    refine if_neg fun e => ?_
    obtain ⟨us, e⟩ := List.getLast?_eq_some_iff.mp e
    have m : some EDG ∈ zs.map some := by rw [e]; exact List.mem_append_right _ (List.mem_singleton.mpr rfl)
    obtain ⟨z, hz, ez⟩ := List.mem_map.mp m
    exact ne_edg (h z hz) ez
  show (decide ((zs.map some).length ≤ 2) && (restA (zs.map some)).all plB) = true
  rw [List.length_map, decide_eq_true h2, e, all_pl h]
  rfl
theorem goodP_ok {z : List Nat} (h : z.length ≤ 3) (g : ∀ c ∈ z, c ∈ SG) : goodP (some z) = true := (decide_eq_true ⟨h, g⟩ : decide (z.length ≤ 3 ∧ ∀ c ∈ z, c ∈ SG) = true)
theorem in_wr {p : Nat → Bool} {i : Nat} (hi : i < 4) : inV (V.int (i : Nat)) (((List.range 4).filter p).map fun k => V.int (k : Nat)) = p i := by
  show inV (V.int (i : Nat)) (([0, 1, 2, 3].filter p).map fun k => V.int (k : Nat)) = p i
  match i, hi with
  | 0, _ => cases h0 : p 0 <;> cases h1 : p 1 <;> cases h2 : p 2 <;> cases h3 : p 3 <;> simp [inV, eqV, List.filter, h0, h1, h2, h3]
  | 1, _ => cases h0 : p 0 <;> cases h1 : p 1 <;> cases h2 : p 2 <;> cases h3 : p 3 <;> simp [inV, eqV, List.filter, h0, h1, h2, h3]
  | 2, _ => cases h0 : p 0 <;> cases h1 : p 1 <;> cases h2 : p 2 <;> cases h3 : p 3 <;> simp [inV, eqV, List.filter, h0, h1, h2, h3]
  | 3, _ => cases h0 : p 0 <;> cases h1 : p 1 <;> cases h2 : p 2 <;> cases h3 : p 3 <;> simp [inV, eqV, List.filter, h0, h1, h2, h3]
theorem flat_wr {p : Nat → Bool} : (((List.range 4).filter p).map fun k => V.int (k : Nat)).all flatV = true := by
  rw [List.all_map, List.all_eq_true]
  intro _ _
  rfl
theorem wr_snoc (p : Nat → Bool) (i : Nat) : ((List.range (i + 1)).filter p).map (fun k => V.int (k : Nat)) = ((List.range i).filter p).map (fun k => V.int (k : Nat)) ++ (if p i = true then [V.int (i : Nat)] else []) := by
  rw [List.range_succ, List.filter_append, List.map_append]
  cases h : p i <;> simp [List.filter, h]
theorem restB_edg (L : List (Option (List Nat))) : restB (some EDG :: L) = L := by
  show (if (some EDG : Option (List Nat)) = some EDG then L else some EDG :: L) = L
  exact if_pos rfl

set_option maxHeartbeats 16000000 in
theorem ok_law (T : Env K mg base) : FnOk P w K mg base LCX lvl T.f_y_law T.d_y_law ["_law_script"] (spLaw K T.TL) := by
  refine T.F_y_law.ok sc_y_law (fun vs H Q E h => ?_) (fun A outer s H vs Q E hr h => ?_)
  · obtain ⟨a, ns, rfl, _⟩ := h
    rfl
  · obtain ⟨a, ns, rfl, hS, hlen, hT, q⟩ := h
    have nd := sc_y_law.nd
    refine ⟨_, (pss_cons (ps_for PassesOwn.never rfl (pi_list (pe_slice sl_list (pe_op op_catS (pv 0) (pe_lst (pa_cons pe_int pa_nil))) po_none (po_some pe_int))) (pg_name (i := 1) nd rfl (by first | exact .inl rfl | exact .inr rfl))
        (pss_cons (ps_set (i := 2) nd rfl (by first | exact .inl rfl | exact .inr rfl) (pe_call (ok_source T) (hr.mono (by decide)) (by rfl) T.g_y_source T.F_y_source.kp T.b_y_source .nil pass0 (pa_cons (pv 1) pa_nil))) <|
        pss_cons (ps_set (i := 3) nd rfl (by first | exact .inl rfl | exact .inr rfl) (pe_op op_add pe_int (pe_call (ok_take T) (hr.mono (by decide)) (by rfl) T.g_y_take T.F_y_take.kp T.b_y_take .nil pass0 (pa_cons (pv 2) (pa_cons pe_int pa_nil))))) <|
        pss_cons (ps_set (i := 4) nd rfl (by first | exact .inl rfl | exact .inr rfl) (pe_lst (pa_cons (pe_call (ok_places T) (hr.mono (by decide)) (by rfl) T.g_y_places T.F_y_places.kp T.b_y_places .nil pass0 (pa_cons (pv 2) (pa_cons pe_int (pa_cons pe_int pa_nil)))) (pa_cons (pe_call (ok_unlike T) (hr.mono (by decide)) (by rfl) T.g_y_unlike T.F_y_unlike.kp T.b_y_unlike .nil pass0 (pa_cons (pv 2) (pa_cons (pe_call (ok_take T) (hr.mono (by decide)) (by rfl) T.g_y_take T.F_y_take.kp T.b_y_take .nil pass0 (pa_cons (pv 2) (pa_cons pe_int pa_nil))) pa_nil))) pa_nil)))) <|
        pss_cons (ps_set (i := 4) nd rfl (by first | exact .inl rfl | exact .inr rfl) (pe_op op_cat (pv 4) (pe_lst (pa_cons (pe_call (ok_places T) (hr.mono (by decide)) (by rfl) T.g_y_places T.F_y_places.kp T.b_y_places .nil pass0 (pa_cons (pv 2) (pa_cons pe_int (pa_cons pe_int pa_nil)))) (pa_cons (pe_call (ok_places T) (hr.mono (by decide)) (by rfl) T.g_y_places T.F_y_places.kp T.b_y_places .nil pass0 (pa_cons (pv 2) (pa_cons pe_int (pa_cons pe_int pa_nil)))) pa_nil))))) <|
        pss_cons (ps_set (i := 5) nd rfl (by first | exact .inl rfl | exact .inr rfl) (pe_lst (pa_cons (pe_call (ok_bad_what T) (hr.mono (by decide)) (by rfl) T.g_y_bad_what T.F_y_bad_what.kp T.b_y_bad_what .nil pass0 (pa_cons (pv 2) pa_nil)) (pa_cons (pe_call (ok_bad_put T) (hr.mono (by decide)) (by rfl) T.g_y_bad_put T.F_y_bad_put.kp T.b_y_bad_put .nil pass0 (pa_cons (pv 2) pa_nil)) pa_nil)))) <|
        pss_cons (ps_set (i := 5) nd rfl (by first | exact .inl rfl | exact .inr rfl) (pe_op op_cat (pv 5) (pe_lst (pa_cons (pe_call (ok_bad_beside T) (hr.mono (by decide)) (by rfl) T.g_y_bad_beside T.F_y_bad_beside.kp T.b_y_bad_beside .nil pass0 (pa_cons (pv 2) (pa_cons pe_bl pa_nil))) (pa_cons (pe_call (ok_bad_beside T) (hr.mono (by decide)) (by rfl) T.g_y_bad_beside T.F_y_bad_beside.kp T.b_y_bad_beside .nil pass0 (pa_cons (pv 2) (pa_cons pe_bl pa_nil))) pa_nil))))) <|
        pss_cons (ps_set (i := 6) nd rfl (by first | exact .inl rfl | exact .inr rfl) (pe_lst (pa_cons pe_str (pa_cons pe_str (pa_cons pe_str (pa_cons pe_str pa_nil)))))) <|
        pss_cons (ps_set (i := 7) nd rfl (by first | exact .inl rfl | exact .inr rfl) (pe_lc (own := [("_law_k", 9)]) (g := gName 9) (by rfl) nd (pi_range1 rfl T.z_range (pa_cons pe_int pa_nil)) (blkOk_by (own := [("_law_k", 9)]) (N := n_y_law) (sc := defScope s_y_law) (by decide +kernel)) (fun _ _ _ _ _ => pg_name (i := 9) nd rfl (Or.inl rfl)) (fun _ _ _ _ _ => by exact pts_one (pt_cmpR op_eq (pe_op op_modN (pe_op op_fdivN (pv 3) (Ms.pe_ixLK (K := K) rfl (pe_lst (pa_cons pe_int (pa_cons pe_int (pa_cons pe_int (pa_cons pe_int pa_nil))))) (pv 9) (fun _ _ => rfl))) pe_int) pe_int (nomark _))) (fun _ _ _ _ _ => by exact (pv 9)))) <|
        pss_cons (ps_set (i := 8) nd rfl (by first | exact .inl rfl | exact .inr rfl) (pe_lc (own := [("_law_k", 9)]) (g := gName 9) (tt := tYes) (by rfl) nd (pi_range1 rfl T.z_range (pa_cons pe_int pa_nil)) (blkOk_by (own := [("_law_k", 9)]) (N := n_y_law) (sc := defScope s_y_law) (by decide +kernel)) (fun _ _ _ _ _ => pg_name (i := 9) nd rfl (Or.inl rfl)) (fun _ _ _ _ _ => pts_nil) (fun _ _ _ _ _ => by exact (Ms.pe_ixLK (K := K) rfl (pe_lst (pa_cons (Ms.pe_ixLK (K := K) rfl (pv 4) (pv 9) (fun _ _ => rfl)) (pa_cons (Ms.pe_ixLK (K := K) rfl (pv 5) (pv 9) (fun _ _ => rfl)) pa_nil))) (pe_callTy call_int1 (by rfl) T.z_int (by rfl) (pa_cons (pe_cmpR (Ms.op_in_seqK (K := K) rfl) (pv 9) (pv 7) (by rfl)) pa_nil)) (fun _ _ => rfl))))) <|
        pss_cons (ps_if (pt_cmpR op_ne (pe_lam_y_refused rfl T (by rfl) T.T_y_law rfl (mem_y_law T) (hu_y_law T) (k := 9) (hr.mono (by decide)) (lamS (sc := defScope s_y_law)) rfl (fun _ _ _ _ _ => rfl) (fun A outer s H E f c' hr => (pe_make T.M_Rule (ok_Rule_init T) (hr.mono (by decide)) (by rfl) T.g_Rule T.b5_Rule_init.choose_spec.2 T.b5_Rule_init.choose_spec.1 (passes_call (takes_of rfl rfl rfl rfl) (fun _ _ _ _ h => h)) (pa_cons (Ms.pe_ixLK (K := K) rfl (pv 8) pe_int (fun _ _ => rfl)) (pa_cons (Ms.pe_ixLK (K := K) rfl (pv 8) pe_int (fun _ _ => rfl)) (pa_cons (Ms.pe_ixLK (K := K) rfl (pv 8) pe_int (fun _ _ => rfl)) (pa_cons (Ms.pe_ixLK (K := K) rfl (pv 8) pe_int (fun _ _ => rfl)) pa_nil))))))) (pe_ix ix_list (pv 6) (pe_ix ix_list (pv 7) pe_int (fun _ _ => rfl)) (fun _ _ => rfl)) (nomark _))
          (pss_one (ps_ret pe_bl))
          pss_nil) <|
        pss_cons (ps_for PassesOwn.never rfl (pi_range1 rfl T.z_range (pa_cons pe_int pa_nil)) (pg_name (i := 9) nd rfl (by first | exact .inl rfl | exact .inr rfl))
          (pss_cons (ps_set (i := 10) nd rfl (by first | exact .inl rfl | exact .inr rfl) (pe_lc (own := [("_law_j", 12)]) (g := gName 12) (tt := tYes) (by rfl) nd (pi_range1 rfl T.z_range (pa_cons pe_int pa_nil)) (blkOk_by (own := [("_law_j", 12)]) (N := n_y_law) (sc := defScope s_y_law) (by decide +kernel)) (fun _ _ _ _ _ => pg_name (i := 12) nd rfl (Or.inl rfl)) (fun _ _ _ _ _ => pts_nil) (fun _ _ _ _ _ => by exact (Ms.pe_ixLK (K := K) rfl (pe_lst (pa_cons (Ms.pe_ixLK (K := K) rfl (pv 4) (pv 12) (fun _ _ => rfl)) (pa_cons (Ms.pe_ixLK (K := K) rfl (pv 5) (pv 12) (fun _ _ => rfl)) pa_nil))) (pe_callTy call_int1 (by rfl) T.z_int (by rfl) (pa_cons (pe_cmpR op_eq (pv 12) (pv 9) (nomark _)) pa_nil)) (fun _ _ => rfl))))) <|
          (pss_one (ps_if (pt_cmpR op_ne (pe_lam_y_refused rfl T (by rfl) T.T_y_law rfl (mem_y_law T) (hu_y_law T) (k := 9) (hr.mono (by decide)) (lamS (sc := defScope s_y_law)) rfl (fun _ _ _ _ _ => rfl) (fun A outer s H E f c' hr => (pe_makeK0 T.M_Rule (ok_Rule_init T) (hr.mono (by decide)) (by rfl) T.g_Rule T.bk_Rule_init.choose_spec (passes_call (takes_of rfl rfl rfl rfl) (fun _ _ _ _ h => h)) (pk_cons (Ms.pe_ixLK (K := K) rfl (pv 10) pe_int (fun _ _ => rfl)) (pk_cons (Ms.pe_ixLK (K := K) rfl (pv 10) pe_int (fun _ _ => rfl)) (pk_cons (Ms.pe_ixLK (K := K) rfl (pv 10) pe_int (fun _ _ => rfl)) (pk_cons (Ms.pe_ixLK (K := K) rfl (pv 10) pe_int (fun _ _ => rfl)) pk_nil))))))) (pe_ix ix_list (pv 6) (pv 9) (fun _ _ => rfl)) (nomark _))
            (pss_one (ps_ret pe_bl))
            pss_nil)))) <|
        pss_cons (ps_if (pt_cmpR op_notN (pe_lam_y_refused rfl T (by rfl) T.T_y_law rfl (mem_y_law T) (hu_y_law T) (k := 9) (hr.mono (by decide)) (lamS (sc := defScope s_y_law)) rfl (fun _ _ _ _ _ => rfl) (fun A outer s H E f c' hr => (pe_make T.M_Rule (ok_Rule_init T) (hr.mono (by decide)) (by rfl) T.g_Rule T.b5_Rule_init.choose_spec.2 T.b5_Rule_init.choose_spec.1 (passes_call (takes_of rfl rfl rfl rfl) (fun _ _ _ _ h => h)) (pa_cons (Ms.pe_ixLK (K := K) rfl (pv 4) pe_int (fun _ _ => rfl)) (pa_cons (Ms.pe_ixLK (K := K) rfl (pv 4) pe_int (fun _ _ => rfl)) (pa_cons (Ms.pe_ixLK (K := K) rfl (pv 4) pe_int (fun _ _ => rfl)) (pa_cons (Ms.pe_ixLK (K := K) rfl (pv 4) pe_int (fun _ _ => rfl)) pa_nil))))))) pe_non (nomark _))
          (pss_one (ps_ret pe_bl))
          pss_nil) <|
        pss_cons (ps_set (i := 11) nd rfl (by first | exact .inl rfl | exact .inr rfl) (pe_lst (pa_cons (pe_op op_cat (pe_lst (pa_cons pe_str pa_nil)) (pe_slice sl_list (pe_ix ix_list (pv 4) pe_int (fun _ _ => rfl)) po_none (po_some pe_int))) (pa_cons (pe_op op_cat (pe_slice sl_list (pe_ix ix_list (pv 4) pe_int (fun _ _ => rfl)) po_none (po_some pe_int)) (pe_lst (pa_cons pe_str pa_nil))) pa_nil)))) <|
        pss_cons (ps_if (pt_cmpR op_notN (pe_lam_y_refused rfl T (by rfl) T.T_y_law rfl (mem_y_law T) (hu_y_law T) (k := 9) (hr.mono (by decide)) (lamS (sc := defScope s_y_law)) rfl (fun _ _ _ _ _ => rfl) (fun A outer s H E f c' hr => (pe_make T.M_Rule (ok_Rule_init T) (hr.mono (by decide)) (by rfl) T.g_Rule T.b5_Rule_init.choose_spec.2 T.b5_Rule_init.choose_spec.1 (passes_call (takes_of rfl rfl rfl rfl) (fun _ _ _ _ h => h)) (pa_cons (Ms.pe_ixLK (K := K) rfl (pv 4) pe_int (fun _ _ => rfl)) (pa_cons (Ms.pe_ixLK (K := K) rfl (pv 4) pe_int (fun _ _ => rfl)) (pa_cons (Ms.pe_ixLK (K := K) rfl (pv 11) pe_int (fun _ _ => rfl)) (pa_cons (Ms.pe_ixLK (K := K) rfl (pv 11) pe_int (fun _ _ => rfl)) pa_nil))))))) pe_non (nomark _))
          (pss_one (ps_ret pe_bl))
          pss_nil) <|
        (pss_one (ps_if (pt_cmpR op_notN (pe_lam_y_refused rfl T (by rfl) T.T_y_law rfl (mem_y_law T) (hu_y_law T) (k := 9) (hr.mono (by decide)) (lamS (sc := defScope s_y_law)) rfl (fun _ _ _ _ _ => rfl) (fun A outer s H E f c' hr => (pe_make T.M_Rule (ok_Rule_init T) (hr.mono (by decide)) (by rfl) T.g_Rule T.b5_Rule_init.choose_spec.2 T.b5_Rule_init.choose_spec.1 (passes_call (takes_of rfl rfl rfl rfl) (fun _ _ _ _ h => h)) (pa_cons (Ms.pe_ixLK (K := K) rfl (pv 4) pe_int (fun _ _ => rfl)) (pa_cons (Ms.pe_ixLK (K := K) rfl (pv 4) pe_int (fun _ _ => rfl)) (pa_cons (pe_lst (pa_cons pe_str pa_nil)) (pa_cons (pe_lst (pa_cons pe_str pa_nil)) pa_nil))))))) pe_non (nomark _))
          (pss_one (ps_ret pe_bl))
          pss_nil)))) <|
      (pss_one (ps_ret pe_bl))), ?_⟩
    refine ⟨_, rfl, by show 1 ≤ sizeLine; decide, fun l hl => ?_⟩
    have s1 := same_upd (H := H) (o := .lst [.int 0]) hl
    refine ⟨a, l, _, _, rfl, rfl, s1.seq hS, SqL.of upd_same, ?_, fun p hp => ?_⟩
    · rw [List.length_map, sizeLine_eq]
      show ns.length + 1 ≤ _
      omega
    have s2 := s1.trans (same_upd (o := .lst (ns.map V.int ++ [.int 0])) hp)
    refine ⟨_, rfl, p, _, rfl, SqL.of upd_same, fun p2 hp2 => ?_⟩
    obtain ⟨cs, ec⟩ := cells ns 3
    rw [ec]
    refine ⟨p2, rfl, ⟨_, SqL.of upd_same⟩, ?_⟩
    have s3 := s2.trans (same_upd (o := .lst (cs.map V.int)) hp2)
    have T1 := Ms.Tabs.same hT s3
    generalize hH1 : upd (upd (upd H l (.lst [.int 0])) p (.lst (ns.map V.int ++ [.int 0]))) p2 (.lst (cs.map V.int)) = H1 at T1 ⊢
    have hp1 : H1 p2 = some (.lst (cs.map V.int)) := by rw [← hH1, upd_same]
    refine for_list (xs := cs.map V.int) (fun i σ H' => ∃ y1 y2 y3 y4 y5 y6 y7 y8 y9 y10 y11 y12, σ = [some (.ref a), y1, y2, y3, y4, y5, y6, y7, y8, y9, y10, y11, y12] ∧ ExtN H1 H' ∧ Tabs T.TL H') ⟨_, _, _, _, _, _, _, _, _, _, _, _, rfl, Same.extN (Same.refl _) (fun _ _ e _ => e), T1⟩ (fun i σ H' _ ⟨_, _, _, _, _, _, _, _, _, _, _, _, _, hs, _⟩ => SqL.of (ExtN.lst hs hp1)) ?_ (fun σ H' ⟨_, _, _, _, _, _, _, _, _, _, _, _, e, hs, _⟩ => q _)
    rintro ix v σ H2 hi ⟨y1, y2, y3, y4, y5, y6, y7, y8, y9, y10, y11, y12, rfl, hs, T2⟩
    obtain ⟨c, rfl⟩ := cell_at hi
    -- the draws
    refine ⟨_, rfl, c, rfl, fun s hs0 H3 hs3 src3 => ?_⟩
    have T3 := Ms.Tabs.same T2 hs3
    have keep : ∀ {H' : Hp}, But s H3 H' → ExtN H1 H' := fun {H'} b x o e n => b x o (ne_of_none (hs _ _ e n) hs0) (hs3 _ _ (hs _ _ e n))
    refine ⟨_, rfl, s, 15, rfl, src3, by decide, by decide, fun r1 H4 a0 a1 src4 b4 => ⟨_, _, rfl, rfl, ?_⟩⟩
    have w1 : 1 ≤ 1 + r1 := by omega
    have w2 : 1 + r1 ≤ 15 := by omega
    refine ⟨_, rfl, s, 1, 3, rfl, src4, by decide, by decide, by decide, fun p5 z1 H5 n5 np5 h5 l1 l1' hz1 src5 b5 => ?_⟩
    refine ⟨_, rfl, _, rfl, s, 4, rfl, src5, by decide, by decide, fun r2 H6 c0 c1 src6 b6 => ⟨s, _, rfl, src6, by omega, by omega, fun be H7 eb nb sb src7 b7 => ?_⟩⟩
    refine ⟨by show 2 ≤ sizeLine; decide, fun g1 hg1 => ?_⟩
    have s8 := same_upd hg1 (o := .lst [.ref p5, .str (ofL be)])
    have h8 : upd H7 g1 (.lst [.ref p5, .str (ofL be)]) g1 = _ := upd_same
    have ng1 : g1 ≠ s := (src7.ne hg1).symm
    have src8 := src7.same s8
    generalize upd H7 g1 (.lst [.ref p5, .str (ofL be)]) = H8 at s8 h8 src8 ⊢
    refine ⟨_, rfl, _, rfl, s, 0, 2, rfl, src8, by decide, by decide, by decide, fun p9 z3 H9 n9 np9 h9 l3 l3' hz3 src9 b9 => ?_⟩
    refine ⟨_, rfl, s, 0, 2, rfl, src9, by decide, by decide, by decide, fun p10 z4 H10 n10 np10 h10 l4 l4' hz4 src10 b10 => ?_⟩
    refine ⟨by show 2 ≤ sizeLine; decide, fun g2 hg2 => ?_⟩
    have s11 := same_upd hg2 (o := .lst [.ref p9, .ref p10])
    have h11 : upd H10 g2 (.lst [.ref p9, .ref p10]) g2 = _ := upd_same
    have src11 := src10.same s11
    generalize upd H10 g2 (.lst [.ref p9, .ref p10]) = H11 at s11 h11 src11 ⊢
    refine ⟨_, _, _, _, rfl, rfl, s11 _ _ (b10 _ _ ng1 (b9 _ _ ng1 h8)), h11, by show 2 + 2 ≤ sizeLine; decide, fun G hG => ?_⟩
    have s12 := same_upd hG (o := .lst ([.ref p5, .str (ofL be)] ++ [.ref p9, .ref p10]))
    have h12 : upd H11 G (.lst ([.ref p5, .str (ofL be)] ++ [.ref p9, .ref p10])) G = some (.lst [.ref p5, .str (ofL be), .ref p9, .ref p10]) := upd_same
    have nG : G ≠ s := (src11.ne hG).symm
    have src12 := src11.same s12
    generalize upd H11 G (.lst ([.ref p5, .str (ofL be)] ++ [.ref p9, .ref p10])) = H12 at s12 h12 src12 ⊢
    -- the bad ones
    refine ⟨_, rfl, s, rfl, src12, fun x1 q1 H13 hx1 bx1 src13 b13 => ?_⟩
    refine ⟨_, rfl, s, rfl, src13, fun x2 q2 H14 hx2 bx2 src14 b14 => ?_⟩
    refine ⟨by show 2 ≤ sizeLine; decide, fun d1 hd1 => ?_⟩
    have s15 := same_upd hd1 (o := .lst [x1, x2])
    have h15 : upd H14 d1 (.lst [x1, x2]) d1 = _ := upd_same
    have nd1 : d1 ≠ s := (src14.ne hd1).symm
    have src15 := src14.same s15
    generalize upd H14 d1 (.lst [x1, x2]) = H15 at s15 h15 src15 ⊢
    refine ⟨_, rfl, _, rfl, s, true, rfl, src15, fun x3 q3 H16 hx3 bx3 nx3 src16 b16 => ?_⟩
    refine ⟨_, rfl, s, false, rfl, src16, fun x4 q4 H17 hx4 bx4 nx4 src17 b17 => ?_⟩
    refine ⟨by show 2 ≤ sizeLine; decide, fun d2 hd2 => ?_⟩
    have s18 := same_upd hd2 (o := .lst [x3, x4])
    have h18 : upd H17 d2 (.lst [x3, x4]) d2 = _ := upd_same
    have src18 := src17.same s18
    generalize upd H17 d2 (.lst [x3, x4]) = H18 at s18 h18 src18 ⊢
    refine ⟨_, _, _, _, rfl, rfl, s18 _ _ (b17 _ _ nd1 (b16 _ _ nd1 h15)), h18, by show 2 + 2 ≤ sizeLine; decide, fun D hD => ?_⟩
    have s19 := same_upd hD (o := .lst ([x1, x2] ++ [x3, x4]))
    have h19 : upd H18 D (.lst ([x1, x2] ++ [x3, x4])) D = some (.lst [x1, x2, x3, x4]) := upd_same
    have src19 := src18.same s19
    generalize upd H18 D (.lst ([x1, x2] ++ [x3, x4])) = H19 at s19 h19 src19 ⊢
    refine ⟨by show 4 ≤ sizeLine; decide, fun W hW => ?_⟩
    have s20 := same_upd hW (o := .lst nms)
    have h20 : upd H19 W (.lst nms) W = some (.lst nms) := upd_same
    have src20 := src19.same s20
    have e1 : upd H19 W (.lst [.str (Str.ofString "what"), .str (Str.ofString "becomes"), .str (Str.ofString "behind"), .str (Str.ofString "ahead")]) = upd H19 W (.lst nms) := rfl
    rw [e1]
    generalize upd H19 W (.lst nms) = H20 at s20 h20 src20 ⊢
    -- what stands
    have b1218 : But s H12 H20 := ((((((b13.trans b14).trans (Same.but s15)).trans b16).trans b17).trans (Same.but s18)).trans (Same.but s19)).trans (Same.but s20)
    have b820 : But s H8 H20 := (((b9.trans b10).trans (Same.but s11)).trans (Same.but s12)).trans b1218
    have b320 : But s H3 H20 := (((((b4.trans b5).trans b6).trans b7).trans (Same.but s8))).trans b820
    have hG20 := b1218 _ _ nG h12
    have hD20 := s20 _ _ h19
    have T20 : Tabs T.TL H20 := Tabs.but T3 src3 b320
    have X20 : ExtN H1 H20 := keep b320
    have k9 : H20 p9 = some (.lst (tx z3)) := b1218 _ _ np9 (s12 _ _ (s11 _ _ (b10 _ _ np9 h9)))
    have k10 : H20 p10 = some (.lst (tx z4)) := b1218 _ _ np10 (s12 _ _ (s11 _ _ h10))
    have lp : ∀ {zs : List (List Nat)}, (∀ z ∈ zs, Pl z) → ∀ z ∈ zs, z.length ≤ 4000 := fun h z hz => by have := (h z hz).2.1; omega
    have gp : Parts s H20 (.ref p5) (.str (ofL be)) (.ref p9) (.ref p10) true true true true := by
      have k5 : H20 p5 = some (.lst (tx z1)) := b820 _ _ np5 (s8 _ _ (b7 _ _ np5 (b6 _ _ np5 h5)))
      exact ⟨some (z1.map some), some be, some (z3.map some), some (z4.map some), .yes np5 k5 (row_str (lp hz1)) (by rw [tx_len]; omega), .yes (by omega), .yes np9 k9 (row_str (lp hz3)) (by rw [tx_len]; omega), .yes np10 k10 (row_str (lp hz4)) (by rw [tx_len]; omega),
        (fun h => by cases h), (fun h => by cases h), goodW_pl hz1 (by omega) (by omega), goodP_ok (by omega) sb, goodB_pl hz3 (by omega), goodA_pl hz4 (by omega)⟩
    have bp : Parts s H20 x1 x2 x3 x4 false false false false := by
      have k1420 : But s H14 H20 := (((((Same.but s15).trans b16).trans b17).trans (Same.but s18)).trans (Same.but s19)).trans (Same.but s20)
      have k1720 : But s H17 H20 := ((Same.but s18).trans (Same.but s19)).trans (Same.but s20)
      exact ⟨q1, q2, q3, q4, hx1.but (b14.trans k1420), hx2.but k1420, hx3.but (b17.trans k1720), hx4.but k1720, nx3, nx4, bx1, bx2, bx3, bx4⟩
    clear b1218 b820 s8 s11 s12 s15 s18 s19 s20 b4 b5 b6 b7 b9 b10 b13 b14 b16 b17 hx1 hx2 hx3 hx4 h5 h9 h10 h11 h18 h15 h8 src5 src6 src7 src8 src9 src10 src11 src12 src13 src14 src15 src16 src17 src18 src19
    -- which are wrong
    refine ⟨4, rfl, by decide, by decide, fun Dw hDw => ?_⟩
    refine lc_range (lo := 0) (n := 4) (fun i H' => H' Dw = some (.lst (((List.range i).filter (bitP (1 + r1))).map fun k => V.int (k : Nat))) ∧ Same H20 H') ⟨upd_same, same_upd hDw⟩ (fun i H' hi hP => ?_) (fun H21 hP => ?_)
    · obtain ⟨hd, sm⟩ := hP
      rw [Int.zero_add]
      have e8 : ([.int 1, .int 2, .int 4, .int 8] : List V)[i]? = some (.int ((2 ^ i : Nat) : Int)) := by
        match i, hi with
        | 0, _ => rfl
        | 1, _ => rfl
        | 2, _ => rfl
        | 3, _ => rfl
      refine ⟨rfl, _, rfl, by show 4 ≤ sizeLine; decide, fun l4 hl4 => ?_⟩
      have s4 := same_upd hl4 (o := .lst [.int 1, .int 2, .int 4, .int 8])
      have hd4 := s4 _ _ hd
      refine ⟨_, rfl, l4, _, _, _, rfl, rfl, SqL.of upd_same, atI_nat e8, _, _, rfl, rfl, ?_, _, _, rfl, rfl, (by show (2 : Int) ≠ 0; decide), rfl, _, rfl, ite2 (fun c => ?_) (fun c => ?_)⟩
      · match i, hi with
        | 0, _ => exact ⟨by decide, by decide⟩
        | 1, _ => exact ⟨by decide, by decide⟩
        | 2, _ => exact ⟨by decide, by decide⟩
        | 3, _ => exact ⟨by decide, by decide⟩
      · have hb : bitP (1 + r1) i = true := decide_eq_true (V.int.inj (of_decide_eq_true c))
        refine ⟨_, rfl, _, hd4, by rw [List.length_map]; exact small1 (Nat.le_trans (List.length_filter_le _ _) (by rw [List.length_range]; omega)), by rw [upd_same, wr_snoc, hb]; rfl, fun b o e => ?_⟩
        rw [upd_ne (ne_of_none e hDw)]
        exact s4 _ _ (sm _ _ e)
      · have hb : bitP (1 + r1) i = false := decide_eq_false fun h => c (decide_eq_true (congrArg V.int h))
        refine ⟨by rw [hd4, wr_snoc, hb]; simp, fun b o e => s4 _ _ (sm _ _ e)⟩
    obtain ⟨hw, s21⟩ := hP
    obtain ⟨k0, wr, ewr, hk0, pk0, no0⟩ := first_bit (bit_some w1 w2)
    obtain ⟨nm0, en0, at0⟩ := nm_at hk0 pk0 no0
    -- what is handed
    let gv : Nat → V := fun i => ([.ref p5, .str (ofL be), .ref p9, .ref p10] : List V).getD i .non
    let bv : Nat → V := fun i => ([x1, x2, x3, x4] : List V).getD i .non
    have eg : ∀ i, i < 4 → ([.ref p5, .str (ofL be), .ref p9, .ref p10] : List V)[i]? = some (gv i) := by
      intro i hi
      match i, hi with
      | 0, _ => rfl
      | 1, _ => rfl
      | 2, _ => rfl
      | 3, _ => rfl
    have ebv : ∀ i, i < 4 → ([x1, x2, x3, x4] : List V)[i]? = some (bv i) := by
      intro i hi
      match i, hi with
      | 0, _ => rfl
      | 1, _ => rfl
      | 2, _ => rfl
      | 3, _ => rfl
    have pick2 : ∀ (b : Bool) (g v : V), atI [g, v] (if b = true then 1 else 0) = some (pk b v g) := by
      intro b g v
      cases b
      · exact atI_nat (j := 0) rfl
      · exact atI_nat (j := 1) rfl
    refine ⟨4, rfl, by decide, by decide, fun Dh hDh => ?_⟩
    refine lc_range (lo := 0) (n := 4) (fun i H' => H' Dh = some (.lst ((List.range i).map fun k => pk (bitP (1 + r1) k) (bv k) (gv k))) ∧ Same H21 H') ⟨upd_same, same_upd hDh⟩ (fun i H' hi hP => ?_) (fun H22 hP => ?_)
    · obtain ⟨hd, sm⟩ := hP
      rw [Int.zero_add]
      have sm20 := s21.trans sm
      refine ⟨rfl, _, rfl, _, rfl, G, _, _, _, rfl, rfl, SqL.of (sm20 _ _ hG20), atI_nat (eg i hi), _, rfl, _, rfl, D, _, _, _, rfl, rfl, SqL.of (sm20 _ _ hD20), atI_nat (ebv i hi), by show 2 ≤ sizeLine; decide, fun l hl => ?_⟩
      have sl := same_upd hl (o := .lst [gv i, bv i])
      refine ⟨_, rfl, _, rfl, Dw, _, rfl, .inl (SqL.of (sl _ _ (sm _ _ hw))), rfl, flat_wr, .inr ⟨_, rfl, ?_⟩⟩
      refine ⟨l, _, _, pk (bitP (1 + r1) i) (bv i) (gv i), rfl, rfl, SqL.of upd_same, ?_, ?_⟩
      · rw [← pick2]
        have e := in_wr (p := bitP (1 + r1)) hi
        show atI _ (if inV _ _ = true then 1 else 0) = _
        rw [e]
      refine ⟨_, sl _ _ hd, by rw [List.length_map, List.length_range]; exact small1 (by omega), by rw [upd_same, List.range_succ, List.map_append]; rfl, fun b o e => ?_⟩
      rw [upd_ne (ne_of_none e hDh)]
      exact sl _ _ (sm _ _ e)
    obtain ⟨hh, s22⟩ := hP
    have hh : H22 Dh = some (.lst [pk (bitP (1 + r1) 0) x1 (.ref p5), pk (bitP (1 + r1) 1) x2 (.str (ofL be)), pk (bitP (1 + r1) 2) x3 (.ref p9), pk (bitP (1 + r1) 3) x4 (.ref p10)]) := hh
    have s2022 := s21.trans s22
    have X2022 : ExtN H20 H22 := .of s2022
    have T22 : Tabs T.TL H22 := Ms.Tabs.same T20 s2022
    -- the first that is wrong
    refine ⟨T22, fun H23 e23 T23 R hR => ⟨_, rfl, Dh, _, _, _, rfl, rfl, SqL.of (ExtN.lst e23 hh), atI_nat (j := 0) rfl, _, rfl, Dh, _, _, _, rfl, rfl, SqL.of (ExtN.lst e23 hh), atI_nat (j := 1) rfl, _, rfl, Dh, _, _, _, rfl, rfl, SqL.of (ExtN.lst e23 hh), atI_nat (j := 2) rfl, _, rfl, Dh, _, _, _, rfl, rfl, SqL.of (ExtN.lst e23 hh), atI_nat (j := 3) rfl, ?_⟩⟩
    have X2023 := X2022.trans e23
    refine fun x dx hx hdx nx => Parts.bad (T := T) ((Parts.mix gp bp _ _ _ _).extN X2023) en0 (fun H24 s24 => ?_) x dx hx hdx nx
    have X2024 : ExtN H20 H24 := X2023.trans (.of s24)
    have T24 : Tabs T.TL H24 := Ms.Tabs.same T23 s24
    refine ⟨_, rfl, _, rfl, Dw, _, _, _, rfl, rfl, SqL.of (s24 _ _ (ExtN.lst e23 (s22 _ _ hw))), atI_nat (j := 0) (by rw [ewr]; rfl), W, _, _, _, rfl, rfl, SqL.of (ExtN.lst X2024 h20), atI_nat at0, rfl, _, rfl, ?_⟩
    rw [decide_eq_true rfl]
    refine iteF ?_
    -- one by one
    refine ⟨4, rfl, by decide, by decide, ?_⟩
    refine for_range (lo := 0) (n := 4) (fun i σ H' => ∃ y9 y10 y11 y12, σ = [some (.ref a), some (.int c), some (.ref s), some (.int (1 + r1)), some (.ref G), some (.ref D), some (.ref W), some (.ref Dw), some (.ref Dh), y9, y10, y11, y12] ∧ ExtN H20 H' ∧ Tabs T.TL H')
      ⟨_, _, _, _, rfl, X2024, T24⟩ (fun k σ H25 hk hP => ?_) (fun σ H25 hP => ?_)
    · obtain ⟨y9, y10, y11, y12, rfl, X25, T25⟩ := hP
      rw [Int.zero_add]
      refine ⟨4, rfl, by decide, by decide, fun Ds hDs => ?_⟩
      refine lc_range (lo := 0) (n := 4) (fun i H' => H' Ds = some (.lst ((List.range i).map fun j => pk (decide (V.int ((j : Nat) : Int) = V.int ((k : Nat) : Int))) (bv j) (gv j))) ∧ Same H25 H') ⟨upd_same, same_upd hDs⟩ (fun i H' hi hP => ?_) (fun H26 hP => ?_)
      · obtain ⟨hd, sm⟩ := hP
        rw [Int.zero_add]
        have Xm : ExtN H20 H' := X25.trans (.of sm)
        refine ⟨rfl, _, rfl, _, rfl, G, _, _, _, rfl, rfl, SqL.of (ExtN.lst Xm hG20), atI_nat (eg i hi), _, rfl, _, rfl, D, _, _, _, rfl, rfl, SqL.of (ExtN.lst Xm hD20), atI_nat (ebv i hi), by show 2 ≤ sizeLine; decide, fun l hl => ?_⟩
        have sl := same_upd hl (o := .lst [gv i, bv i])
        refine ⟨_, rfl, _, rfl, rfl, .inr ⟨_, rfl, ?_⟩⟩
        refine ⟨l, _, _, pk (decide (V.int ((i : Nat) : Int) = V.int ((k : Nat) : Int))) (bv i) (gv i), rfl, rfl, SqL.of upd_same, pick2 _ _ _, ?_⟩
        refine ⟨_, sl _ _ hd, by rw [List.length_map, List.length_range]; exact small1 (by omega), by rw [upd_same, List.range_succ, List.map_append]; rfl, fun b o e => ?_⟩
        rw [upd_ne (ne_of_none e hDs)]
        exact sl _ _ (sm _ _ e)
      obtain ⟨hh2, s26⟩ := hP
      have q01 : ∀ j : Nat, decide (V.int ((j : Nat) : Int) = V.int ((k : Nat) : Int)) = decide (j = k) := fun j => by
        rw [decide_eq_decide]
        exact ⟨fun h => Int.ofNat_inj.mp (V.int.inj h), fun h => by rw [h]⟩
      obtain ⟨nm, en, atk⟩ := nm_at (p := fun j => decide (V.int ((j : Nat) : Int) = V.int ((k : Nat) : Int))) hk (decide_eq_true rfl) (fun j hj => by
        show decide (V.int ((j : Nat) : Int) = V.int ((k : Nat) : Int)) = false
        rw [q01]
        exact decide_eq_false (by omega))
      have hh2 : H26 Ds = some (.lst [pk (decide (V.int ((0 : Nat) : Int) = V.int ((k : Nat) : Int))) x1 (.ref p5), pk (decide (V.int ((1 : Nat) : Int) = V.int ((k : Nat) : Int))) x2 (.str (ofL be)), pk (decide (V.int ((2 : Nat) : Int) = V.int ((k : Nat) : Int))) x3 (.ref p9), pk (decide (V.int ((3 : Nat) : Int) = V.int ((k : Nat) : Int))) x4 (.ref p10)]) := hh2
      have T26 : Tabs T.TL H26 := Ms.Tabs.same T25 s26
      have X26 : ExtN H20 H26 := X25.trans (.of s26)
      refine ⟨T26, fun H27 e27 T27 R hR => ⟨_, rfl, Ds, _, _, _, rfl, rfl, SqL.of (ExtN.lst e27 hh2), atI_nat (j := 3) rfl, _, rfl, Ds, _, _, _, rfl, rfl, SqL.of (ExtN.lst e27 hh2), atI_nat (j := 0) rfl, _, rfl, Ds, _, _, _, rfl, rfl, SqL.of (ExtN.lst e27 hh2), atI_nat (j := 2) rfl, _, rfl, Ds, _, _, _, rfl, rfl, SqL.of (ExtN.lst e27 hh2), atI_nat (j := 1) rfl, rfl, rfl, ?_⟩⟩
      have X27 := X26.trans e27
      refine fun x dx hx hdx nx => Parts.bad (T := T) ((Parts.mix gp bp _ _ _ _).extN X27) en (fun H28 s28 => ?_) x dx hx hdx nx
      have X28 : ExtN H20 H28 := X27.trans (.of s28)
      refine ⟨_, rfl, _, rfl, W, _, _, _, rfl, rfl, SqL.of (ExtN.lst X28 h20), atI_nat atk, rfl, _, rfl, ?_⟩
      rw [decide_eq_true rfl]
      exact iteF ⟨_, _, _, _, rfl, X28, Ms.Tabs.same T27 s28⟩
    -- the good
    obtain ⟨y9, y10, y11, y12, rfl, X25, T25⟩ := hP
    refine ⟨T25, fun H27 e27 T27 R hR => ?_⟩
    have X27 := X25.trans e27
    have g27 := ExtN.lst X27 hG20
    refine ⟨_, rfl, G, _, _, _, rfl, rfl, SqL.of g27, atI_nat (j := 0) rfl, _, rfl, G, _, _, _, rfl, rfl, SqL.of g27, atI_nat (j := 1) rfl, _, rfl, G, _, _, _, rfl, rfl, SqL.of g27, atI_nat (j := 2) rfl, _, rfl, G, _, _, _, rfl, rfl, SqL.of g27, atI_nat (j := 3) rfl, ?_⟩
    refine fun x dx hx hdx nx => Parts.good (T := T) (gp.extN X27) (fun H28 s28 => ⟨rfl, hR _ _ ?_⟩) x dx hx hdx nx
    clear hx hdx nx
    have X28 : ExtN H20 H28 := X27.trans (.of s28)
    have T28 : Tabs T.TL H28 := Ms.Tabs.same T27 s28
    have g28 := ExtN.lst X28 hG20
    refine ⟨rfl, _, rfl, ?_⟩
    rw [decide_eq_true rfl]
    refine iteF ?_
    -- edges
    refine ⟨by show 1 ≤ sizeLine; decide, fun m1 hm1 => ?_⟩
    have u1 := same_upd hm1 (o := .lst [.str (Str.ofString "|")])
    have v1 : upd H28 m1 (.lst [.str (Str.ofString "|")]) m1 = some (.lst [.str (ofL EDG)]) := upd_same
    generalize upd H28 m1 (.lst [.str (Str.ofString "|")]) = I1 at u1 v1 ⊢
    refine ⟨_, rfl, G, _, _, _, rfl, rfl, SqL.of (u1 _ _ g28), atI_nat (j := 2) rfl, _, rfl, p9, _, rfl, SqL.of (u1 _ _ (ExtN.lst X28 k9)), fun m2 hm2 => ?_⟩
    have e2 : cutV (tx z3) none (some 1) = tx (z3.take 1) := (cv_to _ 1).trans (List.map_take ..).symm
    rw [e2]
    have u2 := same_upd hm2 (o := .lst (tx (z3.take 1)))
    have v2 : upd I1 m2 (.lst (tx (z3.take 1))) m2 = _ := upd_same
    generalize upd I1 m2 (.lst (tx (z3.take 1))) = I2 at u2 v2 ⊢
    have lt3 : (z3.take 1).length ≤ 1 := by rw [List.length_take]; omega
    have lt4 : (z4.take 1).length ≤ 1 := by rw [List.length_take]; omega
    refine ⟨_, _, _, _, rfl, rfl, u2 _ _ v1, v2, by rw [tx_len]; exact small2 (by show 1 + _ ≤ _; omega), fun m3 hm3 => ?_⟩
    have u3 := same_upd hm3 (o := .lst ([.str (ofL EDG)] ++ tx (z3.take 1)))
    have v3 : upd I2 m3 (.lst ([.str (ofL EDG)] ++ tx (z3.take 1))) m3 = some (.lst (.str (ofL EDG) :: tx (z3.take 1))) := upd_same
    generalize upd I2 m3 (.lst ([.str (ofL EDG)] ++ tx (z3.take 1))) = I3 at u3 v3 ⊢
    have u13 := (u1.trans u2).trans u3
    refine ⟨_, rfl, G, _, _, _, rfl, rfl, SqL.of (u13 _ _ g28), atI_nat (j := 3) rfl, _, rfl, p10, _, rfl, SqL.of (u13 _ _ (ExtN.lst X28 k10)), fun m4 hm4 => ?_⟩
    have e4 : cutV (tx z4) none (some 1) = tx (z4.take 1) := (cv_to _ 1).trans (List.map_take ..).symm
    rw [e4]
    have u4 := same_upd hm4 (o := .lst (tx (z4.take 1)))
    have v4 : upd I3 m4 (.lst (tx (z4.take 1))) m4 = _ := upd_same
    generalize upd I3 m4 (.lst (tx (z4.take 1))) = I4 at u4 v4 ⊢
    refine ⟨by show 1 ≤ sizeLine; decide, fun m5 hm5 => ?_⟩
    have u5 := same_upd hm5 (o := .lst [.str (Str.ofString "|")])
    have v5 : upd I4 m5 (.lst [.str (Str.ofString "|")]) m5 = some (.lst [.str (ofL EDG)]) := upd_same
    generalize upd I4 m5 (.lst [.str (Str.ofString "|")]) = I5 at u5 v5 ⊢
    refine ⟨_, _, _, _, rfl, rfl, u5 _ _ v4, v5, by rw [tx_len]; exact small2 (by show _ + 1 ≤ _; omega), fun m6 hm6 => ?_⟩
    have u6 := same_upd hm6 (o := .lst (tx (z4.take 1) ++ [.str (ofL EDG)]))
    have v6 : upd I5 m6 (.lst (tx (z4.take 1) ++ [.str (ofL EDG)])) m6 = _ := upd_same
    generalize upd I5 m6 (.lst (tx (z4.take 1) ++ [.str (ofL EDG)])) = I6 at u6 v6 ⊢
    refine ⟨by show 2 ≤ sizeLine; decide, fun m7 hm7 => ?_⟩
    have u7 := same_upd hm7 (o := .lst [.ref m3, .ref m6])
    have v7 : upd I6 m7 (.lst [.ref m3, .ref m6]) m7 = _ := upd_same
    generalize upd I6 m7 (.lst [.ref m3, .ref m6]) = I7 at u7 v7 ⊢
    have u47 := ((u4.trans u5).trans u6).trans u7
    have u17 := u13.trans u47
    have X17 : ExtN H20 I7 := X28.trans (.of u17)
    have T17 : Tabs T.TL I7 := Ms.Tabs.same T28 u17
    have w3 := u47 _ _ v3
    have w6 := u7 _ _ v6
    have ns : ∀ {b o} {K1 K2 : Hp}, Same H28 K1 → K1 b = none → K2 b = some (HO.lst o) → b ≠ s := fun {b o K1 K2} sm n _ e => by
      have : ∃ x y z, H28 s = some (.lst [.int x, .int y, .int z]) := by
        obtain ⟨x, y, z, e⟩ := src20
        exact ⟨x, y, z, ExtN.lst X28 e⟩
      obtain ⟨x, y, z, e'⟩ := this
      have := sm _ _ e'
      rw [e, this] at n
      cases n
    have nm3 : m3 ≠ s := ns (u1.trans u2) hm3 v3
    have nm6 : m6 ≠ s := ns ((u13.trans u4).trans u5) hm6 v6
    obtain ⟨gr1, gt2, gr3, gr4, gh1, gh2, gh3, gh4, gn3, gn4, gg1, gg2, gg3, gg4⟩ := gp
    have iE : ∀ {H' : Hp}, IsT s H' (.str (ofL EDG)) (some EDG) := fun {H'} => .yes (by decide)
    have pz3 : ∀ z ∈ z3.take 1, Pl z := fun z h => hz3 z (List.mem_of_mem_take h)
    have pz4 : ∀ z ∈ z4.take 1, Pl z := fun z h => hz4 z (List.mem_of_mem_take h)
    have gB : goodB (some (some EDG :: (z3.take 1).map some)) = true := by
      show (decide (((z3.take 1).map some).length + 1 ≤ 2) && (restB (some EDG :: (z3.take 1).map some)).all plB) = true
      rw [restB_edg, all_pl pz3, decide_eq_true (by rw [List.length_map]; omega)]
      rfl
    have gA : goodA (some ((z4.take 1).map some ++ [some EDG])) = true := by
      show (decide (((z4.take 1).map some ++ [some EDG]).length ≤ 2) && (restA ((z4.take 1).map some ++ [some EDG])).all plB) = true
      have e : restA ((z4.take 1).map some ++ [some EDG]) = (z4.take 1).map some := by
        unfold restA
        rw [if_pos (by rw [List.getLast?_concat]), List.dropLast_concat]
      rw [e, all_pl pz4, decide_eq_true (by rw [List.length_append, List.length_map]; show _ + 1 ≤ _; omega)]
      rfl
    have ep : Parts s I7 (.ref p5) (.str (ofL be)) (.ref m3) (.ref m6) true true true true :=
      ⟨gr1, gt2, _, _, gh1.extN X17, gh2.extN X17, .yes nm3 w3 (.cons iE (row_str (lp pz3))) (by rw [List.length_cons, tx_len]; omega), .yes nm6 w6 (pr_app (row_str (lp pz4)) (.cons iE .nil)) (by rw [List.length_append, tx_len]; show _ + 1 ≤ _; omega), (fun h => by cases h), (fun h => by cases h), gg1, gg2, gB, gA⟩
    refine ⟨T17, fun J1 f1 Tj R2 hR2 => ?_⟩
    have XJ := X17.trans f1
    have gJ := ExtN.lst XJ hG20
    have eJ := ExtN.lst f1 v7
    refine ⟨_, rfl, G, _, _, _, rfl, rfl, SqL.of gJ, atI_nat (j := 0) rfl, _, rfl, G, _, _, _, rfl, rfl, SqL.of gJ, atI_nat (j := 1) rfl, _, rfl, m7, _, _, _, rfl, rfl, SqL.of eJ, atI_nat (j := 0) rfl, _, rfl, m7, _, _, _, rfl, rfl, SqL.of eJ, atI_nat (j := 1) rfl, ?_⟩
    refine fun x dx hx hdx nx => Parts.good (T := T) (ep.extN f1) (fun J2 t2 => ⟨rfl, hR2 _ _ ?_⟩) x dx hx hdx nx
    clear hx hdx nx
    have XJ2 : ExtN H20 J2 := XJ.trans (.of t2)
    have TJ2 : Tabs T.TL J2 := Ms.Tabs.same Tj t2
    refine ⟨rfl, _, rfl, ?_⟩
    rw [decide_eq_true rfl]
    refine iteF ?_
    -- edges alone
    refine ⟨TJ2, fun J3 f3 Tj3 R3 hR3 => ?_⟩
    have XJ3 := XJ2.trans f3
    have gJ3 := ExtN.lst XJ3 hG20
    refine ⟨_, rfl, G, _, _, _, rfl, rfl, SqL.of gJ3, atI_nat (j := 0) rfl, _, rfl, G, _, _, _, rfl, rfl, SqL.of gJ3, atI_nat (j := 1) rfl, by show 1 ≤ sizeLine; decide, fun n1 hn1 => ?_⟩
    have t1 := same_upd hn1 (o := .lst [.str (Str.ofString "|")])
    have d1 : upd J3 n1 (.lst [.str (Str.ofString "|")]) n1 = some (.lst [.str (ofL EDG)]) := upd_same
    generalize upd J3 n1 (.lst [.str (Str.ofString "|")]) = J4 at t1 d1 ⊢
    refine ⟨by show 1 ≤ sizeLine; decide, fun n2 hn2 => ?_⟩
    have t2' := same_upd hn2 (o := .lst [.str (Str.ofString "|")])
    have d2 : upd J4 n2 (.lst [.str (Str.ofString "|")]) n2 = some (.lst [.str (ofL EDG)]) := upd_same
    generalize upd J4 n2 (.lst [.str (Str.ofString "|")]) = J5 at t2' d2 ⊢
    have nsJ : ∀ {b o} {K1 K2 : Hp}, Same J3 K1 → K1 b = none → K2 b = some (HO.lst o) → b ≠ s := fun {b o K1 K2} sm n _ e => by
      have : ∃ x y z, J3 s = some (.lst [.int x, .int y, .int z]) := by
        obtain ⟨x, y, z, e⟩ := src20
        exact ⟨x, y, z, ExtN.lst XJ3 e⟩
      obtain ⟨x, y, z, e'⟩ := this
      have := sm _ _ e'
      rw [e, this] at n
      cases n
    have nn1 : n1 ≠ s := nsJ (Same.refl _) hn1 d1
    have nn2 : n2 ≠ s := nsJ t1 hn2 d2
    have XJ5 : ExtN H20 J5 := XJ3.trans (.of (t1.trans t2'))
    have lp5 : Parts s J5 (.ref p5) (.str (ofL be)) (.ref n1) (.ref n2) true true true true :=
      ⟨gr1, gt2, some [some EDG], some [some EDG], gh1.extN XJ5, gh2.extN XJ5, .yes nn1 (t2' _ _ d1) (.cons iE .nil) (by show 1 ≤ 100; decide), .yes nn2 d2 (.cons iE .nil) (by show 1 ≤ 100; decide), (fun h => by cases h), (fun h => by cases h), gg1, gg2, by decide, by decide⟩
    refine fun x dx hx hdx nx => Parts.good (T := T) lp5 (fun J6 t6 => ⟨rfl, hR3 _ _ ?_⟩) x dx hx hdx nx
    refine ⟨rfl, _, rfl, ?_⟩
    rw [decide_eq_true rfl]
    refine iteF ?_
    exact ⟨_, _, _, _, _, _, _, _, _, _, _, _, rfl, X20.trans (XJ5.trans (.of t6)), Ms.Tabs.same (Ms.Tabs.same Tj3 (t1.trans t2')) t6⟩

theorem all_mk {l : PySem.W.OpenLaw} (el : l.prog = prg) {q : Program} (eq : ∀ x ∈ (["law"] : List Str), ((recsOf q).any fun e => e.name == x) = true) {w : World} {K : PySem.W.Frag} {h : Heap} {mg : Str → Option Value} {fa : Addr} (X : K.In h) (G : h.Ns mainGlobals mg) (hfa : mg "law" = some (.ref fa)) (own : OwnTabs K mg q h)
    {C_Rule f0 cd0 f1 cd1 f2 cd2 f3 cd3 f4 cd4 f5 cd5 f6 cd6 f7 cd7 f8 cd8 f9 cd9 f10 cd10 f11 cd11 f12 cd12 f13 cd13 f14 cd14 f15 cd15 f16 cd16 f17 cd17 f18 cd18 f19 cd19 f20 cd20 f21 cd21 f22 cd22 f23 cd23 dt23 f24 cd24 f25 cd25 f26 cd26 f27 cd27 P27 C_NoRule I_NoRule C_SeamError : Addr}
    {od0 an0 od1 an1 od2 an2 od3 an3 od4 an4 od5 an5 od6 an6 od7 an7 od8 an8 od9 an9 od10 an10 od11 an11 od12 an12 od13 an13 od14 an14 od15 an15 od16 an16 od17 an17 od18 an18 od19 an19 od20 an20 od21 an21 od22 an22 od23 an23 td23 od24 an24 od25 an25 od26 an26 od27 an27 qd27 : Option Addr}
    {sl0 sl1 sl2 sl3 sl4 sl5 sl6 sl7 sl8 sl9 sl10 sl11 sl12 sl13 sl14 sl15 sl16 sl17 sl18 sl19 sl20 sl21 sl22 sl23 ts23 sl24 sl25 sl26 sl27 qs27 : Array (Option Value)}
    {oc0 kV0 dc0 pm0 ct0 oc1 kV1 dc1 pm1 ct1 oc2 kV2 dc2 pm2 ct2 oc3 kV3 dc3 pm3 ct3 oc4 kV4 dc4 pm4 ct4 oc5 kV5 dc5 pm5 ct5 oc6 kV6 dc6 pm6 ct6 oc7 kV7 dc7 pm7 ct7 oc8 kV8 dc8 pm8 ct8 oc9 kV9 dc9 pm9 ct9 oc10 kV10 dc10 pm10 ct10 oc11 kV11 dc11 pm11 ct11 oc12 kV12 dc12 pm12 ct12 oc13 kV13 dc13 pm13 ct13 oc14 kV14 dc14 pm14 ct14 oc15 kV15 dc15 pm15 ct15 oc16 kV16 dc16 pm16 ct16 oc17 kV17 dc17 pm17 ct17 oc18 kV18 dc18 pm18 ct18 oc19 kV19 dc19 pm19 ct19 oc20 kV20 dc20 pm20 ct20 oc21 kV21 dc21 pm21 ct21 oc22 kV22 dc22 pm22 ct22 oc23 kV23 dc23 pm23 ct23 tc23 oc24 kV24 dc24 pm24 ct24 oc25 kV25 dc25 pm25 ct25 oc26 kV26 dc26 pm26 ct26 oc27 kV27 dc27 pm27 ct27 qc27 : Value}
    {qv27 : Array Value}
    {tn23 : Nat}
    {tk_SIGNS tk_EDGE tk_MOST_TAKEN tk_MOST_PUT tk_MOST_BESIDE : Tok}
    (v_Rule : PySem.W.nsIn K mainGlobals "Rule" = some (some (.ref C_Rule))) (pg_Rule : PySem.W.plainGet K C_Rule Str.empty = true) (hd_Rule : PySem.W.hasDictIn K C_Rule = true) (po_Rule : PySem.W.plainOver K C_Rule = true) (sa_Rule : PySem.W.findIn K (.ref C_Rule) "__setattr__" = some (some (.builtin "object.__setattr__"))) (mk_Rule : PySem.W.makesIn K C_Rule = true) (kc_Rule : PySem.W.keepIn K (.ref C_Rule) = true)
    (na_Rule_what : PySem.W.findIn K (.ref C_Rule) "_what" = some none)
    (na_Rule_becomes : PySem.W.findIn K (.ref C_Rule) "_becomes" = some none)
    (na_Rule_behind : PySem.W.findIn K (.ref C_Rule) "_behind" = some none)
    (na_Rule_ahead : PySem.W.findIn K (.ref C_Rule) "_ahead" = some none)
    (a0 : PySem.W.nsIn K mainGlobals "is_text" = some (some (.ref f0))) (l0 : K.lookup f0 = some ⟨oc0, od0, .func (PySem.W.fnOf "is_text" "is_text" (defArgs s_is_text) (defBody s_is_text) (defScope s_is_text) .none kV0 dc0 pm0 an0 (.ref cd0) ct0), sl0⟩) (c0 : PySem.W.codeIn K (.ref cd0) "is_text" = true) (k0 : PySem.W.keepIn K (.ref f0) = true)
    (a1 : PySem.W.nsIn K mainGlobals "are_signs" = some (some (.ref f1))) (l1 : K.lookup f1 = some ⟨oc1, od1, .func (PySem.W.fnOf "are_signs" "are_signs" (defArgs s_are_signs) (defBody s_are_signs) (defScope s_are_signs) .none kV1 dc1 pm1 an1 (.ref cd1) ct1), sl1⟩) (c1 : PySem.W.codeIn K (.ref cd1) "are_signs" = true) (k1 : PySem.W.keepIn K (.ref f1) = true)
    (a2 : PySem.W.nsIn K mainGlobals "are_unlike_signs" = some (some (.ref f2))) (l2 : K.lookup f2 = some ⟨oc2, od2, .func (PySem.W.fnOf "are_unlike_signs" "are_unlike_signs" (defArgs s_are_unlike_signs) (defBody s_are_unlike_signs) (defScope s_are_unlike_signs) .none kV2 dc2 pm2 an2 (.ref cd2) ct2), sl2⟩) (c2 : PySem.W.codeIn K (.ref cd2) "are_unlike_signs" = true) (k2 : PySem.W.keepIn K (.ref f2) = true)
    (a3 : PySem.W.nsIn K mainGlobals "is_place" = some (some (.ref f3))) (l3 : K.lookup f3 = some ⟨oc3, od3, .func (PySem.W.fnOf "is_place" "is_place" (defArgs s_is_place) (defBody s_is_place) (defScope s_is_place) .none kV3 dc3 pm3 an3 (.ref cd3) ct3), sl3⟩) (c3 : PySem.W.codeIn K (.ref cd3) "is_place" = true) (k3 : PySem.W.keepIn K (.ref f3) = true)
    (a4 : PySem.W.nsIn K mainGlobals "is_edge" = some (some (.ref f4))) (l4 : K.lookup f4 = some ⟨oc4, od4, .func (PySem.W.fnOf "is_edge" "is_edge" (defArgs s_is_edge) (defBody s_is_edge) (defScope s_is_edge) .none kV4 dc4 pm4 an4 (.ref cd4) ct4), sl4⟩) (c4 : PySem.W.codeIn K (.ref cd4) "is_edge" = true) (k4 : PySem.W.keepIn K (.ref f4) = true)
    (a5 : PySem.W.nsIn K mainGlobals "are_places" = some (some (.ref f5))) (l5 : K.lookup f5 = some ⟨oc5, od5, .func (PySem.W.fnOf "are_places" "are_places" (defArgs s_are_places) (defBody s_are_places) (defScope s_are_places) .none kV5 dc5 pm5 an5 (.ref cd5) ct5), sl5⟩) (c5 : PySem.W.codeIn K (.ref cd5) "are_places" = true) (k5 : PySem.W.keepIn K (.ref f5) = true)
    (a6 : PySem.W.nsIn K mainGlobals "is_beside" = some (some (.ref f6))) (l6 : K.lookup f6 = some ⟨oc6, od6, .func (PySem.W.fnOf "is_beside" "is_beside" (defArgs s_is_beside) (defBody s_is_beside) (defScope s_is_beside) .none kV6 dc6 pm6 an6 (.ref cd6) ct6), sl6⟩) (c6 : PySem.W.codeIn K (.ref cd6) "is_beside" = true) (k6 : PySem.W.keepIn K (.ref f6) = true)
    (a7 : PySem.W.nsIn K mainGlobals "is_behind" = some (some (.ref f7))) (l7 : K.lookup f7 = some ⟨oc7, od7, .func (PySem.W.fnOf "is_behind" "is_behind" (defArgs s_is_behind) (defBody s_is_behind) (defScope s_is_behind) .none kV7 dc7 pm7 an7 (.ref cd7) ct7), sl7⟩) (c7 : PySem.W.codeIn K (.ref cd7) "is_behind" = true) (k7 : PySem.W.keepIn K (.ref f7) = true)
    (a8 : PySem.W.nsIn K mainGlobals "is_ahead" = some (some (.ref f8))) (l8 : K.lookup f8 = some ⟨oc8, od8, .func (PySem.W.fnOf "is_ahead" "is_ahead" (defArgs s_is_ahead) (defBody s_is_ahead) (defScope s_is_ahead) .none kV8 dc8 pm8 an8 (.ref cd8) ct8), sl8⟩) (c8 : PySem.W.codeIn K (.ref cd8) "is_ahead" = true) (k8 : PySem.W.keepIn K (.ref f8) = true)
    (a9 : PySem.W.nsIn K mainGlobals "want_parts" = some (some (.ref f9))) (l9 : K.lookup f9 = some ⟨oc9, od9, .func (PySem.W.fnOf "want_parts" "want_parts" (defArgs s_want_parts) (defBody s_want_parts) (defScope s_want_parts) .none kV9 dc9 pm9 an9 (.ref cd9) ct9), sl9⟩) (c9 : PySem.W.codeIn K (.ref cd9) "want_parts" = true) (k9 : PySem.W.keepIn K (.ref f9) = true)
    (a10 : PySem.W.nsIn K mainGlobals "sorted_places" = some (some (.ref f10))) (l10 : K.lookup f10 = some ⟨oc10, od10, .func (PySem.W.fnOf "sorted_places" "sorted_places" (defArgs s_sorted_places) (defBody s_sorted_places) (defScope s_sorted_places) .none kV10 dc10 pm10 an10 (.ref cd10) ct10), sl10⟩) (c10 : PySem.W.codeIn K (.ref cd10) "sorted_places" = true) (k10 : PySem.W.keepIn K (.ref f10) = true)
    (a11 : PySem.W.nsIn K mainGlobals "dotted" = some (some (.ref f11))) (l11 : K.lookup f11 = some ⟨oc11, od11, .func (PySem.W.fnOf "dotted" "dotted" (defArgs s_dotted) (defBody s_dotted) (defScope s_dotted) .none kV11 dc11 pm11 an11 (.ref cd11) ct11), sl11⟩) (c11 : PySem.W.codeIn K (.ref cd11) "dotted" = true) (k11 : PySem.W.keepIn K (.ref f11) = true)
    (a12 : PySem.W.nsIn K mainGlobals "_law_mixed" = some (some (.ref f12))) (l12 : K.lookup f12 = some ⟨oc12, od12, .func (PySem.W.fnOf "_law_mixed" "_law_mixed" (defArgs s_y_mixed) (defBody s_y_mixed) (defScope s_y_mixed) .none kV12 dc12 pm12 an12 (.ref cd12) ct12), sl12⟩) (c12 : PySem.W.codeIn K (.ref cd12) "_law_mixed" = true) (k12 : PySem.W.keepIn K (.ref f12) = true)
    (a13 : PySem.W.nsIn K mainGlobals "_law_source" = some (some (.ref f13))) (l13 : K.lookup f13 = some ⟨oc13, od13, .func (PySem.W.fnOf "_law_source" "_law_source" (defArgs s_y_source) (defBody s_y_source) (defScope s_y_source) .none kV13 dc13 pm13 an13 (.ref cd13) ct13), sl13⟩) (c13 : PySem.W.codeIn K (.ref cd13) "_law_source" = true) (k13 : PySem.W.keepIn K (.ref f13) = true)
    (a14 : PySem.W.nsIn K mainGlobals "_law_take" = some (some (.ref f14))) (l14 : K.lookup f14 = some ⟨oc14, od14, .func (PySem.W.fnOf "_law_take" "_law_take" (defArgs s_y_take) (defBody s_y_take) (defScope s_y_take) .none kV14 dc14 pm14 an14 (.ref cd14) ct14), sl14⟩) (c14 : PySem.W.codeIn K (.ref cd14) "_law_take" = true) (k14 : PySem.W.keepIn K (.ref f14) = true)
    (a15 : PySem.W.nsIn K mainGlobals "_law_unlike" = some (some (.ref f15))) (l15 : K.lookup f15 = some ⟨oc15, od15, .func (PySem.W.fnOf "_law_unlike" "_law_unlike" (defArgs s_y_unlike) (defBody s_y_unlike) (defScope s_y_unlike) .none kV15 dc15 pm15 an15 (.ref cd15) ct15), sl15⟩) (c15 : PySem.W.codeIn K (.ref cd15) "_law_unlike" = true) (k15 : PySem.W.keepIn K (.ref f15) = true)
    (a16 : PySem.W.nsIn K mainGlobals "_law_places" = some (some (.ref f16))) (l16 : K.lookup f16 = some ⟨oc16, od16, .func (PySem.W.fnOf "_law_places" "_law_places" (defArgs s_y_places) (defBody s_y_places) (defScope s_y_places) .none kV16 dc16 pm16 an16 (.ref cd16) ct16), sl16⟩) (c16 : PySem.W.codeIn K (.ref cd16) "_law_places" = true) (k16 : PySem.W.keepIn K (.ref f16) = true)
    (a17 : PySem.W.nsIn K mainGlobals "_law_bad_place" = some (some (.ref f17))) (l17 : K.lookup f17 = some ⟨oc17, od17, .func (PySem.W.fnOf "_law_bad_place" "_law_bad_place" (defArgs s_y_bad_place) (defBody s_y_bad_place) (defScope s_y_bad_place) .none kV17 dc17 pm17 an17 (.ref cd17) ct17), sl17⟩) (c17 : PySem.W.codeIn K (.ref cd17) "_law_bad_place" = true) (k17 : PySem.W.keepIn K (.ref f17) = true)
    (a18 : PySem.W.nsIn K mainGlobals "_law_with" = some (some (.ref f18))) (l18 : K.lookup f18 = some ⟨oc18, od18, .func (PySem.W.fnOf "_law_with" "_law_with" (defArgs s_y_with) (defBody s_y_with) (defScope s_y_with) .none kV18 dc18 pm18 an18 (.ref cd18) ct18), sl18⟩) (c18 : PySem.W.codeIn K (.ref cd18) "_law_with" = true) (k18 : PySem.W.keepIn K (.ref f18) = true)
    (a19 : PySem.W.nsIn K mainGlobals "_law_bad_what" = some (some (.ref f19))) (l19 : K.lookup f19 = some ⟨oc19, od19, .func (PySem.W.fnOf "_law_bad_what" "_law_bad_what" (defArgs s_y_bad_what) (defBody s_y_bad_what) (defScope s_y_bad_what) .none kV19 dc19 pm19 an19 (.ref cd19) ct19), sl19⟩) (c19 : PySem.W.codeIn K (.ref cd19) "_law_bad_what" = true) (k19 : PySem.W.keepIn K (.ref f19) = true)
    (a20 : PySem.W.nsIn K mainGlobals "_law_bad_put" = some (some (.ref f20))) (l20 : K.lookup f20 = some ⟨oc20, od20, .func (PySem.W.fnOf "_law_bad_put" "_law_bad_put" (defArgs s_y_bad_put) (defBody s_y_bad_put) (defScope s_y_bad_put) .none kV20 dc20 pm20 an20 (.ref cd20) ct20), sl20⟩) (c20 : PySem.W.codeIn K (.ref cd20) "_law_bad_put" = true) (k20 : PySem.W.keepIn K (.ref f20) = true)
    (a21 : PySem.W.nsIn K mainGlobals "_law_bad_beside" = some (some (.ref f21))) (l21 : K.lookup f21 = some ⟨oc21, od21, .func (PySem.W.fnOf "_law_bad_beside" "_law_bad_beside" (defArgs s_y_bad_beside) (defBody s_y_bad_beside) (defScope s_y_bad_beside) .none kV21 dc21 pm21 an21 (.ref cd21) ct21), sl21⟩) (c21 : PySem.W.codeIn K (.ref cd21) "_law_bad_beside" = true) (k21 : PySem.W.keepIn K (.ref f21) = true)
    (a22 : PySem.W.nsIn K mainGlobals "_law_refused" = some (some (.ref f22))) (l22 : K.lookup f22 = some ⟨oc22, od22, .func (PySem.W.fnOf "_law_refused" "_law_refused" (defArgs s_y_refused) (defBody s_y_refused) (defScope s_y_refused) .none kV22 dc22 pm22 an22 (.ref cd22) ct22), sl22⟩) (c22 : PySem.W.codeIn K (.ref cd22) "_law_refused" = true) (k22 : PySem.W.keepIn K (.ref f22) = true)
    (a23 : PySem.W.findIn K (.ref C_Rule) "__init__" = some (some (.ref f23))) (i23 : PySem.W.isFn K (.ref f23) = true) (l23 : K.lookup f23 = some ⟨oc23, od23, .func (PySem.W.fnOf "__init__" "Rule.__init__" (defArgs s_Rule_init) (defBody s_Rule_init) (defScope s_Rule_init) (.ref dt23) kV23 dc23 pm23 an23 (.ref cd23) ct23), sl23⟩) (c23 : PySem.W.codeIn K (.ref cd23) "Rule.__init__" = true) (k23 : PySem.W.keepIn K (.ref f23) = true)
    (t23 : K.lookup dt23 = some ⟨tc23, td23, .seq #[.none, .none] tn23, ts23⟩)
    (a24 : PySem.W.findIn K (.ref C_Rule) "put" = some (some (.ref f24))) (i24 : PySem.W.isFn K (.ref f24) = true) (l24 : K.lookup f24 = some ⟨oc24, od24, .func (PySem.W.fnOf "put" "Rule.put" (defArgs s_Rule_put) (defBody s_Rule_put) (defScope s_Rule_put) .none kV24 dc24 pm24 an24 (.ref cd24) ct24), sl24⟩) (c24 : PySem.W.codeIn K (.ref cd24) "Rule.put" = true) (k24 : PySem.W.keepIn K (.ref f24) = true)
    (a25 : PySem.W.findIn K (.ref C_Rule) "__eq__" = some (some (.ref f25))) (i25 : PySem.W.isFn K (.ref f25) = true) (l25 : K.lookup f25 = some ⟨oc25, od25, .func (PySem.W.fnOf "__eq__" "Rule.__eq__" (defArgs s_Rule_eq) (defBody s_Rule_eq) (defScope s_Rule_eq) .none kV25 dc25 pm25 an25 (.ref cd25) ct25), sl25⟩) (c25 : PySem.W.codeIn K (.ref cd25) "Rule.__eq__" = true) (k25 : PySem.W.keepIn K (.ref f25) = true)
    (a26 : PySem.W.findIn K (.ref C_Rule) "__str__" = some (some (.ref f26))) (i26 : PySem.W.isFn K (.ref f26) = true) (l26 : K.lookup f26 = some ⟨oc26, od26, .func (PySem.W.fnOf "__str__" "Rule.__str__" (defArgs s_Rule_str) (defBody s_Rule_str) (defScope s_Rule_str) .none kV26 dc26 pm26 an26 (.ref cd26) ct26), sl26⟩) (c26 : PySem.W.codeIn K (.ref cd26) "Rule.__str__" = true) (k26 : PySem.W.keepIn K (.ref f26) = true)
    (a27 : PySem.W.nsIn K mainGlobals "law" = some (some (.ref f27))) (l27 : K.lookup f27 = some ⟨oc27, od27, .func (PySem.W.fnOf "law" "law" (defArgs s_y_law) (defBody s_y_law) (defScope s_y_law) .none kV27 dc27 pm27 an27 (.ref cd27) ct27), sl27⟩) (c27 : PySem.W.codeIn K (.ref cd27) "law" = true) (k27 : PySem.W.keepIn K (.ref f27) = true)
    (q27 : K.lookup cd27 = some ⟨qc27, qd27, .fields qv27, qs27⟩) (r27 : qv27[11]? = some (.ref P27)) (h27 : PySem.W.codeHdIn K cd27 P27 = true) (n27 : K.lookup P27 = none)
    (v_SIGNS : PySem.W.nsIn K mainGlobals "SIGNS" = some (some (.str "ABCDEFGHIJKLMNOPQRSTUVWXYZabcdefghijklmnopqrstuvwxyz" tk_SIGNS)))
    (v_EDGE : PySem.W.nsIn K mainGlobals "EDGE" = some (some (.str "|" tk_EDGE)))
    (v_MOST_TAKEN : PySem.W.nsIn K mainGlobals "MOST_TAKEN" = some (some (.int 3 tk_MOST_TAKEN)))
    (v_MOST_PUT : PySem.W.nsIn K mainGlobals "MOST_PUT" = some (some (.int 3 tk_MOST_PUT)))
    (v_MOST_BESIDE : PySem.W.nsIn K mainGlobals "MOST_BESIDE" = some (some (.int 2 tk_MOST_BESIDE)))
    (x_NoRule : PySem.Sx.Txt prg K mg "NoRule" "what" C_NoRule I_NoRule)
    (v_SeamError : PySem.W.nsIn K mainGlobals "SeamError" = some (some (.ref C_SeamError)))
    (m_NoRule_SeamError : PySem.W.exmOne K (.ref C_NoRule) (.ref C_SeamError) = some true)
    (e_NoRule : ExcC K C_NoRule)
    (n_NoRule_NoRule : PySem.W.kitOne K (.ref C_NoRule) (.ref C_NoRule) = some true)
    (z_ValueError : PySem.W.nsIn K mainGlobals "ValueError" = some none)
    (z_all : PySem.W.nsIn K mainGlobals "all" = some none)
    (z_int : PySem.W.nsIn K mainGlobals "int" = some none)
    (z_isinstance : PySem.W.nsIn K mainGlobals "isinstance" = some none)
    (z_len : PySem.W.nsIn K mainGlobals "len" = some none)
    (z_list : PySem.W.nsIn K mainGlobals "list" = some none)
    (z_range : PySem.W.nsIn K mainGlobals "range" = some none)
    (z_set : PySem.W.nsIn K mainGlobals "set" = some none)
    (z_sorted : PySem.W.nsIn K mainGlobals "sorted" = some none)
    (z_str : PySem.W.nsIn K mainGlobals "str" = some none) :
    LawAtS l w K LCX lvl 63 "_law_script" mg fa h := by
  have e := hfa.symm.trans (PySem.W.mg_of X G a27)
  cases e
  refine ⟨PySem.W.fnOf "law" "law" (defArgs s_y_law) (defBody s_y_law) (defScope s_y_law) .none kV27 dc27 pm27 an27 (.ref cd27) ct27, [(cd27, P27)], spLaw K [(P27, "law.<locals>.<lambda>")], fun p hp => by
      simp only [List.mem_cons, List.not_mem_nil, or_false] at hp
      rcases hp with rfl
      · exact own "law" _ (eq _ (by simp)) (PySem.W.mg_of X G a27) _ _ _ _ _ _ _ _ l27 rfl rfl q27 r27,
    fun p hp => by
      simp only [List.mem_cons, List.not_mem_nil, or_false] at hp
      rcases hp with rfl
      · exact n27,
    fun p hp => by
      simp only [List.mem_cons, List.not_mem_nil, or_false] at hp
      rcases hp with rfl
      · exact PySem.W.codeHd_of_K X h27,
    fun s v => .of_eq rfl, fun H a ns hl _ hH hS => ⟨a, ns, rfl, hS, hl, fun p hp => by
      simp only [List.mem_cons, List.not_mem_nil, or_false] at hp
      rcases hp with rfl
      · exact ⟨#[], hH (cd27, P27) (by simp), trivial, fun _ _ z => by cases z⟩, fun _ => rfl⟩, fun base _ _ hT => ?_⟩
  rw [el]
  exact ok_law (T := {
    C_Rule := _
    g_Rule := PySem.W.mg_of X G v_Rule
    cl_Rule := ⟨pg_Rule, hd_Rule, po_Rule, sa_Rule⟩
    na_Rule_what := na_Rule_what
    na_Rule_becomes := na_Rule_becomes
    na_Rule_behind := na_Rule_behind
    na_Rule_ahead := na_Rule_ahead
    f_is_text := _
    d_is_text := _
    c_is_text := _
    F_is_text := (func_mk (st := s_is_text) l0 c0 k0 (.inl ⟨rfl, rfl⟩))
    g_is_text := PySem.W.mg_of X G a0
    b_is_text := (func_mk (st := s_is_text) l0 c0 k0 (.inl ⟨rfl, rfl⟩)).binds (ps := ["thing"]) fun _ _ _ _ _ us hl => match us, hl with | [_], _ => rfl
    f_are_signs := _
    d_are_signs := _
    c_are_signs := _
    F_are_signs := (func_mk (st := s_are_signs) l1 c1 k1 (.inl ⟨rfl, rfl⟩))
    g_are_signs := PySem.W.mg_of X G a1
    b_are_signs := (func_mk (st := s_are_signs) l1 c1 k1 (.inl ⟨rfl, rfl⟩)).binds (ps := ["thing", "least", "most"]) fun _ _ _ _ _ us hl => match us, hl with | [_, _, _], _ => rfl
    f_are_unlike_signs := _
    d_are_unlike_signs := _
    c_are_unlike_signs := _
    F_are_unlike_signs := (func_mk (st := s_are_unlike_signs) l2 c2 k2 (.inl ⟨rfl, rfl⟩))
    g_are_unlike_signs := PySem.W.mg_of X G a2
    b_are_unlike_signs := (func_mk (st := s_are_unlike_signs) l2 c2 k2 (.inl ⟨rfl, rfl⟩)).binds (ps := ["thing", "most"]) fun _ _ _ _ _ us hl => match us, hl with | [_, _], _ => rfl
    f_is_place := _
    d_is_place := _
    c_is_place := _
    F_is_place := (func_mk (st := s_is_place) l3 c3 k3 (.inl ⟨rfl, rfl⟩))
    g_is_place := PySem.W.mg_of X G a3
    b_is_place := (func_mk (st := s_is_place) l3 c3 k3 (.inl ⟨rfl, rfl⟩)).binds (ps := ["thing"]) fun _ _ _ _ _ us hl => match us, hl with | [_], _ => rfl
    f_is_edge := _
    d_is_edge := _
    c_is_edge := _
    F_is_edge := (func_mk (st := s_is_edge) l4 c4 k4 (.inl ⟨rfl, rfl⟩))
    g_is_edge := PySem.W.mg_of X G a4
    b_is_edge := (func_mk (st := s_is_edge) l4 c4 k4 (.inl ⟨rfl, rfl⟩)).binds (ps := ["thing"]) fun _ _ _ _ _ us hl => match us, hl with | [_], _ => rfl
    f_are_places := _
    d_are_places := _
    c_are_places := _
    F_are_places := (func_mk (st := s_are_places) l5 c5 k5 (.inl ⟨rfl, rfl⟩))
    g_are_places := PySem.W.mg_of X G a5
    b_are_places := (func_mk (st := s_are_places) l5 c5 k5 (.inl ⟨rfl, rfl⟩)).binds (ps := ["things"]) fun _ _ _ _ _ us hl => match us, hl with | [_], _ => rfl
    f_is_beside := _
    d_is_beside := _
    c_is_beside := _
    F_is_beside := (func_mk (st := s_is_beside) l6 c6 k6 (.inl ⟨rfl, rfl⟩))
    g_is_beside := PySem.W.mg_of X G a6
    b_is_beside := (func_mk (st := s_is_beside) l6 c6 k6 (.inl ⟨rfl, rfl⟩)).binds (ps := ["things"]) fun _ _ _ _ _ us hl => match us, hl with | [_], _ => rfl
    f_is_behind := _
    d_is_behind := _
    c_is_behind := _
    F_is_behind := (func_mk (st := s_is_behind) l7 c7 k7 (.inl ⟨rfl, rfl⟩))
    g_is_behind := PySem.W.mg_of X G a7
    b_is_behind := (func_mk (st := s_is_behind) l7 c7 k7 (.inl ⟨rfl, rfl⟩)).binds (ps := ["things"]) fun _ _ _ _ _ us hl => match us, hl with | [_], _ => rfl
    f_is_ahead := _
    d_is_ahead := _
    c_is_ahead := _
    F_is_ahead := (func_mk (st := s_is_ahead) l8 c8 k8 (.inl ⟨rfl, rfl⟩))
    g_is_ahead := PySem.W.mg_of X G a8
    b_is_ahead := (func_mk (st := s_is_ahead) l8 c8 k8 (.inl ⟨rfl, rfl⟩)).binds (ps := ["things"]) fun _ _ _ _ _ us hl => match us, hl with | [_], _ => rfl
    f_want_parts := _
    d_want_parts := _
    c_want_parts := _
    F_want_parts := (func_mk (st := s_want_parts) l9 c9 k9 (.inl ⟨rfl, rfl⟩))
    g_want_parts := PySem.W.mg_of X G a9
    b_want_parts := (func_mk (st := s_want_parts) l9 c9 k9 (.inl ⟨rfl, rfl⟩)).binds (ps := ["what", "becomes", "behind", "ahead"]) fun _ _ _ _ _ us hl => match us, hl with | [_, _, _, _], _ => rfl
    f_sorted_places := _
    d_sorted_places := _
    c_sorted_places := _
    F_sorted_places := (func_mk (st := s_sorted_places) l10 c10 k10 (.inl ⟨rfl, rfl⟩))
    g_sorted_places := PySem.W.mg_of X G a10
    b_sorted_places := (func_mk (st := s_sorted_places) l10 c10 k10 (.inl ⟨rfl, rfl⟩)).binds (ps := ["places"]) fun _ _ _ _ _ us hl => match us, hl with | [_], _ => rfl
    f_dotted := _
    d_dotted := _
    c_dotted := _
    F_dotted := (func_mk (st := s_dotted) l11 c11 k11 (.inl ⟨rfl, rfl⟩))
    g_dotted := PySem.W.mg_of X G a11
    b_dotted := (func_mk (st := s_dotted) l11 c11 k11 (.inl ⟨rfl, rfl⟩)).binds (ps := ["places"]) fun _ _ _ _ _ us hl => match us, hl with | [_], _ => rfl
    f_y_mixed := _
    d_y_mixed := _
    c_y_mixed := _
    F_y_mixed := (func_mk (st := s_y_mixed) l12 c12 k12 (.inl ⟨rfl, rfl⟩))
    g_y_mixed := PySem.W.mg_of X G a12
    b_y_mixed := (func_mk (st := s_y_mixed) l12 c12 k12 (.inl ⟨rfl, rfl⟩)).binds (ps := ["_law_cell", "_law_k"]) fun _ _ _ _ _ us hl => match us, hl with | [_, _], _ => rfl
    f_y_source := _
    d_y_source := _
    c_y_source := _
    F_y_source := (func_mk (st := s_y_source) l13 c13 k13 (.inl ⟨rfl, rfl⟩))
    g_y_source := PySem.W.mg_of X G a13
    b_y_source := (func_mk (st := s_y_source) l13 c13 k13 (.inl ⟨rfl, rfl⟩)).binds (ps := ["_law_cell"]) fun _ _ _ _ _ us hl => match us, hl with | [_], _ => rfl
    f_y_take := _
    d_y_take := _
    c_y_take := _
    F_y_take := (func_mk (st := s_y_take) l14 c14 k14 (.inl ⟨rfl, rfl⟩))
    g_y_take := PySem.W.mg_of X G a14
    b_y_take := (func_mk (st := s_y_take) l14 c14 k14 (.inl ⟨rfl, rfl⟩)).binds (ps := ["_law_source_here", "_law_many"]) fun _ _ _ _ _ us hl => match us, hl with | [_, _], _ => rfl
    f_y_unlike := _
    d_y_unlike := _
    c_y_unlike := _
    F_y_unlike := (func_mk (st := s_y_unlike) l15 c15 k15 (.inl ⟨rfl, rfl⟩))
    g_y_unlike := PySem.W.mg_of X G a15
    b_y_unlike := (func_mk (st := s_y_unlike) l15 c15 k15 (.inl ⟨rfl, rfl⟩)).binds (ps := ["_law_source_here", "_law_many"]) fun _ _ _ _ _ us hl => match us, hl with | [_, _], _ => rfl
    f_y_places := _
    d_y_places := _
    c_y_places := _
    F_y_places := (func_mk (st := s_y_places) l16 c16 k16 (.inl ⟨rfl, rfl⟩))
    g_y_places := PySem.W.mg_of X G a16
    b_y_places := (func_mk (st := s_y_places) l16 c16 k16 (.inl ⟨rfl, rfl⟩)).binds (ps := ["_law_source_here", "_law_least", "_law_most"]) fun _ _ _ _ _ us hl => match us, hl with | [_, _, _], _ => rfl
    f_y_bad_place := _
    d_y_bad_place := _
    c_y_bad_place := _
    F_y_bad_place := (func_mk (st := s_y_bad_place) l17 c17 k17 (.inl ⟨rfl, rfl⟩))
    g_y_bad_place := PySem.W.mg_of X G a17
    b_y_bad_place := (func_mk (st := s_y_bad_place) l17 c17 k17 (.inl ⟨rfl, rfl⟩)).binds (ps := ["_law_source_here"]) fun _ _ _ _ _ us hl => match us, hl with | [_], _ => rfl
    f_y_with := _
    d_y_with := _
    c_y_with := _
    F_y_with := (func_mk (st := s_y_with) l18 c18 k18 (.inl ⟨rfl, rfl⟩))
    g_y_with := PySem.W.mg_of X G a18
    b_y_with := (func_mk (st := s_y_with) l18 c18 k18 (.inl ⟨rfl, rfl⟩)).binds (ps := ["_law_places_here", "_law_at", "_law_place"]) fun _ _ _ _ _ us hl => match us, hl with | [_, _, _], _ => rfl
    f_y_bad_what := _
    d_y_bad_what := _
    c_y_bad_what := _
    F_y_bad_what := (func_mk (st := s_y_bad_what) l19 c19 k19 (.inl ⟨rfl, rfl⟩))
    g_y_bad_what := PySem.W.mg_of X G a19
    b_y_bad_what := (func_mk (st := s_y_bad_what) l19 c19 k19 (.inl ⟨rfl, rfl⟩)).binds (ps := ["_law_source_here"]) fun _ _ _ _ _ us hl => match us, hl with | [_], _ => rfl
    f_y_bad_put := _
    d_y_bad_put := _
    c_y_bad_put := _
    F_y_bad_put := (func_mk (st := s_y_bad_put) l20 c20 k20 (.inl ⟨rfl, rfl⟩))
    g_y_bad_put := PySem.W.mg_of X G a20
    b_y_bad_put := (func_mk (st := s_y_bad_put) l20 c20 k20 (.inl ⟨rfl, rfl⟩)).binds (ps := ["_law_source_here"]) fun _ _ _ _ _ us hl => match us, hl with | [_], _ => rfl
    f_y_bad_beside := _
    d_y_bad_beside := _
    c_y_bad_beside := _
    F_y_bad_beside := (func_mk (st := s_y_bad_beside) l21 c21 k21 (.inl ⟨rfl, rfl⟩))
    g_y_bad_beside := PySem.W.mg_of X G a21
    b_y_bad_beside := (func_mk (st := s_y_bad_beside) l21 c21 k21 (.inl ⟨rfl, rfl⟩)).binds (ps := ["_law_source_here", "_law_edge_first"]) fun _ _ _ _ _ us hl => match us, hl with | [_, _], _ => rfl
    f_y_refused := _
    d_y_refused := _
    c_y_refused := _
    F_y_refused := (func_mk (st := s_y_refused) l22 c22 k22 (.inl ⟨rfl, rfl⟩))
    g_y_refused := PySem.W.mg_of X G a22
    b_y_refused := (func_mk (st := s_y_refused) l22 c22 k22 (.inl ⟨rfl, rfl⟩)).binds (ps := ["_law_ask"]) fun _ _ _ _ _ us hl => match us, hl with | [_], _ => rfl
    f_Rule_init := _
    d_Rule_init := _
    c_Rule_init := _
    F_Rule_init := (func_mk (st := s_Rule_init) l23 c23 k23 (Ms.dfl_two (v1 := .non) (v2 := .non) t23 rfl rfl))
    M_Rule := ⟨mk_Rule, a23, i23, kc_Rule⟩
    b3_Rule_init := (func_mk (st := s_Rule_init) l23 c23 k23 (Ms.dfl_two (v1 := .non) (v2 := .non) t23 rfl rfl)).toD.binds1 (ps := ["self", "what", "becomes", "behind", "ahead"]) 3 0 (by simp) rfl fun _ _ _ _ _ _ _ us its h1 h2 => match us, h1, its, h2 with | [_, _, _], _, [_, _], _ => ⟨_, rfl, rfl⟩
    b4_Rule_init := (func_mk (st := s_Rule_init) l23 c23 k23 (Ms.dfl_two (v1 := .non) (v2 := .non) t23 rfl rfl)).toD.binds1 (ps := ["self", "what", "becomes", "behind", "ahead"]) 4 1 (by simp) rfl fun _ _ _ _ _ _ _ us its h1 h2 => match us, h1, its, h2 with | [_, _, _, _], _, [_, _], _ => ⟨_, rfl, rfl⟩
    b5_Rule_init := (func_mk (st := s_Rule_init) l23 c23 k23 (Ms.dfl_two (v1 := .non) (v2 := .non) t23 rfl rfl)).toD.binds1 (ps := ["self", "what", "becomes", "behind", "ahead"]) 5 2 (by simp) rfl fun _ _ _ _ _ _ _ us its h1 h2 => match us, h1, its, h2 with | [_, _, _, _, _], _, [_, _], _ => ⟨_, rfl, rfl⟩
    bk_Rule_init := (func_mk (st := s_Rule_init) l23 c23 k23 (Ms.dfl_two (v1 := .non) (v2 := .non) t23 rfl rfl)).toD.kbindsD 1 ["ahead", "what", "behind", "becomes"] Ms.perm4 (by simp) (fun r1 r2 r3 => Ms.perm4_rel r1 r2 r3) fun _ _ _ _ _ _ _ us its ws h1 h2 h3 => match us, h1, its, h2, ws, h3 with | [_], _, [_, _], _, [_, _, _, _], _ => ⟨_, rfl, rfl⟩
    f_Rule_put := _
    d_Rule_put := _
    c_Rule_put := _
    F_Rule_put := (func_mk (st := s_Rule_put) l24 c24 k24 (.inl ⟨rfl, rfl⟩))
    m_Rule_put := ⟨a24, i24, k24⟩
    b_Rule_put := (func_mk (st := s_Rule_put) l24 c24 k24 (.inl ⟨rfl, rfl⟩)).binds (ps := ["self"]) fun _ _ _ _ _ us hl => match us, hl with | [_], _ => rfl
    f_Rule_eq := _
    d_Rule_eq := _
    c_Rule_eq := _
    F_Rule_eq := (func_mk (st := s_Rule_eq) l25 c25 k25 (.inl ⟨rfl, rfl⟩))
    m_Rule_eq := ⟨a25, i25, k25⟩
    b_Rule_eq := (func_mk (st := s_Rule_eq) l25 c25 k25 (.inl ⟨rfl, rfl⟩)).binds (ps := ["self", "other"]) fun _ _ _ _ _ us hl => match us, hl with | [_, _], _ => rfl
    f_Rule_str := _
    d_Rule_str := _
    c_Rule_str := _
    F_Rule_str := (func_mk (st := s_Rule_str) l26 c26 k26 (.inl ⟨rfl, rfl⟩))
    m_Rule_str := ⟨a26, i26, k26⟩
    b_Rule_str := (func_mk (st := s_Rule_str) l26 c26 k26 (.inl ⟨rfl, rfl⟩)).binds (ps := ["self"]) fun _ _ _ _ _ us hl => match us, hl with | [_], _ => rfl
    f_y_law := _
    d_y_law := _
    c_y_law := _
    F_y_law := (func_mk (st := s_y_law) l27 c27 k27 (.inl ⟨rfl, rfl⟩))
    g_y_law := PySem.W.mg_of X G a27
    b_y_law := (func_mk (st := s_y_law) l27 c27 k27 (.inl ⟨rfl, rfl⟩)).binds (ps := ["_law_script"]) fun _ _ _ _ _ us hl => match us, hl with | [_], _ => rfl
    P_y_law := P27
    T_y_law := hT (cd27, P27) (by simp)
    t_SIGNS := _
    v_SIGNS := PySem.W.mg_of X G v_SIGNS
    t_EDGE := _
    v_EDGE := PySem.W.mg_of X G v_EDGE
    t_MOST_TAKEN := _
    v_MOST_TAKEN := PySem.W.mg_of X G v_MOST_TAKEN
    t_MOST_PUT := _
    v_MOST_PUT := PySem.W.mg_of X G v_MOST_PUT
    t_MOST_BESIDE := _
    v_MOST_BESIDE := PySem.W.mg_of X G v_MOST_BESIDE
    C_NoRule := _
    I_NoRule := _
    X_NoRule := x_NoRule
    C_SeamError := _
    v_SeamError := PySem.W.mg_of X G v_SeamError
    m_NoRule_SeamError := m_NoRule_SeamError
    e_NoRule := e_NoRule
    n_NoRule_NoRule := n_NoRule_NoRule
    z_ValueError := PySem.W.mg_none_of X G z_ValueError
    z_all := PySem.W.mg_none_of X G z_all
    z_int := PySem.W.mg_none_of X G z_int
    z_isinstance := PySem.W.mg_none_of X G z_isinstance
    z_len := PySem.W.mg_none_of X G z_len
    z_list := PySem.W.mg_none_of X G z_list
    z_range := PySem.W.mg_none_of X G z_range
    z_set := PySem.W.mg_none_of X G z_set
    z_sorted := PySem.W.mg_none_of X G z_sorted
    z_str := PySem.W.mg_none_of X G z_str })
end M
open PySem PySem.W PyProof.Rows
set_option maxRecDepth 100000 in
set_option maxHeartbeats 0 in
theorem PySem.Challenge.cw_markseam_k22_what_is_no_rule_holds : PySem.Challenge.rw_markseam_k22_what_is_no_rule.Holds := by
  w_on; o_law; k_head; (case hw => w_witness2)
  k_fill
  refine Ms.walk_tabs (l := PySem.Challenge.rw_markseam_k22_what_is_no_rule) (n := 63) (k := M.lvl) (x := "_law_script") (CX := fun _ => M.LCX) rfl (by decide) rfl ⟨rfl, by decide, by decide⟩ (fun w h Y => by first | exact PySem.W.kIn_of Y | exact PySem.W.km_in_of Y) ?F (fun _ _ _ _ _ h => M.lcx0 h)
  case F =>
    intro w mg fa h KX G hmg own
    refine' M.all_mk rfl (by decide +kernel) KX G hmg own ?v_Rule ?pg_Rule ?hd_Rule ?po_Rule ?sa_Rule ?mk_Rule ?kc_Rule ?na_Rule_what ?na_Rule_becomes ?na_Rule_behind ?na_Rule_ahead ?a0 ?l0 ?c0 ?k0 ?a1 ?l1 ?c1 ?k1 ?a2 ?l2 ?c2 ?k2 ?a3 ?l3 ?c3 ?k3 ?a4 ?l4 ?c4 ?k4 ?a5 ?l5 ?c5 ?k5 ?a6 ?l6 ?c6 ?k6 ?a7 ?l7 ?c7 ?k7 ?a8 ?l8 ?c8 ?k8 ?a9 ?l9 ?c9 ?k9 ?a10 ?l10 ?c10 ?k10 ?a11 ?l11 ?c11 ?k11 ?a12 ?l12 ?c12 ?k12 ?a13 ?l13 ?c13 ?k13 ?a14 ?l14 ?c14 ?k14 ?a15 ?l15 ?c15 ?k15 ?a16 ?l16 ?c16 ?k16 ?a17 ?l17 ?c17 ?k17 ?a18 ?l18 ?c18 ?k18 ?a19 ?l19 ?c19 ?k19 ?a20 ?l20 ?c20 ?k20 ?a21 ?l21 ?c21 ?k21 ?a22 ?l22 ?c22 ?k22 ?a23 ?i23 ?l23 ?c23 ?k23 ?t23 ?a24 ?i24 ?l24 ?c24 ?k24 ?a25 ?i25 ?l25 ?c25 ?k25 ?a26 ?i26 ?l26 ?c26 ?k26 ?a27 ?l27 ?c27 ?k27 ?q27 ?r27 ?h27 ?n27 ?v_SIGNS ?v_EDGE ?v_MOST_TAKEN ?v_MOST_PUT ?v_MOST_BESIDE ?x_NoRule ?v_SeamError ?m_NoRule_SeamError ?e_NoRule ?n_NoRule_NoRule ?z_ValueError ?z_all ?z_int ?z_isinstance ?z_len ?z_list ?z_range ?z_set ?z_sorted ?z_str
    (case v_Rule => k_is)
    (case pg_Rule => k_is)
    (case hd_Rule => k_is)
    (case po_Rule => k_is)
    (case sa_Rule => k_is)
    (case mk_Rule => k_is)
    (case kc_Rule => k_is)
    (case na_Rule_what => k_is)
    (case na_Rule_becomes => k_is)
    (case na_Rule_behind => k_is)
    (case na_Rule_ahead => k_is)
    (case a0 => k_is)
    (case l0 => k_is)
    (case c0 => k_is)
    (case k0 => k_is)
    (case a1 => k_is)
    (case l1 => k_is)
    (case c1 => k_is)
    (case k1 => k_is)
    (case a2 => k_is)
    (case l2 => k_is)
    (case c2 => k_is)
    (case k2 => k_is)
    (case a3 => k_is)
    (case l3 => k_is)
    (case c3 => k_is)
    (case k3 => k_is)
    (case a4 => k_is)
    (case l4 => k_is)
    (case c4 => k_is)
    (case k4 => k_is)
    (case a5 => k_is)
    (case l5 => k_is)
    (case c5 => k_is)
    (case k5 => k_is)
    (case a6 => k_is)
    (case l6 => k_is)
    (case c6 => k_is)
    (case k6 => k_is)
    (case a7 => k_is)
    (case l7 => k_is)
    (case c7 => k_is)
    (case k7 => k_is)
    (case a8 => k_is)
    (case l8 => k_is)
    (case c8 => k_is)
    (case k8 => k_is)
    (case a9 => k_is)
    (case l9 => k_is)
    (case c9 => k_is)
    (case k9 => k_is)
    (case a10 => k_is)
    (case l10 => k_is)
    (case c10 => k_is)
    (case k10 => k_is)
    (case a11 => k_is)
    (case l11 => k_is)
    (case c11 => k_is)
    (case k11 => k_is)
    (case a12 => k_is)
    (case l12 => k_is)
    (case c12 => k_is)
    (case k12 => k_is)
    (case a13 => k_is)
    (case l13 => k_is)
    (case c13 => k_is)
    (case k13 => k_is)
    (case a14 => k_is)
    (case l14 => k_is)
    (case c14 => k_is)
    (case k14 => k_is)
    (case a15 => k_is)
    (case l15 => k_is)
    (case c15 => k_is)
    (case k15 => k_is)
    (case a16 => k_is)
    (case l16 => k_is)
    (case c16 => k_is)
    (case k16 => k_is)
    (case a17 => k_is)
    (case l17 => k_is)
    (case c17 => k_is)
    (case k17 => k_is)
    (case a18 => k_is)
    (case l18 => k_is)
    (case c18 => k_is)
    (case k18 => k_is)
    (case a19 => k_is)
    (case l19 => k_is)
    (case c19 => k_is)
    (case k19 => k_is)
    (case a20 => k_is)
    (case l20 => k_is)
    (case c20 => k_is)
    (case k20 => k_is)
    (case a21 => k_is)
    (case l21 => k_is)
    (case c21 => k_is)
    (case k21 => k_is)
    (case a22 => k_is)
    (case l22 => k_is)
    (case c22 => k_is)
    (case k22 => k_is)
    (case a23 => k_is)
    (case i23 => k_is)
    (case l23 => k_is)
    (case c23 => k_is)
    (case k23 => k_is)
    (case t23 => k_is)
    (case a24 => k_is)
    (case i24 => k_is)
    (case l24 => k_is)
    (case c24 => k_is)
    (case k24 => k_is)
    (case a25 => k_is)
    (case i25 => k_is)
    (case l25 => k_is)
    (case c25 => k_is)
    (case k25 => k_is)
    (case a26 => k_is)
    (case i26 => k_is)
    (case l26 => k_is)
    (case c26 => k_is)
    (case k26 => k_is)
    (case a27 => k_is)
    (case l27 => k_is)
    (case c27 => k_is)
    (case k27 => k_is)
    (case q27 => k_is)
    (case r27 => first | rfl | k_is)
    (case h27 => first | rfl | k_is)
    (case n27 => first | rfl | k_is)
    (case v_SIGNS => k_is)
    (case v_EDGE => k_is)
    (case v_MOST_TAKEN => k_is)
    (case v_MOST_PUT => k_is)
    (case v_MOST_BESIDE => k_is)
    (case x_NoRule => 
      refine' PySem.Sx.Txt.of (nm := "NoRule") (fld := "what") KX G ?gC ?cls1 ?cls2 ?cls3 ?sa ?ga ?gg ?noN ?iC ?tC ?kC ?exC ?vaC ?meC ?tyC ?isC ?hdC ?opq ?sup ?l1 ?l2 ?l3 ?l4 ?l5 ?l6 ?top ?fne ?fks ?fkc ?fdb ?te ?bnd ?ev
      (case gC => k_is)
      (case cls1 => k_is)
      (case cls2 => first | rfl | decide +kernel)
      (case cls3 => first | rfl | with_unfolding_all rfl | decide +kernel)
      (case sa => k_is)
      (case ga => k_is)
      (case gg => k_is)
      (case noN => k_is)
      (case iC => k_is)
      (case tC => k_is)
      (case kC => k_is)
      (case exC => k_is)
      (case vaC => k_is)
      (case meC => k_is)
      (case tyC => k_is)
      (case isC => k_is)
      (case hdC => k_is)
      (case opq => k_is)
      (case sup => k_is)
      (case l1 => k_is)
      (case l2 => k_is)
      (case l3 => k_is)
      (case l4 => first | rfl | k_is)
      (case l5 => first | rfl | decide +kernel)
      (case l6 => k_is)
      (case top => first | rfl | decide +kernel)
      (case fne => first | rfl | decide +kernel)
      (case fks => first | rfl | decide +kernel)
      (case fkc => first | rfl | decide +kernel)
      (case fdb => first | rfl | decide +kernel)
      (case te => first | k_is | rfl | decide +kernel)
      (case bnd => exact fun s x v => .of_eq rfl)
      (case ev => exact ⟨_, fun L => rfl⟩))
    (case v_SeamError => k_is)
    (case m_NoRule_SeamError => first | k_is | rfl | decide +kernel)
    (case e_NoRule => constructor <;> k_is)
    (case n_NoRule_NoRule => first | k_is | rfl | decide +kernel)
    (case z_ValueError => k_is)
    (case z_all => k_is)
    (case z_int => k_is)
    (case z_isinstance => k_is)
    (case z_len => k_is)
    (case z_list => k_is)
    (case z_range => k_is)
    (case z_set => k_is)
    (case z_sorted => k_is)
    (case z_str => k_is)
#print axioms PySem.Challenge.cw_markseam_k22_what_is_no_rule_holds

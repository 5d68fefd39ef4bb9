/-
  Plain mathematics of pages: numbers as four bytes, a page's bytes, what a page's bytes are of.
-/
import Derived.Test.YtljpkngbhdplbaaDoorSumMath
namespace Go.Proofs.YtljpkngbhdplbaaDoor

/-- A number's four bytes. -/
def four (n : Int) : List Int := [n % 256, n / 256 % 256, n / 65536 % 256, n / 16777216 % 256]
/-- The number of four bytes. -/
def back4 (a b c d : Int) : Int := a + 256 * b + 65536 * c + 16777216 * d
theorem four_len (n : Int) : (four n).length = 4 := rfl
theorem byt_four (n : Int) : Byt (four n) := by
  intro x hx
  simp only [four, List.mem_cons, List.not_mem_nil, or_false] at hx
  rcases hx with rfl | rfl | rfl | rfl <;> omega
theorem back_four {n : Int} (h0 : 0 ≤ n) (h1 : n ≤ 4294967295) : back4 (n % 256) (n / 256 % 256) (n / 65536 % 256) (n / 16777216 % 256) = n := by unfold back4; omega
theorem four_back {a b c d : Int} (a0 : 0 ≤ a) (a1 : a ≤ 255) (b0 : 0 ≤ b) (b1 : b ≤ 255) (c0 : 0 ≤ c) (c1 : c ≤ 255) (d0 : 0 ≤ d) (d1 : d ≤ 255) : four (back4 a b c d) = [a, b, c, d] := by
  unfold four back4
  simp only [List.cons.injEq, and_true]
  omega
theorem back4_bd {a b c d : Int} (a0 : 0 ≤ a) (a1 : a ≤ 255) (b0 : 0 ≤ b) (b1 : b ≤ 255) (c0 : 0 ≤ c) (c1 : c ≤ 255) (d0 : 0 ≤ d) (d1 : d ≤ 255) : 0 ≤ back4 a b c d ∧ back4 a b c d ≤ 4294967295 := by unfold back4; omega

/-- The 13 bytes ahead of the sum. -/
def headB (k s i q : Int) : List Int := k :: (four s ++ four i ++ four q)
/-- A page's bytes. -/
def pageB (k s i q : Int) (blk : List Int) : List Int := headB k s i q ++ (four (sumN (headB k s i q ++ blk)) ++ blk)
theorem headB_len (k s i q : Int) : (headB k s i q).length = 13 := rfl
theorem pageB_len (k s i q : Int) (blk : List Int) : (pageB k s i q blk).length = blk.length + 17 := by
  simp [pageB, headB_len, four_len]; omega
theorem byt_head {k : Int} (s i q : Int) (h0 : 0 ≤ k) (h1 : k ≤ 255) : Byt (headB k s i q) := by
  intro x hx
  unfold headB at hx
  rcases List.mem_cons.1 hx with rfl | hx
  · exact ⟨h0, h1⟩
  · exact ((byt_four s).app (byt_four i)).app (byt_four q) x hx
theorem byt_page {k : Int} (s i q : Int) {blk : List Int} (h0 : 0 ≤ k) (h1 : k ≤ 255) (hb : Byt blk) : Byt (pageB k s i q blk) := (byt_head s i q h0 h1).app ((byt_four _).app hb)

/-- The number at o; the sum that the other bytes have. -/
def bk (ps : List Int) (o : Nat) : Int := back4 (ps.getD o 0) (ps.getD (o + 1) 0) (ps.getD (o + 2) 0) (ps.getD (o + 3) 0)
def tot (ps : List Int) : Int := sumN (ps.take 13 ++ ps.drop 17)
theorem page_kind (k s i q : Int) (blk : List Int) : (pageB k s i q blk).getD 0 0 = k := rfl
theorem page_bk1 {k s i q : Int} {blk : List Int} (h0 : 0 ≤ s) (h1 : s ≤ 4294967295) : bk (pageB k s i q blk) 1 = s := back_four h0 h1
theorem page_bk5 {k s i q : Int} {blk : List Int} (h0 : 0 ≤ i) (h1 : i ≤ 4294967295) : bk (pageB k s i q blk) 5 = i := back_four h0 h1
theorem page_bk9 {k s i q : Int} {blk : List Int} (h0 : 0 ≤ q) (h1 : q ≤ 4294967295) : bk (pageB k s i q blk) 9 = q := back_four h0 h1
theorem page_bk13 {k s i q : Int} {blk : List Int} : bk (pageB k s i q blk) 13 = sumN (headB k s i q ++ blk) := by
  have := sumN_bd (headB k s i q ++ blk)
  exact back_four this.1 (by omega)
theorem page_drop (k s i q : Int) (blk : List Int) : (pageB k s i q blk).drop 17 = blk := rfl
theorem page_take (k s i q : Int) (blk : List Int) : (pageB k s i q blk).take 13 = headB k s i q := rfl
theorem page_tot {k s i q : Int} {blk : List Int} : tot (pageB k s i q blk) = sumN (headB k s i q ++ blk) := rfl

/-- Seventeen bytes and the block. -/
theorem cut17 (ps : List Int) (h : ps.length = 33) : ∃ p0 p1 p2 p3 p4 p5 p6 p7 p8 p9 p10 p11 p12 p13 p14 p15 p16 : Int, ∃ blk : List Int,
    ps = p0 :: p1 :: p2 :: p3 :: p4 :: p5 :: p6 :: p7 :: p8 :: p9 :: p10 :: p11 :: p12 :: p13 :: p14 :: p15 :: p16 :: blk ∧ blk.length = 16 := by
  have hd : ∀ (n : Nat) (l : List Int), l.length = n + 1 → ∃ a m, l = a :: m ∧ m.length = n := by
    intro n l hl
    cases l with
    | nil => simp at hl
    | cons a m => exact ⟨a, m, rfl, by simpa using hl⟩
  obtain ⟨p0, r0, rfl, h0⟩ := hd 32 _ h
  obtain ⟨p1, r1, rfl, h1⟩ := hd 31 _ h0
  obtain ⟨p2, r2, rfl, h2⟩ := hd 30 _ h1
  obtain ⟨p3, r3, rfl, h3⟩ := hd 29 _ h2
  obtain ⟨p4, r4, rfl, h4⟩ := hd 28 _ h3
  obtain ⟨p5, r5, rfl, h5⟩ := hd 27 _ h4
  obtain ⟨p6, r6, rfl, h6⟩ := hd 26 _ h5
  obtain ⟨p7, r7, rfl, h7⟩ := hd 25 _ h6
  obtain ⟨p8, r8, rfl, h8⟩ := hd 24 _ h7
  obtain ⟨p9, r9, rfl, h9⟩ := hd 23 _ h8
  obtain ⟨p10, r10, rfl, h10⟩ := hd 22 _ h9
  obtain ⟨p11, r11, rfl, h11⟩ := hd 21 _ h10
  obtain ⟨p12, r12, rfl, h12⟩ := hd 20 _ h11
  obtain ⟨p13, r13, rfl, h13⟩ := hd 19 _ h12
  obtain ⟨p14, r14, rfl, h14⟩ := hd 18 _ h13
  obtain ⟨p15, r15, rfl, h15⟩ := hd 17 _ h14
  obtain ⟨p16, r16, rfl, h16⟩ := hd 16 _ h15
  exact ⟨p0, p1, p2, p3, p4, p5, p6, p7, p8, p9, p10, p11, p12, p13, p14, p15, p16, r16, rfl, h16⟩

/-- Bytes come back from what they are of. -/
theorem page_back {ps : List Int} (hl : ps.length = 33) (hb : Byt ps) (hs : bk ps 13 = tot ps) : pageB (ps.getD 0 0) (bk ps 1) (bk ps 5) (bk ps 9) (ps.drop 17) = ps := by
  obtain ⟨p0, p1, p2, p3, p4, p5, p6, p7, p8, p9, p10, p11, p12, p13, p14, p15, p16, blk, rfl, hk⟩ := cut17 ps hl
  have g : ∀ x ∈ [p0, p1, p2, p3, p4, p5, p6, p7, p8, p9, p10, p11, p12, p13, p14, p15, p16], 0 ≤ x ∧ x ≤ 255 := fun x hx => hb x (by
    simp only [List.mem_cons, List.not_mem_nil, or_false] at hx ⊢
    rcases hx with h | h | h | h | h | h | h | h | h | h | h | h | h | h | h | h | h <;> simp [h])
  simp only [List.mem_cons, List.not_mem_nil, or_false, forall_eq_or_imp, forall_eq] at g
  obtain ⟨g0, g1, g2, g3, g4, g5, g6, g7, g8, g9, g10, g11, g12, g13, g14, g15, g16⟩ := g
  have e1 := four_back g1.1 g1.2 g2.1 g2.2 g3.1 g3.2 g4.1 g4.2
  have e2 := four_back g5.1 g5.2 g6.1 g6.2 g7.1 g7.2 g8.1 g8.2
  have e3 := four_back g9.1 g9.2 g10.1 g10.2 g11.1 g11.2 g12.1 g12.2
  have e4 := four_back g13.1 g13.2 g14.1 g14.2 g15.1 g15.2 g16.1 g16.2
  have hs' : back4 p13 p14 p15 p16 = sumN ([p0, p1, p2, p3, p4, p5, p6, p7, p8, p9, p10, p11, p12] ++ blk) := hs
  show pageB p0 (back4 p1 p2 p3 p4) (back4 p5 p6 p7 p8) (back4 p9 p10 p11 p12) blk = _
  unfold pageB headB
  rw [e1, e2, e3]
  simp only [List.cons_append, List.nil_append] at hs' ⊢
  rw [← hs', e4]
  rfl

/-- Of bytes of which one is another one the sum is another one. -/
theorem page_changed {k s i q c : Int} {blk : List Int} {t : Nat} (hk0 : 0 ≤ k) (hk1 : k ≤ 255) (hb : Byt blk) (hl : blk.length = 16) (ht : t < (pageB k s i q blk).length) (c0 : 0 ≤ c) (c1 : c ≤ 255) (hc : c ≠ (pageB k s i q blk)[t]) :
    bk ((pageB k s i q blk).set t c) 13 ≠ tot ((pageB k s i q blk).set t c) := by
  have hP : Byt (pageB k s i q blk) := byt_page s i q hk0 hk1 hb
  have hs : bk (pageB k s i q blk) 13 = tot (pageB k s i q blk) := page_bk13.trans page_tot.symm
  have hlen : (pageB k s i q blk).length = 33 := by rw [pageB_len]; omega
  generalize pageB k s i q blk = ps at *
  rcases Nat.lt_or_ge t 13 with h | h
  · have e1 : bk (ps.set t c) 13 = bk ps 13 := by
      unfold bk
      simp only [List.getD_eq_getElem?_getD, List.getElem?_set]
      rw [if_neg (by omega), if_neg (by omega), if_neg (by omega), if_neg (by omega)]
    have e2 : (ps.set t c).take 13 ++ (ps.set t c).drop 17 = (ps.take 13 ++ ps.drop 17).set t c := by
      rw [List.take_set, List.drop_set_of_lt (by omega), List.set_append_left _ _ (by simp; omega)]
    have hbk := changed_iff (b := ps.take 13 ++ ps.drop 17) (k := t) (c := c) ((hP.take 13).app (fun x hx => hP x (List.mem_of_mem_drop hx))) (by simp; omega) c0 c1
    unfold tot
    rw [e1, e2, hs]
    unfold tot
    intro he
    have := hbk.1 he.symm
    rw [List.getElem_append_left (by simp; omega), List.getElem_take] at this
    exact hc this
  · rcases Nat.lt_or_ge t 17 with h2 | h2
    · have e2 : (ps.set t c).take 13 ++ (ps.set t c).drop 17 = ps.take 13 ++ ps.drop 17 := by
        rw [List.take_set_of_le (by omega), List.drop_set_of_lt (by omega)]
      unfold tot
      rw [e2]
      intro he
      have he2 : bk (ps.set t c) 13 = bk ps 13 := he.trans hs.symm
      have G : ∀ j, (h : j < ps.length) → 0 ≤ ps[j] ∧ ps[j] ≤ 255 := fun j h => hP.get j h
      have q0 := G 13 (by omega)
      have q1 := G 14 (by omega)
      have q2 := G 15 (by omega)
      have q3 := G 16 (by omega)
      unfold bk back4 at he2
      simp only [List.getD_eq_getElem?_getD, List.getElem?_set] at he2
      rw [List.getElem?_eq_getElem (show 13 < ps.length by omega), List.getElem?_eq_getElem (show 13 + 1 < ps.length by omega), List.getElem?_eq_getElem (show 13 + 2 < ps.length by omega), List.getElem?_eq_getElem (show 13 + 3 < ps.length by omega)] at he2
      have ht4 : t = 13 ∨ t = 14 ∨ t = 15 ∨ t = 16 := by omega
      rcases ht4 with rfl | rfl | rfl | rfl
      · simp [hlen] at he2
        omega
      · simp [hlen] at he2
        omega
      · simp [hlen] at he2
        omega
      · simp [hlen] at he2
        omega
    · have e1 : bk (ps.set t c) 13 = bk ps 13 := by
        unfold bk
        simp only [List.getD_eq_getElem?_getD, List.getElem?_set]
        rw [if_neg (by omega), if_neg (by omega), if_neg (by omega), if_neg (by omega)]
      have e2 : (ps.set t c).take 13 ++ (ps.set t c).drop 17 = (ps.take 13 ++ ps.drop 17).set (t - 4) c := by
        rw [List.take_set_of_le (by omega), List.drop_set, if_neg (by omega), List.set_append_right _ _ (by simp; omega)]
        congr 2
        simp
        omega
      have hbk := changed_iff (b := ps.take 13 ++ ps.drop 17) (k := t - 4) (c := c) ((hP.take 13).app (fun x hx => hP x (List.mem_of_mem_drop hx))) (by simp; omega) c0 c1
      unfold tot
      rw [e1, e2, hs]
      unfold tot
      intro he
      have := hbk.1 he.symm
      rw [List.getElem_append_right (by simp; omega), List.getElem_drop] at this
      apply hc
      rw [this]
      congr 1
      simp
      omega

/-- A row laid over another one from o on. -/
def putB {α : Type} (xs : List α) (o : Nat) (ys : List α) : List α := xs.take o ++ (ys ++ xs.drop (o + ys.length))
theorem putB_nil {α : Type} (xs : List α) (o : Nat) : putB xs o [] = xs := by simp [putB]
theorem putB_len {α : Type} {xs ys : List α} {o : Nat} (h : o + ys.length ≤ xs.length) : (putB xs o ys).length = xs.length := by simp [putB]; omega
theorem putB_snoc {α : Type} {xs ys : List α} {o : Nat} (y : α) (h : o + ys.length < xs.length) : (putB xs o ys).set (o + ys.length) y = putB xs o (ys ++ [y]) := by
  unfold putB
  rw [List.set_append_right _ _ (by simp; omega)]
  have e : o + ys.length - (xs.take o).length = ys.length := by simp; omega
  rw [e, List.set_append_right _ _ (by omega), Nat.sub_self]
  rw [show xs.drop (o + ys.length) = xs[o + ys.length] :: xs.drop (o + ys.length + 1) from List.drop_eq_getElem_cons h]
  simp [Nat.add_assoc]
end Go.Proofs.YtljpkngbhdplbaaDoor

/-
  Plain mathematics of sums of bytes.
  Plain mathematics of pages: numbers as four bytes, a page's bytes, what a page's bytes are of.
  Bytes in memory: the word Rd (a slice that reads as bytes); the document's Same. For whatever program that has bytes, and platelayerref03.Same.
  A region that draws its order, whose operations read and whose callees read or make memory: one walk in the order of the text, in every world that has a property G (which new memory does not end). For whatever program.
-/
import Derived.Test.YthmpimjmajoimaaGreatDoorChecked
import Derived.WalkKit
import Derived.WalkLawsBesides
import Derived.Below
import Derived.Outline
import Derived.Lib.Hide
import Derived.Deep.LoopGhost
import Derived.Laws.BitsAllLaws
import Derived.Laws.Shifts
import Derived.Deep.QuietTactic
import Derived.BigQuiet
namespace Go.Proofs.YthmpimjmajoimaaGreatDoor

/-- Bytes. -/
def Byt (xs : List Int) : Prop := ∀ x ∈ xs, 0 ≤ x ∧ x ≤ 255
/-- The sum of a row. -/
def sS : List Int → Int
  | [] => 0
  | c :: r => c + sS r
/-- The sum of the sums of all beginnings. -/
def sT : List Int → Int
  | [] => 0
  | c :: r => c + (r.length : Int) * c + sT r

theorem Byt.nil : Byt [] := fun x h => by cases h
theorem Byt.app {a b : List Int} (ha : Byt a) (hb : Byt b) : Byt (a ++ b) := fun x h => by
  rcases List.mem_append.1 h with h | h
  · exact ha x h
  · exact hb x h
theorem Byt.take {a : List Int} (h : Byt a) (k : Nat) : Byt (a.take k) := fun x hx => h x (List.mem_of_mem_take hx)
theorem Byt.drop {a : List Int} (h : Byt a) (k : Nat) : Byt (a.drop k) := fun x hx => h x (List.mem_of_mem_drop hx)
theorem Byt.get {a : List Int} (h : Byt a) (k : Nat) (hk : k < a.length) : 0 ≤ a[k] ∧ a[k] ≤ 255 := h _ (List.getElem_mem hk)

theorem sS_app (a b : List Int) : sS (a ++ b) = sS a + sS b := by
  induction a with
  | nil => simp [sS]
  | cons c r ih => simp only [List.cons_append, sS, ih]; omega
theorem sT_app (a b : List Int) : sT (a ++ b) = sT a + (b.length : Int) * sS a + sT b := by
  induction a with
  | nil => simp [sS, sT]
  | cons c r ih =>
    simp only [List.cons_append, sT, sS, ih, List.length_append, Int.natCast_add, Int.add_mul, Int.mul_add]
    omega
theorem sS_one (c : Int) : sS [c] = c := by simp [sS]
theorem sT_one (c : Int) : sT [c] = c := by simp [sT]
theorem sS_bd {a : List Int} (h : Byt a) : 0 ≤ sS a ∧ sS a ≤ 255 * a.length := by
  induction a with
  | nil => simp [sS]
  | cons c r ih =>
    have h1 := ih (fun x hx => h x (List.mem_cons_of_mem _ hx))
    have h2 := h c (by simp)
    simp only [sS, List.length_cons]
    omega
theorem tri (n : Nat) : ∃ t : Nat, 2 * t = n * (n + 1) := by
  induction n with
  | zero => exact ⟨0, by simp⟩
  | succ n ih =>
    obtain ⟨t, ht⟩ := ih
    refine ⟨t + (n + 1), ?_⟩
    have : (n + 1) * (n + 1 + 1) = n * (n + 1) + 2 * (n + 1) := by
      rw [Nat.mul_add (n + 1) (n + 1) 1, Nat.add_mul n 1 (n + 1)]
      omega
    omega
theorem sT_bd {a : List Int} (h : Byt a) : 0 ≤ sT a ∧ 2 * sT a ≤ 255 * ((a.length : Int) * ((a.length : Int) + 1)) := by
  induction a with
  | nil => simp [sT]
  | cons c r ih =>
    have h1 := ih (fun x hx => h x (List.mem_cons_of_mem _ hx))
    obtain ⟨h2, h3⟩ := h c (by simp)
    have h4 : (r.length : Int) * c ≤ (r.length : Int) * 255 := Int.mul_le_mul_of_nonneg_left h3 (by omega)
    have h5 : 0 ≤ (r.length : Int) * c := Int.mul_nonneg (by omega) h2
    simp only [sT, List.length_cons, Int.natCast_add, Int.add_mul, Int.mul_add] at *
    omega
/-- What a row of n bytes adds at most. -/
theorem sT_most {a : List Int} {n : Nat} (h : Byt a) (hn : a.length ≤ n) : 2 * sT a ≤ 255 * ((n : Int) * ((n : Int) + 1)) := by
  have h1 := (sT_bd h).2
  have h2 : (a.length : Int) * ((a.length : Int) + 1) ≤ (n : Int) * ((n : Int) + 1) := Int.mul_le_mul (by omega) (by omega) (by omega) (by omega)
  omega

/-- Both numbers behind more bytes, ahead of the remainder. -/
def rL (l : Int) (xs : List Int) : Int := l + sS xs
def rH (l h : Int) (xs : List Int) : Int := h + (xs.length : Int) * l + sT xs
theorem rL_nil (l : Int) : rL l [] = l := by simp [rL, sS]
theorem rH_nil (l h : Int) : rH l h [] = h := by simp [rH, sT]
theorem rL_snoc (l c : Int) (xs : List Int) : rL l (xs ++ [c]) = rL l xs + c := by unfold rL; rw [sS_app, sS_one]; omega
theorem rH_snoc (l h c : Int) (xs : List Int) : rH l h (xs ++ [c]) = rH l h xs + (rL l xs + c) := by
  unfold rH rL
  rw [sT_app, sT_one]
  simp only [List.length_append, List.length_singleton, Int.natCast_add, Int.add_mul]
  omega
theorem rL_bd {l : Int} {xs : List Int} (h : Byt xs) (h0 : 0 ≤ l) (h1 : l ≤ 65520) (hn : xs.length ≤ 5552) : 0 ≤ rL l xs ∧ rL l xs ≤ 1481280 := by
  have := sS_bd h
  unfold rL
  omega
theorem rH_bd {l h : Int} {xs : List Int} (hx : Byt xs) (h0 : 0 ≤ l) (h1 : l ≤ 65520) (g0 : 0 ≤ h) (g1 : h ≤ 65520) (hn : xs.length ≤ 5552) : 0 ≤ rH l h xs ∧ rH l h xs ≤ 4294690200 := by
  have a1 := sT_bd hx
  have a2 := sT_most hx hn
  have a3 : (xs.length : Int) * l ≤ 5552 * 65520 := Int.mul_le_mul (by omega) h1 h0 (by omega)
  have a4 : 0 ≤ (xs.length : Int) * l := Int.mul_nonneg (by omega) h0
  unfold rH
  omega

/-- Both numbers behind more bytes. -/
def aL (l : Int) (xs : List Int) : Int := rL l xs % 65521
def aH (l h : Int) (xs : List Int) : Int := rH l h xs % 65521
theorem aL_bd (l : Int) (xs : List Int) : 0 ≤ aL l xs ∧ aL l xs ≤ 65520 := by unfold aL; omega
theorem aH_bd (l h : Int) (xs : List Int) : 0 ≤ aH l h xs ∧ aH l h xs ≤ 65520 := by unfold aH; omega
theorem aL_nil {l : Int} (h0 : 0 ≤ l) (h1 : l ≤ 65520) : aL l [] = l := by unfold aL; rw [rL_nil]; omega
theorem aH_nil {l h : Int} (h0 : 0 ≤ h) (h1 : h ≤ 65520) : aH l h [] = h := by unfold aH; rw [rH_nil]; omega
theorem mul_mod_cong {n a b : Int} (h : a % 65521 = b % 65521) : (n * a) % 65521 = (n * b) % 65521 := by
  rw [Int.mul_emod, h, ← Int.mul_emod]
theorem aL_app (l : Int) (xs ys : List Int) : aL (aL l xs) ys = aL l (xs ++ ys) := by
  unfold aL rL
  rw [sS_app]
  omega
theorem aH_app (l h : Int) (xs ys : List Int) : aH (aL l xs) (aH l h xs) ys = aH l h (xs ++ ys) := by
  unfold aH aL rH rL
  have h1 : ((ys.length : Int) * ((l + sS xs) % 65521)) % 65521 = ((ys.length : Int) * (l + sS xs)) % 65521 := mul_mod_cong (by omega)
  rw [sT_app]
  simp only [List.length_append, Int.natCast_add, Int.add_mul, Int.mul_add] at *
  omega

/-- A sum as one number. -/
def wN (l h : Int) : Int := h * 65536 + l
theorem wN_bd {l h : Int} (h0 : 0 ≤ l) (h1 : l ≤ 65520) (g0 : 0 ≤ h) (g1 : h ≤ 65520) : 0 ≤ wN l h ∧ wN l h ≤ 4293984240 := by unfold wN; omega
theorem wN_low {l h : Int} (h0 : 0 ≤ l) (h1 : l ≤ 65520) : wN l h % 65536 = l := by unfold wN; omega
theorem wN_high {l h : Int} (h0 : 0 ≤ l) (h1 : l ≤ 65520) : wN l h / 65536 = h := by unfold wN; omega
/-- The sum of bytes. -/
def sumN (xs : List Int) : Int := wN (aL 1 xs) (aH 1 0 xs)
/-- The sum with more bytes. -/
def addN (l h : Int) (xs : List Int) : Int := wN (aL l xs) (aH l h xs)
theorem sumN_add (xs ys : List Int) : addN (aL 1 xs) (aH 1 0 xs) ys = sumN (xs ++ ys) := by
  unfold addN sumN
  rw [aL_app, aH_app]
theorem sumN_nil : sumN [] = 1 := by rfl
theorem sumN_eq {xs ys : List Int} : sumN xs = sumN ys ↔ aL 1 xs = aL 1 ys ∧ aH 1 0 xs = aH 1 0 ys := by
  have h1 := aL_bd 1 xs
  have h2 := aL_bd 1 ys
  unfold sumN wN
  omega
/-- Two sums put together: both numbers. -/
def jL (l m : Int) : Int := ((l + 65521 - 1) % 65521 + m) % 65521
def jH (l h k : Int) (many : Int) : Int := (h + k + (many % 65521) * ((l + 65521 - 1) % 65521)) % 65521
theorem jL_is (l : Int) (xs ys : List Int) : jL (aL l xs) (aL 1 ys) = aL l (xs ++ ys) := by
  unfold jL aL rL
  rw [sS_app]
  omega
theorem jH_is (l h : Int) (xs ys : List Int) : jH (aL l xs) (aH l h xs) (aH 1 0 ys) (ys.length : Int) = aH l h (xs ++ ys) := by
  unfold jH aH aL rH rL
  have h1 : (((ys.length : Int) % 65521) * (((l + sS xs) % 65521 + 65521 - 1) % 65521)) % 65521 = ((ys.length : Int) * (l + sS xs - 1)) % 65521 := by
    rw [Int.mul_emod]
    rw [Int.mul_emod (ys.length : Int) (l + sS xs - 1)]
    congr 1
    congr 1
    · omega
    · omega
  rw [sT_app]
  simp only [List.length_append, Int.natCast_add, Int.add_mul, Int.mul_add, Int.mul_sub] at *
  omega
theorem jL_bd (l m : Int) : 0 ≤ jL l m ∧ jL l m ≤ 65520 := by unfold jL; omega
theorem jH_bd (l h k many : Int) : 0 ≤ jH l h k many ∧ jH l h k many ≤ 65520 := by unfold jH; omega
theorem jM_bd (l many : Int) : 0 ≤ (many % 65521) * ((l + 65521 - 1) % 65521) ∧ (many % 65521) * ((l + 65521 - 1) % 65521) ≤ 4292870400 := by
  have h1 : 0 ≤ many % 65521 ∧ many % 65521 ≤ 65520 := by omega
  have h2 : 0 ≤ (l + 65521 - 1) % 65521 ∧ (l + 65521 - 1) % 65521 ≤ 65520 := by omega
  exact ⟨Int.mul_nonneg h1.1 h2.1, Int.mul_le_mul h1.2 h2.2 h2.1 (by omega)⟩
theorem jN_is (xs ys : List Int) : wN (jL (aL 1 xs) (aL 1 ys)) (jH (aL 1 xs) (aH 1 0 xs) (aH 1 0 ys) (ys.length : Int)) = sumN (xs ++ ys) := by
  rw [jL_is, jH_is]
  rfl

/-- Zeros. -/
theorem sS_zeros (n : Nat) : sS (List.replicate n 0) = 0 := by
  induction n with
  | zero => rfl
  | succ n ih => simp [List.replicate_succ, sS, ih]
theorem byt_zeros (n : Nat) : Byt (List.replicate n 0) := fun x h => by
  have := List.eq_of_mem_replicate h
  omega
theorem aL_zeros {l : Int} (n : Nat) (h0 : 0 ≤ l) (h1 : l ≤ 65520) : aL l (List.replicate n 0) = l := by
  unfold aL rL
  rw [sS_zeros]
  omega

/-- One byte is another one. -/
theorem split_at (b : List Int) (k : Nat) (h : k < b.length) : b = b.take k ++ ([b[k]] ++ b.drop (k + 1)) := by
  rw [List.singleton_append, List.getElem_cons_drop, List.take_append_drop]
theorem set_at (b : List Int) (k : Nat) (c : Int) (h : k < b.length) : b.set k c = b.take k ++ ([c] ++ b.drop (k + 1)) := by
  rw [List.set_eq_take_append_cons_drop, if_pos h]
  rfl
theorem changed_iff {b : List Int} {k : Nat} {c : Int} (hb : Byt b) (hk : k < b.length) (c0 : 0 ≤ c) (c1 : c ≤ 255) : sumN (b.set k c) = sumN b ↔ c = b[k] := by
  constructor
  · intro h
    have h1 := (sumN_eq.1 h).1
    have h2 := hb.get k hk
    rw [set_at b k c hk] at h1
    conv at h1 => rhs; rw [split_at b k hk]
    unfold aL rL at h1
    simp only [sS_app, sS_one] at h1
    omega
  · intro h
    subst h
    rw [List.set_getElem_self]
theorem split_two (b : List Int) (k : Nat) (h : k + 1 < b.length) : b = b.take k ++ ([b[k], b[k + 1]] ++ b.drop (k + 2)) := by
  have h1 := split_at b k (by omega)
  have h2 : b.drop (k + 1) = b[k + 1] :: b.drop (k + 2) := List.drop_eq_getElem_cons h
  conv => lhs; rw [h1, h2]
  rfl
theorem set_two (b : List Int) (k : Nat) (h : k + 1 < b.length) : (b.set k b[k + 1]).set (k + 1) b[k] = b.take k ++ ([b[k + 1], b[k]] ++ b.drop (k + 2)) := by
  apply List.ext_getElem
  · simp; omega
  · intro i h1 h2
    simp at h1
    rw [List.getElem_set, List.getElem_set]
    rcases Nat.lt_trichotomy i k with hi | hi | hi
    · rw [if_neg (by omega), if_neg (by omega), List.getElem_append_left (by simp; omega)]
      simp
    · subst hi
      rw [if_neg (by omega), if_pos rfl, List.getElem_append_right (by simp; omega)]
      simp [Nat.min_eq_left (show i ≤ b.length by omega)]
    · rcases Nat.lt_or_ge i (k + 2) with hj | hj
      · obtain rfl : i = k + 1 := by omega
        rw [if_pos rfl, List.getElem_append_right (by simp; omega)]
        simp [Nat.min_eq_left (show k ≤ b.length by omega)]
      · rw [if_neg (by omega), if_neg (by omega), List.getElem_append_right (by simp; omega)]
        obtain ⟨d, rfl⟩ : ∃ d, i = k + 2 + d := ⟨i - (k + 2), by omega⟩
        simp [Nat.min_eq_left (show k ≤ b.length by omega), show k + 2 + d - k = d + 1 + 1 by omega]
theorem swapped_iff {b : List Int} {k : Nat} (hb : Byt b) (hk : k + 1 < b.length) : sumN ((b.set k b[k + 1]).set (k + 1) b[k]) = sumN b ↔ b[k] = b[k + 1] := by
  constructor
  · intro h
    have h1 := (sumN_eq.1 h).2
    have g1 := hb.get k (by omega)
    have g2 := hb.get (k + 1) hk
    rw [set_two b k hk] at h1
    conv at h1 => rhs; rw [split_two b k hk]
    unfold aH rH at h1
    simp only [sT_app, sT, sS, List.length_append, List.length_cons, List.length_nil, Int.mul_add, Int.natCast_add, Int.mul_zero] at h1
    generalize ((b.drop (k + 2)).length : Int) * b[k] = u at h1
    generalize ((b.drop (k + 2)).length : Int) * b[k + 1] = v at h1
    omega
  · intro h
    congr 1
    rw [set_two b k hk]
    conv => rhs; rw [split_two b k hk]
    rw [h]
theorem sumN_bd (xs : List Int) : 0 ≤ sumN xs ∧ sumN xs ≤ 4293984240 := by
  obtain ⟨a1, a2⟩ := aL_bd 1 xs
  obtain ⟨a3, a4⟩ := aH_bd 1 0 xs
  exact wN_bd a1 a2 a3 a4
end Go.Proofs.YthmpimjmajoimaaGreatDoor
namespace Go.Proofs.YthmpimjmajoimaaGreatDoor

/-- A number's four bytes. -/
def four (n : Int) : List Int := [n % 256, n / 256 % 256, n / 65536 % 256, n / 16777216 % 256]
/-- The number of four bytes. -/
def back4 (a b c d : Int) : Int := a + 256 * b + 65536 * c + 16777216 * d
theorem four_len (n : Int) : (four n).length = 4 := rfl
theorem byt_four (n : Int) : Byt (four n) := by
  intro x hx
  simp only [four, List.mem_cons, List.not_mem_nil, or_false] at hx
  rcases hx with rfl | rfl | rfl | rfl <;> omega
theorem back_four {n : Int} (h0 : 0 ≤ n) (h1 : n ≤ 4294967295) : back4 (n % 256) (n / 256 % 256) (n / 65536 % 256) (n / 16777216 % 256) = n := by unfold back4; omega
theorem four_back {a b c d : Int} (a0 : 0 ≤ a) (a1 : a ≤ 255) (b0 : 0 ≤ b) (b1 : b ≤ 255) (c0 : 0 ≤ c) (c1 : c ≤ 255) (d0 : 0 ≤ d) (d1 : d ≤ 255) : four (back4 a b c d) = [a, b, c, d] := by
  unfold four back4
  simp only [List.cons.injEq, and_true]
  omega
theorem back4_bd {a b c d : Int} (a0 : 0 ≤ a) (a1 : a ≤ 255) (b0 : 0 ≤ b) (b1 : b ≤ 255) (c0 : 0 ≤ c) (c1 : c ≤ 255) (d0 : 0 ≤ d) (d1 : d ≤ 255) : 0 ≤ back4 a b c d ∧ back4 a b c d ≤ 4294967295 := by unfold back4; omega

/-- The 13 bytes ahead of the sum. -/
def headB (k s i q : Int) : List Int := k :: (four s ++ four i ++ four q)
/-- A page's bytes. -/
def pageB (k s i q : Int) (blk : List Int) : List Int := headB k s i q ++ (four (sumN (headB k s i q ++ blk)) ++ blk)
theorem headB_len (k s i q : Int) : (headB k s i q).length = 13 := rfl
theorem pageB_len (k s i q : Int) (blk : List Int) : (pageB k s i q blk).length = blk.length + 17 := by
  simp [pageB, headB_len, four_len]; omega
theorem byt_head {k : Int} (s i q : Int) (h0 : 0 ≤ k) (h1 : k ≤ 255) : Byt (headB k s i q) := by
  intro x hx
  unfold headB at hx
  rcases List.mem_cons.1 hx with rfl | hx
  · exact ⟨h0, h1⟩
  · exact ((byt_four s).app (byt_four i)).app (byt_four q) x hx
theorem byt_page {k : Int} (s i q : Int) {blk : List Int} (h0 : 0 ≤ k) (h1 : k ≤ 255) (hb : Byt blk) : Byt (pageB k s i q blk) := (byt_head s i q h0 h1).app ((byt_four _).app hb)

/-- The number at o; the sum that the other bytes have. -/
def bk (ps : List Int) (o : Nat) : Int := back4 (ps.getD o 0) (ps.getD (o + 1) 0) (ps.getD (o + 2) 0) (ps.getD (o + 3) 0)
def tot (ps : List Int) : Int := sumN (ps.take 13 ++ ps.drop 17)
theorem page_kind (k s i q : Int) (blk : List Int) : (pageB k s i q blk).getD 0 0 = k := rfl
theorem page_bk1 {k s i q : Int} {blk : List Int} (h0 : 0 ≤ s) (h1 : s ≤ 4294967295) : bk (pageB k s i q blk) 1 = s := back_four h0 h1
theorem page_bk5 {k s i q : Int} {blk : List Int} (h0 : 0 ≤ i) (h1 : i ≤ 4294967295) : bk (pageB k s i q blk) 5 = i := back_four h0 h1
theorem page_bk9 {k s i q : Int} {blk : List Int} (h0 : 0 ≤ q) (h1 : q ≤ 4294967295) : bk (pageB k s i q blk) 9 = q := back_four h0 h1
theorem page_bk13 {k s i q : Int} {blk : List Int} : bk (pageB k s i q blk) 13 = sumN (headB k s i q ++ blk) := by
  have := sumN_bd (headB k s i q ++ blk)
  exact back_four this.1 (by omega)
theorem page_drop (k s i q : Int) (blk : List Int) : (pageB k s i q blk).drop 17 = blk := rfl
theorem page_take (k s i q : Int) (blk : List Int) : (pageB k s i q blk).take 13 = headB k s i q := rfl
theorem page_tot {k s i q : Int} {blk : List Int} : tot (pageB k s i q blk) = sumN (headB k s i q ++ blk) := rfl

/-- Seventeen bytes and the block. -/
theorem cut17 (ps : List Int) (h : ps.length = 33) : ∃ p0 p1 p2 p3 p4 p5 p6 p7 p8 p9 p10 p11 p12 p13 p14 p15 p16 : Int, ∃ blk : List Int,
    ps = p0 :: p1 :: p2 :: p3 :: p4 :: p5 :: p6 :: p7 :: p8 :: p9 :: p10 :: p11 :: p12 :: p13 :: p14 :: p15 :: p16 :: blk ∧ blk.length = 16 := by
  have hd : ∀ (n : Nat) (l : List Int), l.length = n + 1 → ∃ a m, l = a :: m ∧ m.length = n := by
    intro n l hl
    cases l with
    | nil => simp at hl
    | cons a m => exact ⟨a, m, rfl, by simpa using hl⟩
  obtain ⟨p0, r0, rfl, h0⟩ := hd 32 _ h
  obtain ⟨p1, r1, rfl, h1⟩ := hd 31 _ h0
  obtain ⟨p2, r2, rfl, h2⟩ := hd 30 _ h1
  obtain ⟨p3, r3, rfl, h3⟩ := hd 29 _ h2
  obtain ⟨p4, r4, rfl, h4⟩ := hd 28 _ h3
  obtain ⟨p5, r5, rfl, h5⟩ := hd 27 _ h4
  obtain ⟨p6, r6, rfl, h6⟩ := hd 26 _ h5
  obtain ⟨p7, r7, rfl, h7⟩ := hd 25 _ h6
  obtain ⟨p8, r8, rfl, h8⟩ := hd 24 _ h7
  obtain ⟨p9, r9, rfl, h9⟩ := hd 23 _ h8
  obtain ⟨p10, r10, rfl, h10⟩ := hd 22 _ h9
  obtain ⟨p11, r11, rfl, h11⟩ := hd 21 _ h10
  obtain ⟨p12, r12, rfl, h12⟩ := hd 20 _ h11
  obtain ⟨p13, r13, rfl, h13⟩ := hd 19 _ h12
  obtain ⟨p14, r14, rfl, h14⟩ := hd 18 _ h13
  obtain ⟨p15, r15, rfl, h15⟩ := hd 17 _ h14
  obtain ⟨p16, r16, rfl, h16⟩ := hd 16 _ h15
  exact ⟨p0, p1, p2, p3, p4, p5, p6, p7, p8, p9, p10, p11, p12, p13, p14, p15, p16, r16, rfl, h16⟩

/-- Bytes come back from what they are of. -/
theorem page_back {ps : List Int} (hl : ps.length = 33) (hb : Byt ps) (hs : bk ps 13 = tot ps) : pageB (ps.getD 0 0) (bk ps 1) (bk ps 5) (bk ps 9) (ps.drop 17) = ps := by
  obtain ⟨p0, p1, p2, p3, p4, p5, p6, p7, p8, p9, p10, p11, p12, p13, p14, p15, p16, blk, rfl, hk⟩ := cut17 ps hl
  have g : ∀ x ∈ [p0, p1, p2, p3, p4, p5, p6, p7, p8, p9, p10, p11, p12, p13, p14, p15, p16], 0 ≤ x ∧ x ≤ 255 := fun x hx => hb x (by
    simp only [List.mem_cons, List.not_mem_nil, or_false] at hx ⊢
    rcases hx with h | h | h | h | h | h | h | h | h | h | h | h | h | h | h | h | h <;> simp [h])
  simp only [List.mem_cons, List.not_mem_nil, or_false, forall_eq_or_imp, forall_eq] at g
  obtain ⟨g0, g1, g2, g3, g4, g5, g6, g7, g8, g9, g10, g11, g12, g13, g14, g15, g16⟩ := g
  have e1 := four_back g1.1 g1.2 g2.1 g2.2 g3.1 g3.2 g4.1 g4.2
  have e2 := four_back g5.1 g5.2 g6.1 g6.2 g7.1 g7.2 g8.1 g8.2
  have e3 := four_back g9.1 g9.2 g10.1 g10.2 g11.1 g11.2 g12.1 g12.2
  have e4 := four_back g13.1 g13.2 g14.1 g14.2 g15.1 g15.2 g16.1 g16.2
  have hs' : back4 p13 p14 p15 p16 = sumN ([p0, p1, p2, p3, p4, p5, p6, p7, p8, p9, p10, p11, p12] ++ blk) := hs
  show pageB p0 (back4 p1 p2 p3 p4) (back4 p5 p6 p7 p8) (back4 p9 p10 p11 p12) blk = _
  unfold pageB headB
  rw [e1, e2, e3]
  simp only [List.cons_append, List.nil_append] at hs' ⊢
  rw [← hs', e4]
  rfl

/-- Of bytes of which one is another one the sum is another one. -/
theorem page_changed {k s i q c : Int} {blk : List Int} {t : Nat} (hk0 : 0 ≤ k) (hk1 : k ≤ 255) (hb : Byt blk) (hl : blk.length = 16) (ht : t < (pageB k s i q blk).length) (c0 : 0 ≤ c) (c1 : c ≤ 255) (hc : c ≠ (pageB k s i q blk)[t]) :
    bk ((pageB k s i q blk).set t c) 13 ≠ tot ((pageB k s i q blk).set t c) := by
  have hP : Byt (pageB k s i q blk) := byt_page s i q hk0 hk1 hb
  have hs : bk (pageB k s i q blk) 13 = tot (pageB k s i q blk) := page_bk13.trans page_tot.symm
  have hlen : (pageB k s i q blk).length = 33 := by rw [pageB_len]; omega
  generalize pageB k s i q blk = ps at *
  rcases Nat.lt_or_ge t 13 with h | h
  · have e1 : bk (ps.set t c) 13 = bk ps 13 := by
      unfold bk
      simp only [List.getD_eq_getElem?_getD, List.getElem?_set]
      rw [if_neg (by omega), if_neg (by omega), if_neg (by omega), if_neg (by omega)]
    have e2 : (ps.set t c).take 13 ++ (ps.set t c).drop 17 = (ps.take 13 ++ ps.drop 17).set t c := by
      rw [List.take_set, List.drop_set_of_lt (by omega), List.set_append_left _ _ (by simp; omega)]
    have hbk := changed_iff (b := ps.take 13 ++ ps.drop 17) (k := t) (c := c) ((hP.take 13).app (fun x hx => hP x (List.mem_of_mem_drop hx))) (by simp; omega) c0 c1
    unfold tot
    rw [e1, e2, hs]
    unfold tot
    intro he
    have := hbk.1 he.symm
    rw [List.getElem_append_left (by simp; omega), List.getElem_take] at this
    exact hc this
  · rcases Nat.lt_or_ge t 17 with h2 | h2
    · have e2 : (ps.set t c).take 13 ++ (ps.set t c).drop 17 = ps.take 13 ++ ps.drop 17 := by
        rw [List.take_set_of_le (by omega), List.drop_set_of_lt (by omega)]
      unfold tot
      rw [e2]
      intro he
      have he2 : bk (ps.set t c) 13 = bk ps 13 := he.trans hs.symm
      have G : ∀ j, (h : j < ps.length) → 0 ≤ ps[j] ∧ ps[j] ≤ 255 := fun j h => hP.get j h
      have q0 := G 13 (by omega)
      have q1 := G 14 (by omega)
      have q2 := G 15 (by omega)
      have q3 := G 16 (by omega)
      unfold bk back4 at he2
      simp only [List.getD_eq_getElem?_getD, List.getElem?_set] at he2
      rw [List.getElem?_eq_getElem (show 13 < ps.length by omega), List.getElem?_eq_getElem (show 13 + 1 < ps.length by omega), List.getElem?_eq_getElem (show 13 + 2 < ps.length by omega), List.getElem?_eq_getElem (show 13 + 3 < ps.length by omega)] at he2
      have ht4 : t = 13 ∨ t = 14 ∨ t = 15 ∨ t = 16 := by omega
      rcases ht4 with rfl | rfl | rfl | rfl
      · simp [hlen] at he2
        omega
      · simp [hlen] at he2
        omega
      · simp [hlen] at he2
        omega
      · simp [hlen] at he2
        omega
    · have e1 : bk (ps.set t c) 13 = bk ps 13 := by
        unfold bk
        simp only [List.getD_eq_getElem?_getD, List.getElem?_set]
        rw [if_neg (by omega), if_neg (by omega), if_neg (by omega), if_neg (by omega)]
      have e2 : (ps.set t c).take 13 ++ (ps.set t c).drop 17 = (ps.take 13 ++ ps.drop 17).set (t - 4) c := by
        rw [List.take_set_of_le (by omega), List.drop_set, if_neg (by omega), List.set_append_right _ _ (by simp; omega)]
        congr 2
        simp
        omega
      have hbk := changed_iff (b := ps.take 13 ++ ps.drop 17) (k := t - 4) (c := c) ((hP.take 13).app (fun x hx => hP x (List.mem_of_mem_drop hx))) (by simp; omega) c0 c1
      unfold tot
      rw [e1, e2, hs]
      unfold tot
      intro he
      have := hbk.1 he.symm
      rw [List.getElem_append_right (by simp; omega), List.getElem_drop] at this
      apply hc
      rw [this]
      congr 1
      simp
      omega

/-- A row laid over another one from o on. -/
def putB {α : Type} (xs : List α) (o : Nat) (ys : List α) : List α := xs.take o ++ (ys ++ xs.drop (o + ys.length))
theorem putB_nil {α : Type} (xs : List α) (o : Nat) : putB xs o [] = xs := by simp [putB]
theorem putB_len {α : Type} {xs ys : List α} {o : Nat} (h : o + ys.length ≤ xs.length) : (putB xs o ys).length = xs.length := by simp [putB]; omega
theorem putB_snoc {α : Type} {xs ys : List α} {o : Nat} (y : α) (h : o + ys.length < xs.length) : (putB xs o ys).set (o + ys.length) y = putB xs o (ys ++ [y]) := by
  unfold putB
  rw [List.set_append_right _ _ (by simp; omega)]
  have e : o + ys.length - (xs.take o).length = ys.length := by simp; omega
  rw [e, List.set_append_right _ _ (by omega), Nat.sub_self]
  rw [show xs.drop (o + ys.length) = xs[o + ys.length] :: xs.drop (o + ys.length + 1) from List.drop_eq_getElem_cons h]
  simp [Nat.add_assoc]
end Go.Proofs.YthmpimjmajoimaaGreatDoor
namespace Go.Proofs.YthmpimjmajoimaaGreatDoor
open Go.RowKit

theorem ret_u32 {a b : Int} (h : a = b) : Ending.returned (.int .u32 a) = .returned (.int .u32 b) := by rw [h]
theorem ret_bool {a b : Bool} (h : a = b) : Ending.returned (.bool a) = .returned (.bool b) := by rw [h]
def NumIs (n : Int) (w : World) (r : Ending) (w' : World) : Prop := r = .returned (.int .u32 n) ∧ w = w'
def NumB (n : Int) (w : World) (r : Ending) (w' : World) : Prop := r = .returned (.int .u32 n) ∧ Below w.heap.size w w'
def BoolB (x : Bool) (w : World) (r : Ending) (w' : World) : Prop := r = .returned (.bool x) ∧ Below w.heap.size w w'

/-- The slice of A, xs.length, c reads as these bytes, below block B. -/
def Rd (w : World) (B : Nat) (A : Option Addr) (xs : List Int) : Prop :=
  0 < xs.length → ∃ b o : Nat, A = some ⟨b, o, none⟩ ∧ b < B ∧ ∀ i (h : i < xs.length), w.cell? ⟨b, o + i, none⟩ = some (.int .u8 xs[i])
theorem Rd.below {w w' : World} {B : Nat} {A : Option Addr} {xs : List Int} (h : Rd w B A xs) (hb : Below B w w') : Rd w' B A xs := by
  intro hn
  obtain ⟨b, o, hA, hlt, hc⟩ := h hn
  exact ⟨b, o, hA, hlt, fun i hi => (hb.cell (p := ⟨b, o + i, none⟩) hlt).trans (hc i hi)⟩
theorem Rd.mono {w : World} {B B' : Nat} {A : Option Addr} {xs : List Int} (h : Rd w B A xs) (hB : B ≤ B') : Rd w B' A xs := by
  intro hn
  obtain ⟨b, o, hA, hlt, hc⟩ := h hn
  exact ⟨b, o, hA, Nat.lt_of_lt_of_le hlt hB, hc⟩
theorem Rd.take {w : World} {B : Nat} {A : Option Addr} {xs : List Int} (h : Rd w B A xs) (k : Nat) : Rd w B A (xs.take k) := by
  intro hn
  simp at hn
  obtain ⟨b, o, hA, hlt, hc⟩ := h (by omega)
  refine ⟨b, o, hA, hlt, fun i hi => ?_⟩
  simp at hi
  rw [List.getElem_take]
  exact hc i (by omega)
theorem Rd.drop {w : World} {B b o : Nat} {xs : List Int} (h : Rd w B (some ⟨b, o, none⟩) xs) (k : Nat) : Rd w B (some ⟨b, o + k, none⟩) (xs.drop k) := by
  intro hn
  simp at hn
  obtain ⟨b', o', hA, hlt, hc⟩ := h (by omega)
  injection hA with hA
  injection hA with e1 e2
  subst e1 e2
  refine ⟨b, o + k, rfl, hlt, fun i hi => ?_⟩
  simp at hi
  rw [List.getElem_drop, Nat.add_assoc]
  exact hc (k + i) (by omega)
theorem Rd.nil {w : World} {B : Nat} {A : Option Addr} : Rd w B A [] := fun h => by simp at h


/-- Are bytes the same? -/
theorem same_len {A A2 : Option Addr} {n m c c2 : Nat} {w : World} (h : n ≠ m) : Calls Tryz.prog 51 #[.slice A n c, .slice A2 m c2] w (BoolB false w) := by
  have q : ((n : Int) == (m : Int)) = false := by simp; omega
  go_enter Tryz.func51, Tryz.ntmps51
  go_wp2_with fail
  go_ret
  exact ⟨rfl, Below.refl _ _⟩
theorem same_step {xs ys : List Int} {k : Nat} (h1 : k < xs.length) (h2 : k < ys.length) (h : xs.take k = ys.take k) (he : xs[k] = ys[k]) : xs.take (k + 1) = ys.take (k + 1) := by
  rw [List.take_succ_eq_append_getElem h1, List.take_succ_eq_append_getElem h2, h, he]
theorem same_no {xs ys : List Int} {k : Nat} (h1 : k < xs.length) (h2 : k < ys.length) (he : xs[k] ≠ ys[k]) : decide (xs = ys) = false := by
  simp only [decide_eq_false_iff_not]
  rintro rfl
  exact he rfl
set_option maxHeartbeats 1000000 in
theorem same_eq {A A2 : Option Addr} {xs ys : List Int} {c c2 : Nat} {w : World} (hr : Rd w w.heap.size A xs) (hr2 : Rd w w.heap.size A2 ys) (hl : ys.length = xs.length) (hn : xs.length ≤ 20000) : Calls Tryz.prog 51 #[.slice A xs.length c, .slice A2 xs.length c2] w (BoolB (decide (xs = ys)) w) := by
  have HR := Lib.hid hr
  have HR2 := Lib.hid hr2
  have HL := Lib.hid hl
  clear hr hr2 hl
  go_enter Tryz.func51, Tryz.ntmps51
  go_wp2_with fail
  go_loopg [5] xs.length (fun n i wr => ∃ k : Nat, k ≤ xs.length ∧ n = xs.length - k ∧ i = .int .i64 k ∧ xs.take k = ys.take k ∧ Below w.heap.size w wr)
  case atStart => exact ⟨0, by omega, by omega, rfl, rfl, Below.refl _ _⟩
  case round =>
    obtain ⟨k, hk, hm, rfl, ht, hb⟩ := hrel
    have HB := Lib.hid hb
    have HM := Lib.hid hm
    have HT := Lib.hid ht
    clear hb hm ht
    by_cases hlt : k < xs.length
    · have hlt2 : k < ys.length := by rw [HL.out]; exact hlt
      obtain ⟨b, o, rfl, hbl, hcell⟩ := (HR.out.below HB.out) (by omega)
      obtain ⟨b2, o2, rfl, hbl2, hcell2⟩ := (HR2.out.below HB.out) (by omega)
      have c0 := hcell k hlt
      have c1 := hcell2 k hlt2
      clear hcell hcell2
      by_cases he : xs[k] = ys[k]
      · have HS := Lib.hid (same_step hlt hlt2 HT.out he)
        rw [← he] at c1
        have q : (xs[k] == xs[k]) = true := by simp
        go_wp2_with fail
        go_region
        go_wp2_with fail
        go_roundg (xs.length - (k + 1))
        case rel => exact ⟨k + 1, by omega, rfl, by go_num, HS.out, HB.out.drew⟩
        case measure => have := HM.out; omega
      · have HS := Lib.hid (same_no hlt hlt2 he)
        have q : (xs[k] == ys[k]) = false := by simp [he]
        go_wp2_with fail
        go_region
        go_wp2_with fail
        go_ret
        exact ⟨by rw [HS.out]; rfl, HB.out.drew⟩
    · obtain rfl : k = xs.length := by omega
      have HS : Hid (decide (xs = ys) = true) := Lib.hid (by
        have := HT.out
        rw [List.take_length, ← HL.out, List.take_length] at this
        simpa using this)
      go_wp2_with fail
      go_ret
      exact ⟨by rw [HS.out]; rfl, HB.out⟩
theorem same_is {A A2 : Option Addr} {xs ys : List Int} {n m c c2 : Nat} {w : World} (hr : Rd w w.heap.size A xs) (hr2 : Rd w w.heap.size A2 ys) (hl : xs.length = n) (hl2 : ys.length = m) (hn : n ≤ 20000) : Calls Tryz.prog 51 #[.slice A n c, .slice A2 m c2] w (BoolB (decide (xs = ys)) w) := by
  subst hl hl2
  by_cases h : xs.length = ys.length
  · have := same_eq (c := c) (c2 := c2) hr hr2 h.symm hn
    rwa [h] at this ⊢
  · have e : decide (xs = ys) = false := by
      simp only [decide_eq_false_iff_not]
      rintro rfl
      exact h rfl
    rw [e]
    exact same_len h
end Go.Proofs.YthmpimjmajoimaaGreatDoor
namespace Go.Proofs.YthmpimjmajoimaaGreatDoor
open Go.RowKit

/-- A world that has the property G. -/
structure In (G : World → Prop) where
  w : World
  ok : G w

section
variable {P : Program} {G : World → Prop}

theorem wp_region_in {id : Nat} {Q : Exit → Act → World → Prop} {a : Act} {w : World} {l : List Oper} (G : World → Prop) (hG : G w.drew) (hm : P.follows .mixedOrders = true) (hB : Region.lexB .any l.toArray = true)
    (h : Nonempty (In G) → wpQuiet P l.toArray (fun w' => ∃ n : In G, w' = n.w) (fun a' => ∀ n : In G, Q .normal a' n.w) l a) : (Code.region id l.toArray true).wp P Q a w :=
  wp_region_quiet (C := fun w' => ∃ n : In G, w' = n.w) hm hB ⟨⟨_, hG⟩, rfl⟩ (by
    have h' := h ⟨⟨_, hG⟩⟩
    have e : (fun a' => ∀ w', (∃ n : In G, w' = n.w) → Q .normal a' w') = (fun a' => ∀ n : In G, Q .normal a' n.w) := by
      funext a'
      exact propext ⟨fun k n => k _ ⟨n, rfl⟩, fun k w' ⟨n, hn⟩ => hn ▸ k n⟩
    rw [e]
    simpa using h')

/-- A callee that leaves the world alone. -/
theorem In.same {f : FuncId} {args : Array Value} {n : In G} {v : Value} (h : Calls P f args n.w fun e w' => e = .returned v ∧ n.w = w') : Calls P f args n.w fun e w'' => e = .returned v ∧ ∃ m : In G, w'' = m.w :=
  h.mono fun _ _ ⟨he, hw⟩ => ⟨he, n, hw.symm⟩
/-- A callee that makes memory. -/
theorem In.more {f : FuncId} {args : Array Value} {n : In G} {v : Value} (up : ∀ {a b : World}, G a → Below a.heap.size a b → G b) (h : Calls P f args n.w fun e w' => e = .returned v ∧ Below n.w.heap.size n.w w') :
    Calls P f args n.w fun e w'' => e = .returned v ∧ ∃ m : In G, w'' = m.w :=
  h.mono fun _ w' ⟨he, hw⟩ => ⟨he, ⟨w', up n.ok hw⟩, rfl⟩
end
end Go.Proofs.YthmpimjmajoimaaGreatDoor

/-
  Plain mathematics of sums of bytes.
-/
namespace Go.Proofs.YtljpkngbhdplbaaDoor

/-- Bytes. -/
def Byt (xs : List Int) : Prop := ∀ x ∈ xs, 0 ≤ x ∧ x ≤ 255
/-- The sum of a row. -/
def sS : List Int → Int
  | [] => 0
  | c :: r => c + sS r
/-- The sum of the sums of all beginnings. -/
def sT : List Int → Int
  | [] => 0
  | c :: r => c + (r.length : Int) * c + sT r

theorem Byt.nil : Byt [] := fun x h => by cases h
theorem Byt.app {a b : List Int} (ha : Byt a) (hb : Byt b) : Byt (a ++ b) := fun x h => by
  rcases List.mem_append.1 h with h | h
  · exact ha x h
  · exact hb x h
theorem Byt.take {a : List Int} (h : Byt a) (k : Nat) : Byt (a.take k) := fun x hx => h x (List.mem_of_mem_take hx)
theorem Byt.drop {a : List Int} (h : Byt a) (k : Nat) : Byt (a.drop k) := fun x hx => h x (List.mem_of_mem_drop hx)
theorem Byt.get {a : List Int} (h : Byt a) (k : Nat) (hk : k < a.length) : 0 ≤ a[k] ∧ a[k] ≤ 255 := h _ (List.getElem_mem hk)

theorem sS_app (a b : List Int) : sS (a ++ b) = sS a + sS b := by
  induction a with
  | nil => simp [sS]
  | cons c r ih => simp only [List.cons_append, sS, ih]; omega
theorem sT_app (a b : List Int) : sT (a ++ b) = sT a + (b.length : Int) * sS a + sT b := by
  induction a with
  | nil => simp [sS, sT]
  | cons c r ih =>
    simp only [List.cons_append, sT, sS, ih, List.length_append, Int.natCast_add, Int.add_mul, Int.mul_add]
    omega
theorem sS_one (c : Int) : sS [c] = c := by simp [sS]
theorem sT_one (c : Int) : sT [c] = c := by simp [sT]
theorem sS_bd {a : List Int} (h : Byt a) : 0 ≤ sS a ∧ sS a ≤ 255 * a.length := by
  induction a with
  | nil => simp [sS]
  | cons c r ih =>
    have h1 := ih (fun x hx => h x (List.mem_cons_of_mem _ hx))
    have h2 := h c (by simp)
    simp only [sS, List.length_cons]
    omega
theorem tri (n : Nat) : ∃ t : Nat, 2 * t = n * (n + 1) := by
  induction n with
  | zero => exact ⟨0, by simp⟩
  | succ n ih =>
    obtain ⟨t, ht⟩ := ih
    refine ⟨t + (n + 1), ?_⟩
    have : (n + 1) * (n + 1 + 1) = n * (n + 1) + 2 * (n + 1) := by
      rw [Nat.mul_add (n + 1) (n + 1) 1, Nat.add_mul n 1 (n + 1)]
      omega
    omega
theorem sT_bd {a : List Int} (h : Byt a) : 0 ≤ sT a ∧ 2 * sT a ≤ 255 * ((a.length : Int) * ((a.length : Int) + 1)) := by
  induction a with
  | nil => simp [sT]
  | cons c r ih =>
    have h1 := ih (fun x hx => h x (List.mem_cons_of_mem _ hx))
    obtain ⟨h2, h3⟩ := h c (by simp)
    have h4 : (r.length : Int) * c ≤ (r.length : Int) * 255 := Int.mul_le_mul_of_nonneg_left h3 (by omega)
    have h5 : 0 ≤ (r.length : Int) * c := Int.mul_nonneg (by omega) h2
    simp only [sT, List.length_cons, Int.natCast_add, Int.add_mul, Int.mul_add] at *
    omega
/-- What a row of n bytes adds at most. -/
theorem sT_most {a : List Int} {n : Nat} (h : Byt a) (hn : a.length ≤ n) : 2 * sT a ≤ 255 * ((n : Int) * ((n : Int) + 1)) := by
  have h1 := (sT_bd h).2
  have h2 : (a.length : Int) * ((a.length : Int) + 1) ≤ (n : Int) * ((n : Int) + 1) := Int.mul_le_mul (by omega) (by omega) (by omega) (by omega)
  omega

/-- Both numbers behind more bytes, ahead of the remainder. -/
def rL (l : Int) (xs : List Int) : Int := l + sS xs
def rH (l h : Int) (xs : List Int) : Int := h + (xs.length : Int) * l + sT xs
theorem rL_nil (l : Int) : rL l [] = l := by simp [rL, sS]
theorem rH_nil (l h : Int) : rH l h [] = h := by simp [rH, sT]
theorem rL_snoc (l c : Int) (xs : List Int) : rL l (xs ++ [c]) = rL l xs + c := by unfold rL; rw [sS_app, sS_one]; omega
theorem rH_snoc (l h c : Int) (xs : List Int) : rH l h (xs ++ [c]) = rH l h xs + (rL l xs + c) := by
  unfold rH rL
  rw [sT_app, sT_one]
  simp only [List.length_append, List.length_singleton, Int.natCast_add, Int.add_mul]
  omega
theorem rL_bd {l : Int} {xs : List Int} (h : Byt xs) (h0 : 0 ≤ l) (h1 : l ≤ 65520) (hn : xs.length ≤ 5552) : 0 ≤ rL l xs ∧ rL l xs ≤ 1481280 := by
  have := sS_bd h
  unfold rL
  omega
theorem rH_bd {l h : Int} {xs : List Int} (hx : Byt xs) (h0 : 0 ≤ l) (h1 : l ≤ 65520) (g0 : 0 ≤ h) (g1 : h ≤ 65520) (hn : xs.length ≤ 5552) : 0 ≤ rH l h xs ∧ rH l h xs ≤ 4294690200 := by
  have a1 := sT_bd hx
  have a2 := sT_most hx hn
  have a3 : (xs.length : Int) * l ≤ 5552 * 65520 := Int.mul_le_mul (by omega) h1 h0 (by omega)
  have a4 : 0 ≤ (xs.length : Int) * l := Int.mul_nonneg (by omega) h0
  unfold rH
  omega

/-- Both numbers behind more bytes. -/
def aL (l : Int) (xs : List Int) : Int := rL l xs % 65521
def aH (l h : Int) (xs : List Int) : Int := rH l h xs % 65521
theorem aL_bd (l : Int) (xs : List Int) : 0 ≤ aL l xs ∧ aL l xs ≤ 65520 := by unfold aL; omega
theorem aH_bd (l h : Int) (xs : List Int) : 0 ≤ aH l h xs ∧ aH l h xs ≤ 65520 := by unfold aH; omega
theorem aL_nil {l : Int} (h0 : 0 ≤ l) (h1 : l ≤ 65520) : aL l [] = l := by unfold aL; rw [rL_nil]; omega
theorem aH_nil {l h : Int} (h0 : 0 ≤ h) (h1 : h ≤ 65520) : aH l h [] = h := by unfold aH; rw [rH_nil]; omega
theorem mul_mod_cong {n a b : Int} (h : a % 65521 = b % 65521) : (n * a) % 65521 = (n * b) % 65521 := by
  rw [Int.mul_emod, h, ← Int.mul_emod]
theorem aL_app (l : Int) (xs ys : List Int) : aL (aL l xs) ys = aL l (xs ++ ys) := by
  unfold aL rL
  rw [sS_app]
  omega
theorem aH_app (l h : Int) (xs ys : List Int) : aH (aL l xs) (aH l h xs) ys = aH l h (xs ++ ys) := by
  unfold aH aL rH rL
  have h1 : ((ys.length : Int) * ((l + sS xs) % 65521)) % 65521 = ((ys.length : Int) * (l + sS xs)) % 65521 := mul_mod_cong (by omega)
  rw [sT_app]
  simp only [List.length_append, Int.natCast_add, Int.add_mul, Int.mul_add] at *
  omega

/-- A sum as one number. -/
def wN (l h : Int) : Int := h * 65536 + l
theorem wN_bd {l h : Int} (h0 : 0 ≤ l) (h1 : l ≤ 65520) (g0 : 0 ≤ h) (g1 : h ≤ 65520) : 0 ≤ wN l h ∧ wN l h ≤ 4293984240 := by unfold wN; omega
theorem wN_low {l h : Int} (h0 : 0 ≤ l) (h1 : l ≤ 65520) : wN l h % 65536 = l := by unfold wN; omega
theorem wN_high {l h : Int} (h0 : 0 ≤ l) (h1 : l ≤ 65520) : wN l h / 65536 = h := by unfold wN; omega
/-- The sum of bytes. -/
def sumN (xs : List Int) : Int := wN (aL 1 xs) (aH 1 0 xs)
/-- The sum with more bytes. -/
def addN (l h : Int) (xs : List Int) : Int := wN (aL l xs) (aH l h xs)
theorem sumN_add (xs ys : List Int) : addN (aL 1 xs) (aH 1 0 xs) ys = sumN (xs ++ ys) := by
  unfold addN sumN
  rw [aL_app, aH_app]
theorem sumN_nil : sumN [] = 1 := by rfl
theorem sumN_eq {xs ys : List Int} : sumN xs = sumN ys ↔ aL 1 xs = aL 1 ys ∧ aH 1 0 xs = aH 1 0 ys := by
  have h1 := aL_bd 1 xs
  have h2 := aL_bd 1 ys
  unfold sumN wN
  omega
/-- Two sums put together: both numbers. -/
def jL (l m : Int) : Int := ((l + 65521 - 1) % 65521 + m) % 65521
def jH (l h k : Int) (many : Int) : Int := (h + k + (many % 65521) * ((l + 65521 - 1) % 65521)) % 65521
theorem jL_is (l : Int) (xs ys : List Int) : jL (aL l xs) (aL 1 ys) = aL l (xs ++ ys) := by
  unfold jL aL rL
  rw [sS_app]
  omega
theorem jH_is (l h : Int) (xs ys : List Int) : jH (aL l xs) (aH l h xs) (aH 1 0 ys) (ys.length : Int) = aH l h (xs ++ ys) := by
  unfold jH aH aL rH rL
  have h1 : (((ys.length : Int) % 65521) * (((l + sS xs) % 65521 + 65521 - 1) % 65521)) % 65521 = ((ys.length : Int) * (l + sS xs - 1)) % 65521 := by
    rw [Int.mul_emod]
    rw [Int.mul_emod (ys.length : Int) (l + sS xs - 1)]
    congr 1
    congr 1
    · omega
    · omega
  rw [sT_app]
  simp only [List.length_append, Int.natCast_add, Int.add_mul, Int.mul_add, Int.mul_sub] at *
  omega
theorem jL_bd (l m : Int) : 0 ≤ jL l m ∧ jL l m ≤ 65520 := by unfold jL; omega
theorem jH_bd (l h k many : Int) : 0 ≤ jH l h k many ∧ jH l h k many ≤ 65520 := by unfold jH; omega
theorem jM_bd (l many : Int) : 0 ≤ (many % 65521) * ((l + 65521 - 1) % 65521) ∧ (many % 65521) * ((l + 65521 - 1) % 65521) ≤ 4292870400 := by
  have h1 : 0 ≤ many % 65521 ∧ many % 65521 ≤ 65520 := by omega
  have h2 : 0 ≤ (l + 65521 - 1) % 65521 ∧ (l + 65521 - 1) % 65521 ≤ 65520 := by omega
  exact ⟨Int.mul_nonneg h1.1 h2.1, Int.mul_le_mul h1.2 h2.2 h2.1 (by omega)⟩
theorem jN_is (xs ys : List Int) : wN (jL (aL 1 xs) (aL 1 ys)) (jH (aL 1 xs) (aH 1 0 xs) (aH 1 0 ys) (ys.length : Int)) = sumN (xs ++ ys) := by
  rw [jL_is, jH_is]
  rfl

/-- Zeros. -/
theorem sS_zeros (n : Nat) : sS (List.replicate n 0) = 0 := by
  induction n with
  | zero => rfl
  | succ n ih => simp [List.replicate_succ, sS, ih]
theorem byt_zeros (n : Nat) : Byt (List.replicate n 0) := fun x h => by
  have := List.eq_of_mem_replicate h
  omega
theorem aL_zeros {l : Int} (n : Nat) (h0 : 0 ≤ l) (h1 : l ≤ 65520) : aL l (List.replicate n 0) = l := by
  unfold aL rL
  rw [sS_zeros]
  omega

/-- One byte is another one. -/
theorem split_at (b : List Int) (k : Nat) (h : k < b.length) : b = b.take k ++ ([b[k]] ++ b.drop (k + 1)) := by
  rw [List.singleton_append, List.getElem_cons_drop, List.take_append_drop]
theorem set_at (b : List Int) (k : Nat) (c : Int) (h : k < b.length) : b.set k c = b.take k ++ ([c] ++ b.drop (k + 1)) := by
  rw [List.set_eq_take_append_cons_drop, if_pos h]
  rfl
theorem changed_iff {b : List Int} {k : Nat} {c : Int} (hb : Byt b) (hk : k < b.length) (c0 : 0 ≤ c) (c1 : c ≤ 255) : sumN (b.set k c) = sumN b ↔ c = b[k] := by
  constructor
  · intro h
    have h1 := (sumN_eq.1 h).1
    have h2 := hb.get k hk
    rw [set_at b k c hk] at h1
    conv at h1 => rhs; rw [split_at b k hk]
    unfold aL rL at h1
    simp only [sS_app, sS_one] at h1
    omega
  · intro h
    subst h
    rw [List.set_getElem_self]
theorem split_two (b : List Int) (k : Nat) (h : k + 1 < b.length) : b = b.take k ++ ([b[k], b[k + 1]] ++ b.drop (k + 2)) := by
  have h1 := split_at b k (by omega)
  have h2 : b.drop (k + 1) = b[k + 1] :: b.drop (k + 2) := List.drop_eq_getElem_cons h
  conv => lhs; rw [h1, h2]
  rfl
theorem set_two (b : List Int) (k : Nat) (h : k + 1 < b.length) : (b.set k b[k + 1]).set (k + 1) b[k] = b.take k ++ ([b[k + 1], b[k]] ++ b.drop (k + 2)) := by
  apply List.ext_getElem
  · simp; omega
  · intro i h1 h2
    simp at h1
    rw [List.getElem_set, List.getElem_set]
    rcases Nat.lt_trichotomy i k with hi | hi | hi
    · rw [if_neg (by omega), if_neg (by omega), List.getElem_append_left (by simp; omega)]
      simp
    · subst hi
      rw [if_neg (by omega), if_pos rfl, List.getElem_append_right (by simp; omega)]
      simp [Nat.min_eq_left (show i ≤ b.length by omega)]
    · rcases Nat.lt_or_ge i (k + 2) with hj | hj
      · obtain rfl : i = k + 1 := by omega
        rw [if_pos rfl, List.getElem_append_right (by simp; omega)]
        simp [Nat.min_eq_left (show k ≤ b.length by omega)]
      · rw [if_neg (by omega), if_neg (by omega), List.getElem_append_right (by simp; omega)]
        obtain ⟨d, rfl⟩ : ∃ d, i = k + 2 + d := ⟨i - (k + 2), by omega⟩
        simp [Nat.min_eq_left (show k ≤ b.length by omega), show k + 2 + d - k = d + 1 + 1 by omega]
theorem swapped_iff {b : List Int} {k : Nat} (hb : Byt b) (hk : k + 1 < b.length) : sumN ((b.set k b[k + 1]).set (k + 1) b[k]) = sumN b ↔ b[k] = b[k + 1] := by
  constructor
  · intro h
    have h1 := (sumN_eq.1 h).2
    have g1 := hb.get k (by omega)
    have g2 := hb.get (k + 1) hk
    rw [set_two b k hk] at h1
    conv at h1 => rhs; rw [split_two b k hk]
    unfold aH rH at h1
    simp only [sT_app, sT, sS, List.length_append, List.length_cons, List.length_nil, Int.mul_add, Int.natCast_add, Int.mul_zero] at h1
    generalize ((b.drop (k + 2)).length : Int) * b[k] = u at h1
    generalize ((b.drop (k + 2)).length : Int) * b[k + 1] = v at h1
    omega
  · intro h
    congr 1
    rw [set_two b k hk]
    conv => rhs; rw [split_two b k hk]
    rw [h]
theorem sumN_bd (xs : List Int) : 0 ≤ sumN xs ∧ sumN xs ≤ 4293984240 := by
  obtain ⟨a1, a2⟩ := aL_bd 1 xs
  obtain ⟨a3, a4⟩ := aH_bd 1 0 xs
  exact wN_bd a1 a2 a3 a4
end Go.Proofs.YtljpkngbhdplbaaDoor

/-
  slices.Sort of 32-bit numbers, no two the same: of a row, and of none.
-/
import Derived.Test.YtajccmkdfmpapaaGreatDoorSoI
namespace Go.Proofs.YtajccmkdfmpapaaGreatDoor
open Go.RowKit

theorem Pm.srt_list {n : Nat} {D E : Nat → Nat} (hp : Pm 0 n D E) (hs : Srt 0 n E) (hi : Inj n D) : ((List.range n).map E).Pairwise (· < ·) ∧ ∀ x, x ∈ (List.range n).map E ↔ x ∈ (List.range n).map D := by
  refine ⟨?_, fun x => ?_⟩
  · have hE := hp.inj (Nat.le_refl _) hi
    have : ∀ m, m ≤ n → ((List.range m).map E).Pairwise (· < ·) := fun m => by
      induction m with
      | zero => intro _; simp
      | succ m ih =>
        intro hm
        rw [List.range_succ, List.map_append]
        refine List.pairwise_append.2 ⟨ih (by omega), by simp, fun x hx y hy => ?_⟩
        simp only [List.mem_map, List.mem_range, List.map_cons, List.map_nil, List.mem_singleton] at hx hy
        obtain ⟨i, hi2, rfl⟩ := hx
        subst hy
        have h1 := hs i m (Nat.zero_le _) hi2 (by omega)
        have h2 : E i ≠ E m := fun e => by
          have := hE i m (by omega) (by omega) e
          omega
        omega
    exact this n (Nat.le_refl _)
  · simp only [List.mem_map, List.mem_range]
    constructor
    · rintro ⟨i, hi2, rfl⟩
      obtain ⟨j, hj, e⟩ := hp.src (i := i) ⟨Nat.zero_le _, hi2⟩
      exact ⟨j, hj.2, e.symm⟩
    · rintro ⟨i, hi2, rfl⟩
      obtain ⟨j, hj, e⟩ := hp.symm.src (i := i) ⟨Nat.zero_le _, hi2⟩
      exact ⟨j, hj.2, e.symm⟩
theorem asc_eq : ∀ {xs ys : List Nat}, xs.Pairwise (· < ·) → ys.Pairwise (· < ·) → (∀ x, x ∈ xs ↔ x ∈ ys) → xs = ys
  | [], [], _, _, _ => rfl
  | [], y :: ys, _, _, h => by have := (h y).2 (by simp); simp at this
  | x :: xs, [], _, _, h => by have := (h x).1 (by simp); simp at this
  | x :: xs, y :: ys, hx, hy, h => by
    have h1 := List.pairwise_cons.1 hx
    have h2 := List.pairwise_cons.1 hy
    have e : x = y := by
      rcases List.mem_cons.1 ((h x).1 (by simp)) with e | e
      · exact e
      · rcases List.mem_cons.1 ((h y).2 (by simp)) with e2 | e2
        · exact e2.symm
        · have := h2.1 x e
          have := h1.1 y e2
          omega
    subst e
    rw [asc_eq h1.2 h2.2 (fun z => ?_)]
    constructor
    · intro hz
      rcases List.mem_cons.1 ((h z).1 (by simp [hz])) with e | e
      · have := h1.1 z hz
        omega
      · exact e
    · intro hz
      rcases List.mem_cons.1 ((h z).2 (by simp [hz])) with e | e
      · have := h2.1 z hz
        omega
      · exact e
theorem soIns_nil (w : World) : Calls Tryz.prog 84 #[.slice none 0 0, .int .i64 0, .int .i64 0] w (fun r w' => r = .returned (.tuple #[]) ∧ w = w') := by
  go_enter Tryz.func84, Tryz.ntmps84
  go_wp2_with fail
  go_loopg [6] 1 (fun q x wr => x = .int .i64 1 ∧ wr = w)
  case atStart => exact ⟨rfl, rfl⟩
  case round =>
    obtain ⟨rfl, rfl⟩ := hrel
    go_wp2_with fail
    go_end0
    exact ⟨rfl, rfl⟩
set_option maxRecDepth 100000 in
set_option maxHeartbeats 1000000 in
theorem soPdq_nil (w : World) : Calls Tryz.prog 81 #[.slice none 0 0, .int .i64 0, .int .i64 0, .int .i64 0] w (fun r w' => r = .returned (.tuple #[]) ∧ w = w') := by
  go_enter Tryz.func81, Tryz.ntmps81
  go_wp2_with fail
  go_loopg [1, 2, 3, 8, 9] 1 (fun q x1 x2 x3 x8 x9 wr => x1 = .int .i64 0 ∧ x2 = .int .i64 0 ∧ x3 = .int .i64 0 ∧ x8 = .bool true ∧ x9 = .bool true ∧ wr = w)
  case atStart => exact ⟨rfl, rfl, rfl, rfl, rfl, rfl⟩
  case round =>
    obtain ⟨rfl, rfl, rfl, rfl, rfl, rfl⟩ := hrel
    go_wp2_with fail
    refine (soIns_nil _).mono ?_
    rintro r w' ⟨rfl, rfl⟩
    go_wp2_with fail
    try simp only [Exit.inBlock, Exit.then]
    refine bodyPost_ret (results_none rfl _ _ _) rfl ?_
    exact ⟨rfl, rfl⟩
theorem soSort_nil (w : World) : Calls Tryz.prog 76 #[.slice none 0 0] w (fun r w' => r = .returned (.tuple #[]) ∧ w = w') := by
  have HL := Lib.hid (soLen_at 0 (by omega) w)
  rw [show ((Lib.bitLen 0 : Nat) : Int) = 0 by decide] at HL
  go_enter Tryz.func76, Tryz.ntmps76
  go_wp2_with fail
  refine HL.out.mono ?_
  rintro r w' ⟨rfl, rfl⟩
  go_wp2_with fail
  refine (soPdq_nil _).mono ?_
  rintro r w' ⟨rfl, rfl⟩
  go_wp2_with fail
  go_end0
  exact ⟨rfl, rfl⟩
theorem soSort_at (g n C cap : Nat) (D : Nat → Nat) (w : World) (h : Ar w g n C D) (hn : n ≤ 100000) (hc : n ≤ cap) (hi : Inj n D) : Calls Tryz.prog 76 #[.slice (some ⟨g, 0, none⟩) n cap] w (fun r w' => r = .returned (.tuple #[]) ∧ SoTo g n C 0 n D (Srt 0 n) w w') := by
  have HL := Lib.hid (soLen_at n (by omega) w)
  have hl : Lib.bitLen n ≤ 100 := by
    by_cases h0 : n = 0
    · subst h0
      decide
    · have hb := (len_bounds n (by omega) (by omega)).2
      apply Classical.byContradiction
      intro hx
      have h1 : (2 : Nat) ^ 65 ≤ 2 ^ Lib.bitLen n := Nat.pow_le_pow_right (by omega) (by omega)
      omega
  obtain ⟨l, hl2⟩ : ∃ l, Lib.bitLen n = l := ⟨_, rfl⟩
  rw [hl2] at HL hl
  have HP := Lib.hid (soPdq_at g n C cap hn hc n 0 n l D w (by omega) h (by omega) (Nat.le_refl _) hl (.inl rfl) hi)
  have wn : IntKind.u64.wrap (n : Int) = (n : Int) := by rw [IntKind.wrap_u64]; omega
  clear h hl2
  go_enter Tryz.func76, Tryz.ntmps76
  go_wp2_with fail
  refine HL.out.mono ?_
  rintro r w' ⟨rfl, rfl⟩
  go_wp2_with fail
  refine HP.out.mono ?_
  rintro r w' ⟨rfl, hs⟩
  have HS := Lib.hid hs
  clear hs
  go_wp2_with fail
  go_end0
  exact ⟨rfl, HS.out⟩
end Go.Proofs.YtajccmkdfmpapaaGreatDoor

/-
  Plain mathematics of package geo: tables, room, the bound, which geometry may be, addresses.
  Plain mathematics of checkpoints: their numbers, their bytes, their blocks; what blocks are of.
  What geo's functions of numbers answer, geo.near and Right; the document's Tables, Bound and Right. For a later stage's seat (GeoA, B, C without geo.Log, upon MemB).
  The document's small functions of checkpoints: four, back, Right, Many, Numbers, Same.
-/
import Derived.Below
import Derived.Test.YthmpimjmajoimaaGreatDoorSw01
import Derived.Test.YthmpimjmajoimaaGreatDoorSw03
import Derived.Test.YthmpimjmajoimaaGreatDoorSw02
import Derived.Deep.RegionHeld3
import Derived.Deep.QuietTactic
import Derived.BigQuiet
import Derived.Laws.StructEq
import Derived.BigRegion
namespace Go.Proofs.YthmpimjmajoimaaGreatDoor

/-- How many map pages tell n blocks. -/
def tab (n : Int) : Int := if n ≤ 0 then 0 else (n - 1) / 4 + 1
def roomB (z p n : Int) : Bool := decide (tab n ≤ p ∧ 2 * (n + tab n) ≤ (z - 7) * p)
/-- The greatest number up to k that has room, or 0. -/
def bndN (z p : Int) : Nat → Int
  | 0 => 0
  | k + 1 => if roomB z p ((k : Int) + 1) then (k : Int) + 1 else bndN z p k
def insB (z p : Int) : Bool := decide (11 ≤ z ∧ z ≤ 24 ∧ 4 ≤ p ∧ p ≤ 16)
def bnd (z p : Int) : Int := if insB z p then bndN z p 64 else 0
def rightB (z p b : Int) : Bool := decide (1 ≤ b ∧ b ≤ bnd z p)

theorem tab_pos {n : Int} (h : 1 ≤ n) : tab n = (n - 1) / 4 + 1 := by unfold tab; rw [if_neg (by omega)]
theorem tab_zero {n : Int} (h : n ≤ 0) : tab n = 0 := by unfold tab; rw [if_pos h]
theorem tab_ref {n : Int} (h : 0 ≤ n) : tab n = n / 4 + (if 0 < n % 4 then 1 else 0) := by
  unfold tab
  by_cases h0 : n ≤ 0
  · obtain rfl : n = 0 := by omega
    rfl
  · rw [if_neg h0]
    split <;> omega
theorem tab_le {n : Int} (h : 1 ≤ n) (h2 : n ≤ 64) : 1 ≤ tab n ∧ tab n ≤ 16 := by rw [tab_pos h]; omega

theorem insB_iff {z p : Int} : insB z p = true ↔ 11 ≤ z ∧ z ≤ 24 ∧ 4 ≤ p ∧ p ≤ 16 := by unfold insB; simp
theorem bnd_in {z p : Int} (h : insB z p = true) : bnd z p = bndN z p 64 := by unfold bnd; rw [if_pos h]
theorem bnd_out {z p : Int} (h : insB z p = false) : bnd z p = 0 := by unfold bnd; rw [if_neg (by simp [h])]

theorem bndN_le (z p : Int) : ∀ k : Nat, 0 ≤ bndN z p k ∧ bndN z p k ≤ k
  | 0 => by simp [bndN]
  | k + 1 => by
    have := bndN_le z p k
    unfold bndN
    split <;> omega
theorem bndN_room (z p : Int) : ∀ k : Nat, 0 < bndN z p k → roomB z p (bndN z p k) = true
  | 0, h => by simp [bndN] at h
  | k + 1, h => by
    unfold bndN at h ⊢
    by_cases hr : roomB z p ((k : Int) + 1) = true
    · rw [if_pos hr]; exact hr
    · rw [if_neg hr] at h ⊢
      exact bndN_room z p k h
theorem le_bndN (z p : Int) : ∀ (k : Nat) (n : Int), 1 ≤ n → n ≤ k → roomB z p n = true → n ≤ bndN z p k
  | 0, n, h, h2, _ => by simp at h2; omega
  | k + 1, n, h, h2, hr => by
    unfold bndN
    by_cases he : roomB z p ((k : Int) + 1) = true
    · rw [if_pos he]; omega
    · rw [if_neg he]
      refine le_bndN z p k n h ?_ hr
      have : n ≠ (k : Int) + 1 := fun e => he (e ▸ hr)
      omega
/-- The zones but seven times pages, in a form that omega takes. -/
theorem zp_cases {z : Int} (h : 11 ≤ z) (h2 : z ≤ 25) : z = 11 ∨ z = 12 ∨ z = 13 ∨ z = 14 ∨ z = 15 ∨ z = 16 ∨ z = 17 ∨ z = 18 ∨ z = 19 ∨ z = 20 ∨ z = 21 ∨ z = 22 ∨ z = 23 ∨ z = 24 ∨ z = 25 := by omega
theorem zp_bd {z p : Int} (h : insB z p = true) : 16 ≤ (z - 7) * p ∧ (z - 7) * p ≤ 272 := by
  obtain ⟨h1, h2, h3, h4⟩ := insB_iff.1 h
  rcases zp_cases h1 (by omega) with e | e | e | e | e | e | e | e | e | e | e | e | e | e | e <;> subst e <;> omega
theorem bnd_bd (z p : Int) : 0 ≤ bnd z p ∧ bnd z p ≤ 64 := by
  unfold bnd
  split
  · have := bndN_le z p 64
    omega
  · omega
theorem bnd_pos {z p : Int} (h : insB z p = true) : 1 ≤ bnd z p := by
  rw [bnd_in h]
  refine le_bndN z p 64 1 (by omega) (by omega) ?_
  have := zp_bd h
  obtain ⟨_, _, h3, _⟩ := insB_iff.1 h
  unfold roomB
  have ht : tab 1 = 1 := rfl
  rw [ht]
  simp
  omega
theorem bnd_room {z p : Int} (h : 0 < bnd z p) : insB z p = true ∧ tab (bnd z p) ≤ p ∧ 2 * (bnd z p + tab (bnd z p)) ≤ (z - 7) * p := by
  by_cases hi : insB z p = true
  · refine ⟨hi, ?_⟩
    rw [bnd_in hi] at h ⊢
    have := bndN_room z p 64 h
    unfold roomB at this
    simpa using this
  · rw [bnd_out (by simpa using hi)] at h
    omega
theorem right_in {z p b : Int} (h : rightB z p b = true) : insB z p = true ∧ 1 ≤ b ∧ b ≤ bnd z p := by
  unfold rightB at h
  simp at h
  exact ⟨(bnd_room (by omega)).1, h⟩

/-- The nearest number of zones, of pages, of blocks that may be. -/
def nearZ (z : Int) : Int := min (max z 11) 24
def nearP (p : Int) : Int := min (max p 4) 16
theorem near_ins (z p : Int) : insB (nearZ z) (nearP p) = true := insB_iff.2 (by unfold nearZ nearP; omega)
theorem nearZ_in {z : Int} (h : 11 ≤ z ∧ z ≤ 24) : nearZ z = z := by unfold nearZ; omega
theorem nearP_in {p : Int} (h : 4 ≤ p ∧ p ≤ 16) : nearP p = p := by unfold nearP; omega
theorem nearZ_out {z : Int} (h : ¬ (11 ≤ z ∧ z ≤ 24)) : nearZ z ≠ z := by unfold nearZ; omega
theorem nearP_out {p : Int} (h : ¬ (4 ≤ p ∧ p ≤ 16)) : nearP p ≠ p := by unfold nearP; omega
def nearB (z p b : Int) : Int := min (max b 1) (bnd (nearZ z) (nearP p))
theorem near_eq (z p b : Int) : (decide (z = nearZ z) && decide (p = nearP p) && decide (b = nearB z p b)) = rightB z p b := by
  rw [Bool.eq_iff_iff]
  simp only [Bool.and_eq_true, decide_eq_true_eq]
  constructor
  · rintro ⟨⟨h1, h2⟩, h3⟩
    unfold nearB at h3
    rw [← h1, ← h2] at h3
    have hi := near_ins z p
    rw [← h1, ← h2] at hi
    have := bnd_pos hi
    unfold rightB
    simp
    omega
  · intro h
    obtain ⟨hi, h1, h2⟩ := right_in h
    have hi' := insB_iff.1 hi
    have e1 : nearZ z = z := nearZ_in (by omega)
    have e2 : nearP p = p := nearP_in (by omega)
    refine ⟨⟨e1.symm, e2.symm⟩, ?_⟩
    unfold nearB
    rw [e1, e2]
    omega

end Go.Proofs.YthmpimjmajoimaaGreatDoor
namespace Go.Proofs.YthmpimjmajoimaaGreatDoor

/-- The bytes of numbers. -/
def flatM (ns : List Int) : List Int := ns.flatMap four
theorem flatM_len (ns : List Int) : (flatM ns).length = 4 * ns.length := by
  induction ns with
  | nil => rfl
  | cons n ns ih =>
    have : flatM (n :: ns) = four n ++ flatM ns := rfl
    rw [this, List.length_append, ih, four_len, List.length_cons]
    omega
/-- How many blocks a checkpoint of so many blocks has. -/
def manyC (b : Int) : Int := (4 * (7 + tab b) + 15) / 16
def rightC (z p b : Int) (n : Nat) : Bool := rightB z p b && decide ((n : Int) = tab b)
/-- A checkpoint's bytes ahead of the sum; all of them, with 0 behind. -/
def numsC (nu se sq z p b : Int) (dir : List Int) : List Int := nu :: se :: sq :: z :: p :: b :: dir
def bodyC (nu se sq z p b : Int) (dir : List Int) : List Int := flatM (numsC nu se sq z p b dir)
def padB (xs : List Int) : List Int := xs ++ List.replicate ((16 - xs.length % 16) % 16) 0
def encC (nu se sq z p b : Int) (dir : List Int) : List Int := padB (bodyC nu se sq z p b dir ++ four (sumN (bodyC nu se sq z p b dir)))
/-- Sixteen by one. -/
def chunks : Nat → List Int → List (List Int)
  | 0, _ => []
  | k + 1, xs => xs.take 16 :: chunks k (xs.drop 16)
def blocksC (nu se sq z p b : Int) (dir : List Int) : List (List Int) := chunks ((encC nu se sq z p b dir).length / 16) (encC nu se sq z p b dir)
theorem bodyC_len (nu se sq z p b : Int) (dir : List Int) : (bodyC nu se sq z p b dir).length = 24 + 4 * dir.length := by
  unfold bodyC
  rw [flatM_len]
  simp [numsC]
  omega
theorem padB_len (xs : List Int) : (padB xs).length % 16 = 0 ∧ (padB xs).length = (xs.length + 15) / 16 * 16 := by
  simp [padB]
  omega
theorem chunks_len (k : Nat) (xs : List Int) : (chunks k xs).length = k := by
  induction k generalizing xs with
  | zero => rfl
  | succ k ih => simp [chunks, ih]
theorem chunks_get {k : Nat} {xs : List Int} {i : Nat} (h : i < k) : (chunks k xs)[i]'(by rw [chunks_len]; exact h) = (xs.drop (16 * i)).take 16 := by
  induction k generalizing xs i with
  | zero => omega
  | succ k ih =>
    cases i with
    | zero => simp [chunks]
    | succ i =>
      have := ih (xs := xs.drop 16) (i := i) (by omega)
      simp only [chunks, List.getElem_cons_succ]
      rw [this, List.drop_drop]
      congr 2
      omega
theorem chunks_flat {k : Nat} {xs : List Int} (h : xs.length = 16 * k) : (chunks k xs).flatten = xs := by
  induction k generalizing xs with
  | zero =>
    have : xs = [] := List.eq_nil_of_length_eq_zero (by omega)
    rw [this]; rfl
  | succ k ih =>
    simp only [chunks, List.flatten_cons]
    rw [ih (by simp; omega), List.take_append_drop]
/-- What blocks are of: the geometry's numbers, an error's code, the numbers. -/
def numAt (all : List Int) (i : Nat) : Int := bk all (4 * i)
def readGE (l : List (List Int)) : Int :=
  if (decide (2 ≤ l.length) && l.all fun b => decide (b.length = 16)) = false then 3
  else if rightB (numAt l.flatten 3) (numAt l.flatten 4) (numAt l.flatten 5) = false then 2
  else if (l.length : Int) ≠ manyC (numAt l.flatten 5) then 3
  else if sumN (l.flatten.take (24 + 4 * (tab (numAt l.flatten 5)).toNat)) ≠ numAt l.flatten (6 + (tab (numAt l.flatten 5)).toNat) then 4
  else if ((l.flatten.drop (28 + 4 * (tab (numAt l.flatten 5)).toNat)).all fun x => decide (x = 0)) = false then 2 else 0
def readDir (l : List (List Int)) : List Int := (List.range (tab (numAt l.flatten 5)).toNat).map fun i => numAt l.flatten (6 + i)
end Go.Proofs.YthmpimjmajoimaaGreatDoor
namespace Go.Proofs.YthmpimjmajoimaaGreatDoor
open Go.RowKit


theorem table_is (n : Int) (w : World) (h : 0 ≤ n) (h2 : n ≤ 9223372036854775807) : Calls Tryz.prog 63 #[.int .i64 n] w fun r w' => r = .returned (.tuple #[.int .i64 (n / 4), .int .i64 (n % 4)]) ∧ w = w' := by
  go_enter Tryz.func63, Tryz.ntmps63
  go_wp2
  go_ret2
  exact ⟨rfl, rfl⟩

theorem tables_is (n : Int) (w : World) (h2 : n ≤ 9223372036854775807) : Calls Tryz.prog 29 #[.int .i64 n] w (IntIs (tab n) w) := by
  by_cases h : n ≤ 0
  · have HT := Lib.hid (tab_zero h)
    go_enter Tryz.func29, Tryz.ntmps29
    go_wp2
    go_ret
    exact ⟨ret_int HT.out.symm, rfl⟩
  · have h1 : 1 ≤ n := by omega
    have HT := Lib.hid (tab_pos h1)
    go_enter Tryz.func29, Tryz.ntmps29
    go_wp2_with fail
    refine (table_is _ _ (by omega) (by omega)).mono ?_
    rintro r w' ⟨rfl, rfl⟩
    go_wp2_with fail
    go_ret
    exact ⟨ret_int HT.out.symm, rfl⟩

theorem nearZ_is (n : Int) (w : World) : Calls Tryz.prog 119 #[.int .i64 n] w (IntIs (nearZ n) w) := by
  go_enter Tryz.func119, Tryz.ntmps119
  go_wp2
  all_goals (go_ret; exact ⟨ret_int (by unfold nearZ; omega), rfl⟩)
theorem nearP_is (n : Int) (w : World) : Calls Tryz.prog 120 #[.int .i64 n] w (IntIs (nearP n) w) := by
  go_enter Tryz.func120, Tryz.ntmps120
  go_wp2
  all_goals (go_ret; exact ⟨ret_int (by unfold nearP; omega), rfl⟩)

theorem room_is (z p n : Int) (w : World) (hi : insB z p = true) (h1 : 1 ≤ n) (h2 : n ≤ 64) : Calls Tryz.prog 135 #[.int .i64 z, .int .i64 p, .int .i64 n] w (BoolIs (roomB z p n) w) := by
  have hb := zp_bd hi
  have ht := tab_le h1 h2
  obtain ⟨g1, g2, g3, g4⟩ := insB_iff.1 hi
  clear hi
  obtain ⟨hb1, hb2⟩ := hb
  obtain ⟨ht1, ht2⟩ := ht
  have HR : Hid (roomB z p n = (decide (tab n ≤ p) && decide (n + tab n ≤ (z - 7) * p / 2))) := by
    refine Lib.hid ?_
    rw [Bool.eq_iff_iff]
    unfold roomB
    simp
    omega
  by_cases hc : tab n ≤ p
  · have hd : decide (tab n ≤ p) = true := by simpa using hc
    go_enter Tryz.func135, Tryz.ntmps135
    go_wp2_with fail
    refine (tables_is _ _ (by omega)).mono ?_
    rintro r w' ⟨rfl, rfl⟩
    go_wp2_with fail
    go_ret
    exact ⟨ret_bool (by rw [HR.out, hd]; simp), rfl⟩
  · have hd : decide (tab n ≤ p) = false := by simpa using hc
    go_enter Tryz.func135, Tryz.ntmps135
    go_wp2_with fail
    refine (tables_is _ _ (by omega)).mono ?_
    rintro r w' ⟨rfl, rfl⟩
    go_wp2_with fail
    go_ret
    exact ⟨ret_bool (by rw [HR.out, hd]; simp), rfl⟩
theorem bndN_step {z p : Int} {k : Nat} (hk : k < 64) (h : roomB z p (64 - (k : Int)) = false) (e : bndN z p 64 = bndN z p (64 - k)) : bndN z p 64 = bndN z p (64 - (k + 1)) := by
  obtain ⟨m, hm⟩ : ∃ m : Nat, 64 - k = m + 1 := ⟨63 - k, by omega⟩
  have e1 : (64 : Int) - (k : Int) = (m : Int) + 1 := by omega
  rw [e, hm, show 64 - (k + 1) = m by omega]
  rw [e1] at h
  conv => lhs; unfold bndN
  rw [if_neg (by simp [h])]
theorem bndN_here {z p : Int} {k : Nat} (hk : k < 64) (h : roomB z p (64 - (k : Int)) = true) (e : bndN z p 64 = bndN z p (64 - k)) : bndN z p 64 = 64 - (k : Int) := by
  obtain ⟨m, hm⟩ : ∃ m : Nat, 64 - k = m + 1 := ⟨63 - k, by omega⟩
  have e1 : (64 : Int) - (k : Int) = (m : Int) + 1 := by omega
  rw [e, hm, e1]
  rw [e1] at h
  conv => lhs; unfold bndN
  rw [if_pos h]

theorem bound_out (z p : Int) (w : World) (hi : insB z p = false) : Calls Tryz.prog 121 #[.int .i64 z, .int .i64 p] w (IntIs (bnd z p) w) := by
  rw [bnd_out hi]
  by_cases hz : 11 ≤ z ∧ z ≤ 24
  · have hp : ¬ (4 ≤ p ∧ p ≤ 16) := fun h => by
      have := insB_iff.2 (show 11 ≤ z ∧ z ≤ 24 ∧ 4 ≤ p ∧ p ≤ 16 by omega)
      rw [this] at hi
      cases hi
    have e1 : (z != nearZ z) = false := by simp [nearZ_in hz]
    have e2 : (p != nearP p) = true := by simpa using (nearP_out hp).symm
    clear hz hp hi
    go_enter Tryz.func121, Tryz.ntmps121
    go_wp2_with fail
    refine (nearZ_is _ _).mono ?_
    rintro r w' ⟨rfl, rfl⟩
    go_wp2_with fail
    refine (nearP_is _ _).mono ?_
    rintro r w' ⟨rfl, rfl⟩
    go_wp2_with fail
    go_ret
    exact ⟨rfl, rfl⟩
  · have e1 : (z != nearZ z) = true := by simpa using (nearZ_out hz).symm
    clear hz hi
    go_enter Tryz.func121, Tryz.ntmps121
    go_wp2_with fail
    refine (nearZ_is _ _).mono ?_
    rintro r w' ⟨rfl, rfl⟩
    go_wp2_with fail
    go_ret
    exact ⟨rfl, rfl⟩

theorem bound_in (z p : Int) (w : World) (hi : insB z p = true) : Calls Tryz.prog 121 #[.int .i64 z, .int .i64 p] w (IntIs (bndN z p 64) w) := by
  have HI := Lib.hid hi
  have hh := insB_iff.1 hi
  have e1 : (z != nearZ z) = false := by simp [nearZ_in (z := z) (by omega)]
  have e2 : (p != nearP p) = false := by simp [nearP_in (p := p) (by omega)]
  clear hh hi
  go_enter Tryz.func121, Tryz.ntmps121
  go_wp2_with fail
  refine (nearZ_is _ _).mono ?_
  rintro r w' ⟨rfl, rfl⟩
  go_wp2_with fail
  refine (nearP_is _ _).mono ?_
  rintro r w' ⟨rfl, rfl⟩
  go_wp2_with fail
  clear e1 e2
  go_loop [17] (fun i => ∃ k : Nat, k ≤ 64 ∧ i = .int .i64 k ∧ bndN z p 64 = bndN z p (64 - k)) (fun i => 64 - (intOf i).toNat)
  case atStart => exact ⟨0, by omega, rfl, rfl⟩
  case round =>
    obtain ⟨k, hk, rfl, he⟩ := hrel
    have HE := Lib.hid he
    clear he
    by_cases hlt : k < 64
    · by_cases hr : roomB z p (64 - (k : Int)) = true
      · have HN := Lib.hid (bndN_here hlt hr HE.out)
        go_wp2_with fail
        refine (room_is _ _ _ _ HI.out (by omega) (by omega)).mono ?_
        rintro r w' ⟨rfl, rfl⟩
        go_wp2_with fail
        go_ret
        exact ⟨ret_int HN.out.symm, rfl⟩
      · have hr' : roomB z p (64 - (k : Int)) = false := by simpa using hr
        have HN := Lib.hid (bndN_step hlt hr' HE.out)
        clear hr
        go_wp2_with fail
        refine (room_is _ _ _ _ HI.out (by omega) (by omega)).mono ?_
        rintro r w' ⟨rfl, rfl⟩
        go_wp2_with fail
        go_round
        case rel => exact ⟨k + 1, by omega, by go_num, HN.out⟩
        case measure => simp [intOf]; omega
    · go_wp2_with fail
      go_ret
      exact ⟨ret_int (by rw [HE.out, show 64 - k = 0 by omega]; rfl), rfl⟩
theorem bound_is (z p : Int) (w : World) : Calls Tryz.prog 121 #[.int .i64 z, .int .i64 p] w (IntIs (bnd z p) w) := by
  by_cases hi : insB z p = true
  · rw [bnd_in hi]
    exact bound_in z p w hi
  · exact bound_out z p w (by simpa using hi)


theorem below_drewN {B : Nat} {a w : World} (h : Below B a w) (n : Nat) : Below B a (w.drewN n) := ⟨h.os, h.tape, h.output, h.size, h.block⟩

theorem rtables_is (n : Int) (w : World) (h : 0 ≤ n) (h2 : n ≤ 9223372036854775807) : Calls Tryz.prog 94 #[.int .i64 n] w (IntIs (tab n) w) := by
  have HT := Lib.hid (tab_ref h)
  go_enter Tryz.func94, Tryz.ntmps94
  go_wp2
  all_goals (go_ret; exact ⟨ret_int (by rw [HT.out]; split <;> omega), rfl⟩)

theorem rbound_out (z p : Int) (w : World) (hi : insB z p = false) : Calls Tryz.prog 62 #[.int .i64 z, .int .i64 p] w (IntIs (bnd z p) w) := by
  rw [bnd_out hi]
  have ho : ¬ (11 ≤ z ∧ z ≤ 24 ∧ 4 ≤ p ∧ p ≤ 16) := fun h => by
    have := insB_iff.2 h
    rw [this] at hi
    cases hi
  clear hi
  by_cases h1 : z < 11
  · clear ho
    go_enter Tryz.func62, Tryz.ntmps62
    go_wp2_with fail
    go_ret
    exact ⟨rfl, rfl⟩
  · by_cases h2 : 24 < z
    · clear ho
      go_enter Tryz.func62, Tryz.ntmps62
      go_wp2_with fail
      go_ret
      exact ⟨rfl, rfl⟩
    · by_cases h3 : p < 4
      · clear ho
        go_enter Tryz.func62, Tryz.ntmps62
        go_wp2_with fail
        go_ret
        exact ⟨rfl, rfl⟩
      · have h4 : 16 < p := by omega
        clear ho
        go_enter Tryz.func62, Tryz.ntmps62
        go_wp2_with fail
        go_ret
        exact ⟨rfl, rfl⟩

theorem bndN_up {z p : Int} {k : Nat} (h : roomB z p ((k : Int) + 1) = true) : bndN z p (k + 1) = (k : Int) + 1 := by
  unfold bndN
  rw [if_pos h]
theorem bndN_stay {z p : Int} {k : Nat} (h : roomB z p ((k : Int) + 1) = false) : bndN z p (k + 1) = bndN z p k := by
  conv => lhs; unfold bndN
  rw [if_neg (by simp [h])]
theorem roomB_parts (z p n : Int) : roomB z p n = (decide (tab n ≤ p) && decide (2 * (n + tab n) ≤ (z - 7) * p)) := by
  unfold roomB
  rw [Bool.eq_iff_iff]
  simp

set_option maxHeartbeats 1000000 in
theorem rbound_in (z p : Int) (w : World) (hi : insB z p = true) : Calls Tryz.prog 62 #[.int .i64 z, .int .i64 p] w (IntIs (bndN z p 64) w) := by
  obtain ⟨g1, g2, g3, g4⟩ := insB_iff.1 hi
  obtain ⟨hb1, hb2⟩ := zp_bd hi
  clear hi
  go_enter Tryz.func62, Tryz.ntmps62
  go_wp2_with fail
  go_loop [5, 6] (fun m i => ∃ k : Nat, k ≤ 64 ∧ i = .int .i64 ((k : Int) + 1) ∧ m = .int .i64 (bndN z p k)) (fun _ i => 66 - (intOf i).toNat)
  case atStart => exact ⟨0, by omega, rfl, rfl⟩
  case round =>
    obtain ⟨k, hk, rfl, rfl⟩ := hrel
    by_cases hlt : k < 64
    · have ht := tab_le (n := (k : Int) + 1) (by omega) (by omega)
      obtain ⟨ht1, ht2⟩ := ht
      by_cases hc : tab ((k : Int) + 1) ≤ p
      · by_cases hd : 2 * (((k : Int) + 1) + tab ((k : Int) + 1)) ≤ (z - 7) * p
        · have HN : Hid (bndN z p (k + 1) = (k : Int) + 1) := Lib.hid (bndN_up (by rw [roomB_parts]; simp; exact ⟨hc, hd⟩))
          go_wp2_with (go_at_call 94; (with_reducible refine (rtables_is _ _ ?_ ?_).mono ?_); omega; omega; rintro r w' ⟨rfl, rfl⟩)
          go_round
          case rel => exact ⟨k + 1, by omega, by go_num, by rw [HN.out]⟩
          case measure => simp [intOf]; omega
        · have hd' : decide (2 * (((k : Int) + 1) + tab ((k : Int) + 1)) ≤ (z - 7) * p) = false := by simpa using hd
          have HN : Hid (bndN z p (k + 1) = bndN z p k) := Lib.hid (bndN_stay (by rw [roomB_parts, hd']; simp))
          go_wp2_with (go_at_call 94; (with_reducible refine (rtables_is _ _ ?_ ?_).mono ?_); omega; omega; rintro r w' ⟨rfl, rfl⟩)
          go_round
          case rel => exact ⟨k + 1, by omega, by go_num, by rw [HN.out]⟩
          case measure => simp [intOf]; omega
      · have hd' : decide (tab ((k : Int) + 1) ≤ p) = false := by simpa using hc
        have HN : Hid (bndN z p (k + 1) = bndN z p k) := Lib.hid (bndN_stay (by rw [roomB_parts, hd']; simp))
        go_wp2_with (go_at_call 94; (with_reducible refine (rtables_is _ _ ?_ ?_).mono ?_); omega; omega; rintro r w' ⟨rfl, rfl⟩)
        go_round
        case rel => exact ⟨k + 1, by omega, by go_num, by rw [HN.out]⟩
        case measure => simp [intOf]; omega
    · obtain rfl : k = 64 := by omega
      go_wp2_with fail
      go_ret
      exact ⟨rfl, rfl⟩
theorem rbound_is (z p : Int) (w : World) : Calls Tryz.prog 62 #[.int .i64 z, .int .i64 p] w (IntIs (bnd z p) w) := by
  by_cases hi : insB z p = true
  · rw [bnd_in hi]
    exact rbound_in z p w hi
  · exact rbound_out z p w (by simpa using hi)



def NearIs (z p b : Int) (w : World) (r : Ending) (w' : World) : Prop := r = .returned (.agg #[.int .i64 (nearZ z), .int .i64 (nearP p), .int .i64 (nearB z p b)]) ∧ Below w.heap.size w w'

theorem nearB_lo {z p b : Int} (h : b < 1) : nearB z p b = 1 := by
  have := bnd_pos (near_ins z p)
  unfold nearB
  omega
theorem nearB_mid {z p b : Int} (h : 1 ≤ b) (h2 : b ≤ bnd (nearZ z) (nearP p)) : nearB z p b = b := by
  unfold nearB
  omega
theorem nearB_hi {z p b : Int} (h : bnd (nearZ z) (nearP p) < b) : nearB z p b = bnd (nearZ z) (nearP p) := by
  have := bnd_pos (near_ins z p)
  unfold nearB
  omega

set_option maxHeartbeats 1000000 in
theorem near_lo (z p b : Int) (w : World) (h : b < 1) : Calls Tryz.prog 101 #[.agg #[.int .i64 z, .int .i64 p, .int .i64 b]] w (NearIs z p b w) := by
  have hB := bnd_pos (near_ins z p)
  have HN := Lib.hid (nearB_lo (z := z) (p := p) h)
  go_enter Tryz.func101, Tryz.ntmps101
  go_wp2_with fail
  go_quiet (first | (go_at_call 119; exact Calls.quiet_of_same ((nearZ_is _ _).mono fun _ _ h => ⟨h.1, h.2.symm⟩)) | (go_at_call 120; exact Calls.quiet_of_same ((nearP_is _ _).mono fun _ _ h => ⟨h.1, h.2.symm⟩)))
  go_wp2_with fail
  go_quiet (first | (go_at_call 121; exact (bound_is _ _ _).mono fun _ _ h => ⟨h.1, _, h.2.symm⟩))
  go_wp2_with fail
  refine bodyPost_ret (v := .agg #[.int .i64 (nearZ z), .int .i64 (nearP p), .int .i64 1]) (by simp [results, Tryz.results101, go_sem]) rfl ⟨by rw [HN.out], ?_⟩
  exact (((below_drewN (((Below.refl _ _).alloc (Nat.le_refl _) _).alloc (by simp) _) _).setCell (by simp) _).setCell (by simp) _).setCell (by simp) _
set_option maxHeartbeats 1000000 in
theorem near_mid (z p b : Int) (w : World) (h : 1 ≤ b) (h2 : b ≤ bnd (nearZ z) (nearP p)) : Calls Tryz.prog 101 #[.agg #[.int .i64 z, .int .i64 p, .int .i64 b]] w (NearIs z p b w) := by
  have hB := bnd_pos (near_ins z p)
  have HN := Lib.hid (nearB_mid (z := z) (p := p) h h2)
  go_enter Tryz.func101, Tryz.ntmps101
  go_wp2_with fail
  go_quiet (first | (go_at_call 119; exact Calls.quiet_of_same ((nearZ_is _ _).mono fun _ _ h => ⟨h.1, h.2.symm⟩)) | (go_at_call 120; exact Calls.quiet_of_same ((nearP_is _ _).mono fun _ _ h => ⟨h.1, h.2.symm⟩)))
  go_wp2_with fail
  go_quiet (first | (go_at_call 121; exact (bound_is _ _ _).mono fun _ _ h => ⟨h.1, _, h.2.symm⟩))
  go_wp2_with fail
  refine bodyPost_ret (v := .agg #[.int .i64 (nearZ z), .int .i64 (nearP p), .int .i64 b]) (by simp [results, Tryz.results101, go_sem]) rfl ⟨by rw [HN.out], ?_⟩
  exact (((below_drewN (((Below.refl _ _).alloc (Nat.le_refl _) _).alloc (by simp) _) _).setCell (by simp) _).setCell (by simp) _).setCell (by simp) _
set_option maxHeartbeats 1000000 in
theorem near_hi (z p b : Int) (w : World) (h : bnd (nearZ z) (nearP p) < b) : Calls Tryz.prog 101 #[.agg #[.int .i64 z, .int .i64 p, .int .i64 b]] w (NearIs z p b w) := by
  have hB := bnd_pos (near_ins z p)
  have HN := Lib.hid (nearB_hi (z := z) (p := p) h)
  go_enter Tryz.func101, Tryz.ntmps101
  go_wp2_with fail
  go_quiet (first | (go_at_call 119; exact Calls.quiet_of_same ((nearZ_is _ _).mono fun _ _ h => ⟨h.1, h.2.symm⟩)) | (go_at_call 120; exact Calls.quiet_of_same ((nearP_is _ _).mono fun _ _ h => ⟨h.1, h.2.symm⟩)))
  go_wp2_with fail
  go_quiet (first | (go_at_call 121; exact (bound_is _ _ _).mono fun _ _ h => ⟨h.1, _, h.2.symm⟩))
  go_wp2_with fail
  refine bodyPost_ret (v := .agg #[.int .i64 (nearZ z), .int .i64 (nearP p), .int .i64 (bnd (nearZ z) (nearP p))]) (by simp [results, Tryz.results101, go_sem]) rfl ⟨by rw [HN.out], ?_⟩
  exact (((below_drewN (((Below.refl _ _).alloc (Nat.le_refl _) _).alloc (by simp) _) _).setCell (by simp) _).setCell (by simp) _).setCell (by simp) _
theorem near_is (z p b : Int) (w : World) : Calls Tryz.prog 101 #[.agg #[.int .i64 z, .int .i64 p, .int .i64 b]] w (NearIs z p b w) := by
  by_cases h : b < 1
  · exact near_lo z p b w h
  · by_cases h2 : b ≤ bnd (nearZ z) (nearP p)
    · exact near_mid z p b w (by omega) h2
    · exact near_hi z p b w (by omega)

theorem keep3 {w w' : World} {z p b : Int} (hb : Below (w.alloc (.cells #[.int .i64 z, .int .i64 p, .int .i64 b] 37)).drew.heap.size (w.alloc (.cells #[.int .i64 z, .int .i64 p, .int .i64 b] 37)).drew w') :
    w'.cell? ⟨w.heap.size, 0, none⟩ = some (.int .i64 z) ∧ w'.cell? ⟨w.heap.size, 1, none⟩ = some (.int .i64 p) ∧ w'.cell? ⟨w.heap.size, 2, none⟩ = some (.int .i64 b) :=
  ⟨(hb.cell (p := ⟨w.heap.size, 0, none⟩) (by simp [World.drew])).trans (by simp), (hb.cell (p := ⟨w.heap.size, 1, none⟩) (by simp [World.drew])).trans (by simp), (hb.cell (p := ⟨w.heap.size, 2, none⟩) (by simp [World.drew])).trans (by simp)⟩

theorem eq_geo (a b c x y z : Int) (w : World) : (Op.equalIn 10000 37 (.agg #[.int .i64 a, .int .i64 b, .int .i64 c]) (.agg #[.int .i64 x, .int .i64 y, .int .i64 z])).run Tryz.prog w = .ok (decide (a = x) && decide (b = y) && decide (c = z)) w := by
  have hS : Tryz.prog.underlying 37 = some (.struct (Tryz.prog.fieldsOf 37)) := by kernel_rfl
  have hp : Tryz.prog.stoodInHeld 37 = false := by kernel_rfl
  rw [show (10000 : Nat) = 9999 + 1 from rfl, run_equalIn_agg w 9999 37 _ _ hS hp]
  simp only [Program.fieldsOf, Tryz.underlying37]
  by_cases h1 : a = x <;> by_cases h2 : b = y <;> by_cases h3 : c = z <;> simp [Op.eqFields, go_sem, h1, h2, h3]

theorem guard_geo (x y : Operand) (xs ys : Array Value) (w : World) : (eqGuard .eql 37 x y (.agg xs) (.agg ys)).run Tryz.prog w = .ok () w := run_eqGuard_agg w .eql 37 x y xs ys (by kernel_rfl)
theorem eql_geo (a b c x y z : Int) (w : World) : (binOp .eql 37 (.agg #[.int .i64 a, .int .i64 b, .int .i64 c]) (.agg #[.int .i64 x, .int .i64 y, .int .i64 z])).run Tryz.prog w = .ok (.bool (decide (a = x) && decide (b = y) && decide (c = z))) w := by
  rw [run_eql_struct, eq_geo]
  rfl

set_option maxHeartbeats 1000000 in
set_option maxRecDepth 100000 in
theorem right_is (z p b : Int) (w : World) : Calls Tryz.prog 73 #[.agg #[.int .i64 z, .int .i64 p, .int .i64 b]] w (BoolB (rightB z p b) w) := by
  have HE := Lib.hid (near_eq z p b)
  have hg := fun (xs ys : Array Value) => guard_geo (.tmp 3) (.tmp 5) xs ys
  have he := eql_geo z p b (nearZ z) (nearP p) (nearB z p b)
  rw [near_eq] at he
  go_enter Tryz.func73, Tryz.ntmps73
  go_wp2_with fail
  go_region_held3 (fun w' => w'.cell? ⟨w.heap.size, 0, none⟩ = some (.int .i64 z) ∧ w'.cell? ⟨w.heap.size, 1, none⟩ = some (.int .i64 p) ∧ w'.cell? ⟨w.heap.size, 2, none⟩ = some (.int .i64 b))
      (first | exact K1.out | go_keep)
      (first | (go_at_call 101; (with_reducible refine (near_is _ _ _ _).mono ?_); rintro r w1 ⟨rfl, hb1⟩; have HB1 := Lib.hid hb1; clear hb1; have K1 := Lib.hid (keep3 HB1.out)))
  go_wp2_with fail
  go_ret
  exact ⟨rfl, below_all ((Below.refl _ _).alloc (Nat.le_refl _) _) (below_all ((Below.refl _ _).drew) HB1.out)⟩

theorem rright_lo (z p b : Int) (w : World) (h : ¬ 1 ≤ b) : Calls Tryz.prog 28 #[.agg #[.int .i64 z, .int .i64 p, .int .i64 b]] w (BoolB (rightB z p b) w) := by
  have HE : Hid (rightB z p b = false) := Lib.hid (by unfold rightB; simp; omega)
  have hd : decide (1 ≤ b) = false := by simpa using h
  go_enter Tryz.func28, Tryz.ntmps28
  go_wp2_with fail
  go_quiet (fail)
  go_wp2_with fail
  go_ret
  exact ⟨ret_bool HE.out.symm, below_drewN ((Below.refl _ _).alloc (Nat.le_refl _) _) _⟩
theorem rright_hi (z p b : Int) (w : World) (h : 1 ≤ b) : Calls Tryz.prog 28 #[.agg #[.int .i64 z, .int .i64 p, .int .i64 b]] w (BoolB (rightB z p b) w) := by
  have HE : Hid (rightB z p b = decide (b ≤ bnd z p)) := Lib.hid (by unfold rightB; rw [Bool.eq_iff_iff]; simp; omega)
  go_enter Tryz.func28, Tryz.ntmps28
  go_wp2_with fail
  go_quiet (first | (go_at_call 62; exact Calls.quiet_of_same ((rbound_is _ _ _).mono fun _ _ h => ⟨h.1, h.2.symm⟩)))
  go_wp2_with fail
  go_ret
  exact ⟨ret_bool HE.out.symm, below_drewN ((Below.refl _ _).alloc (Nat.le_refl _) _) _⟩
theorem rright_is (z p b : Int) (w : World) : Calls Tryz.prog 28 #[.agg #[.int .i64 z, .int .i64 p, .int .i64 b]] w (BoolB (rightB z p b) w) := by
  by_cases h : 1 ≤ b
  · exact rright_hi z p b w h
  · exact rright_lo z p b w h
end Go.Proofs.YthmpimjmajoimaaGreatDoor
namespace Go.Proofs.YthmpimjmajoimaaGreatDoor
open Go.RowKit

def Word (n : Int) : Prop := 0 ≤ n ∧ n ≤ 4294967295
def Words (ns : List Int) : Prop := ∀ n ∈ ns, Word n
/-- A number that an int may hold. -/
def Wide (n : Int) : Prop := -9223372036854775808 ≤ n ∧ n ≤ 9223372036854775807
def u32s (ns : List Int) : List Value := ns.map (Value.int .u32)
theorem u32s_len (ns : List Int) : (u32s ns).length = ns.length := by simp [u32s]
theorem u32s_get (ns : List Int) (i : Nat) (h : i < (u32s ns).length) : (u32s ns)[i] = .int .u32 (ns[i]'(by rw [u32s_len] at h; exact h)) := by simp [u32s]
/-- A checkpoint as a value; its cells. -/
abbrev kCellsq1 (nu se sq z p b : Int) (S : Value) : Array Value := #[.int .u32 nu, .int .u32 se, .int .u32 sq, .int .i64 z, .int .i64 p, .int .i64 b, S]
abbrev kV (nu se sq z p b : Int) (S : Value) : Value := .agg (kCellsq1 nu se sq z p b S)

/-- Four bytes of a number, in a new block. -/
def fourObj (n : Int) : Obj := .cells #[.int .u8 (n % 256), .int .u8 (n / 256 % 256), .int .u8 (n / 65536 % 256), .int .u8 (n / 16777216 % 256)] 5
def FourIs (n : Int) (w : World) (r : Ending) (w' : World) : Prop := r = .returned (.slice (some ⟨w.heap.size, 0, none⟩) 4 4) ∧ w' = w.alloc (fourObj n)
theorem four_is (n : Int) (w : World) (h : Word n) : Calls Tryz.prog 80 #[.int .u32 n] w (FourIs n w) := by
  obtain ⟨h0, h1⟩ := h
  have H1 : Hid (n / 16777216 % 256 = n / 16777216) := Lib.hid (by omega)
  go_enter Tryz.func80, Tryz.ntmps80
  go_wp2_with fail
  go_ret
  exact ⟨rfl, by unfold fourObj; rw [H1.out]⟩
theorem rd_four (n : Int) (w : World) : Rd (w.alloc (fourObj n)) (w.heap.size + 1) (some ⟨w.heap.size, 0, none⟩) (four n) := by
  intro _
  refine ⟨w.heap.size, 0, rfl, by omega, fun i hi => ?_⟩
  have hi' : i < 4 := hi
  rcases i with _ | _ | _ | _ | i
  all_goals first | omega | simp [four, fourObj]

set_option maxHeartbeats 1000000 in
set_option maxRecDepth 100000 in
theorem back_is {A : Option Addr} {xs : List Int} (i n c : Nat) {w : World} (hr : Rd w w.heap.size A xs) (hx : Byt xs) (hl : xs.length = n) (hi : 4 * i + 4 ≤ n) (hm : n ≤ 1000000) : Calls Tryz.prog 92 #[.slice A n c, .int .i64 (i : Int)] w (NumB (numAt xs i) w) := by
  obtain ⟨b, o, rfl, hlt, _⟩ := hr (by omega)
  obtain ⟨x0, x1, x2, x3, hn, b0, b1, b2, b3, c0, c1, c2, c3⟩ := rd_four_at (4 * i) hr hx (by omega)
  obtain ⟨t, ht⟩ : ∃ t : Nat, (4 : Int) * (i : Int) = (t : Int) := ⟨4 * i, by omega⟩
  have ht2 : 4 * i = t := by omega
  rw [ht2] at c0 c1 c2 c3
  have HN : Hid (numAt xs i = back4 x0 x1 x2 x3) := Lib.hid hn
  have hi' : t + 4 ≤ n := by omega
  clear hr hx hl hn ht2 hi
  have e1 : o + t + 1 = o + (t + 1) := by omega
  have e2 : o + t + 2 = o + (t + 2) := by omega
  have e3 : o + t + 3 = o + (t + 3) := by omega
  rw [e1] at c1
  rw [e2] at c2
  rw [e3] at c3
  clear e1 e2 e3
  go_enter Tryz.func92, Tryz.ntmps92
  go_wp2_with fail
  go_region
  go_wp2_with fail
  go_ret
  exact ⟨ret_u32 (by rw [HN.out]; unfold back4; omega), (Below.refl _ _).drew⟩

theorem rmany_is (n : Int) (w : World) (h : 0 ≤ n) (h2 : n ≤ 1000000) : Calls Tryz.prog 93 #[.int .i64 n] w (IntIs (manyC n) w) := by
  have ht : 0 ≤ tab n ∧ tab n ≤ 1000000 := by
    unfold tab
    split <;> omega
  go_enter Tryz.func93, Tryz.ntmps93
  go_wp2_with fail
  refine (rtables_is _ _ h (by omega)).mono ?_
  rintro r w' ⟨rfl, rfl⟩
  have HM : Hid (manyC n = (4 * (7 + tab n) + 15) / 16) := Lib.hid rfl
  generalize tab n = t at *
  go_wp2_with fail
  go_ret
  exact ⟨ret_int (by rw [HM.out]), rfl⟩
end Go.Proofs.YthmpimjmajoimaaGreatDoor

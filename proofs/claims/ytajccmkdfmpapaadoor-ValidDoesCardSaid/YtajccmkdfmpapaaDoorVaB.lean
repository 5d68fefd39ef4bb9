/-
  A set in memory: New, turn, Mark, Unmark, Live.
-/
import Derived.Test.YtajccmkdfmpapaaDoorVaA
import Derived.Test.YtajccmkdfmpapaaDoorPhase
import Derived.Test.YtajccmkdfmpapaaDoorHand
import Derived.Laws.MakeOwn
namespace Go.Proofs.YtajccmkdfmpapaaDoor
open Go.RowKit

/-- The zones' numbers as cells. -/
def zC (N : Nat → Nat) (m : Nat) : List Value := (List.range m).map (fun i => Value.int .u16 (N i : Int))
theorem zC_len (N : Nat → Nat) (m : Nat) : (zC N m).length = m := by simp [zC]
theorem zC_at (N : Nat → Nat) {m i : Nat} (h : i < m) : (zC N m)[i]? = some (.int .u16 (N i : Int)) := by
  unfold zC
  simp [h]
theorem zC_set (N : Nat → Nat) (m i x : Nat) : (zC N m).set i (.int .u16 (x : Int)) = zC (VaS.upN N i x) m := by
  refine List.ext_getElem (by simp [zC_len]) fun k h1 h2 => ?_
  simp only [List.getElem_set, zC, List.getElem_map, List.getElem_range, VaS.upN]
  by_cases e : i = k
  · subst e
    simp
  · have : ¬ k = i := fun h => e h.symm
    simp [e, this]
theorem u16Info : (Tryd.prog.info? 65).map (fun i => (i.zero, i.size, i.bytes)) = some (some (.int .u16 0), 1, 2) := by kernel_rfl
def zerosZ (k : Nat) : Obj := .cells (madeCells (Value.int .u16 0).cells (k * 1)) 65
theorem make_zones (k : Nat) (hk : k ≤ 1000) (w : World) : (Instr.makeSlice 53 (.int .i64 (k : Int)) (.int .i64 (k : Int))).run Tryd.prog w = .ok (.slice (some ⟨w.heap.size, 0, none⟩) k k) (w.alloc (zerosZ k)) := by
  obtain ⟨i0, hi, hz0, hz1, hz2⟩ := info_parts u16Info
  have := run_make (P := Tryd.prog) w 53 65 i0 (.int .u16 0) Tryd.underlying53 hi hz0 .i64 .i64 (k : Int) (k : Int) (by omega) (Int.le_refl _) (by rw [hz2]; omega) (by omega)
  rw [hz1] at this
  simpa [zerosZ] using this
theorem zerosZ_is (k : Nat) : zerosZ k = .cells (zC (fun _ => 0) k).toArray 65 := by
  unfold zerosZ
  congr 1
  refine Array.ext (by rw [size_madeCells]; simp [zC_len]) fun i h1 h2 => ?_
  simp [madeCells, Value.cells, Nat.mod_one, zC]
/-- Block sb is the set S, its zones' numbers in block rb. -/
structure VaC (w : World) (sb rb : Nat) (N : Nat → Nat) (S : VaS) : Prop where
  b : Blk w sb 56 [.int .i64 S.z, .int .i64 S.p, .int .i64 S.b, .slice (some ⟨rb, 0, none⟩) S.m S.m]
  r : Blk w rb 65 (zC N S.m)
  n : S.Bits N
  ne : rb < sb
def VaM (w : World) (sb rb : Nat) (S : VaS) : Prop := (∃ N, VaC w sb rb N S) ∧ S.WF
section
variable {w w' : World} {sb rb : Nat} {N : Nat → Nat} {S : VaS} {F : Nat → Prop}
theorem VaC.keep (h : VaC w sb rb N S) (hk : Kept F w w') (h1 : ¬ F sb) (h2 : ¬ F rb) : VaC w' sb rb N S := ⟨hk.blk h.b h1, hk.blk h.r h2, h.n, h.ne⟩
theorem VaC.up (h : VaC w sb rb N S) (hb : Below w.heap.size w w') : VaC w' sb rb N S := h.keep (F := fun _ => False) (Kept.of_below hb) id id
theorem VaC.cells (h : VaC w sb rb N S) : w.cell? ⟨sb, 0, none⟩ = some (.int .i64 S.z) ∧ w.cell? ⟨sb, 1, none⟩ = some (.int .i64 S.p) ∧ w.cell? ⟨sb, 2, none⟩ = some (.int .i64 S.b) ∧ w.cell? ⟨sb, 3, none⟩ = some (.slice (some ⟨rb, 0, none⟩) S.m S.m) := ⟨h.b.cell 0 (by simp), h.b.cell 1 (by simp), h.b.cell 2 (by simp), h.b.cell 3 (by simp)⟩
theorem VaC.zone (h : VaC w sb rb N S) {i : Nat} (hi : i < S.m) : w.cell? ⟨rb, i, none⟩ = some (.int .u16 (N i : Int)) := h.r.at (zC_at N hi)
theorem VaM.keep (h : VaM w sb rb S) (hk : Kept F w w') (h1 : ¬ F sb) (h2 : ¬ F rb) : VaM w' sb rb S := by
  obtain ⟨⟨N, hc⟩, hw⟩ := h
  exact ⟨⟨N, hc.keep hk h1 h2⟩, hw⟩
theorem VaM.up (h : VaM w sb rb S) (hb : Below w.heap.size w w') : VaM w' sb rb S := h.keep (F := fun _ => False) (Kept.of_below hb) id id
theorem VaM.lt (h : VaM w sb rb S) : rb < sb ∧ sb < w.heap.size := by
  obtain ⟨⟨N, hc⟩, hw⟩ := h
  exact ⟨hc.ne, lt_of_block hc.b⟩
end
namespace VaS
/-- What turn does. -/
def turnB (S : VaS) (a : Nat) (v : Bool) : Bool := S.isB a && !(S.liveB a == v)
def turnS (S : VaS) (a : Nat) (v : Bool) : VaS := if S.turnB a v = true then (if v = true then { S with L := S.L ++ [a] } else S.unmarkS a) else S
theorem turn_mark (S : VaS) (a : Nat) : S.turnB a true = S.markB a ∧ S.turnS a true = S.markS a := by
  have h : S.turnB a true = S.markB a := by
    unfold turnB markB
    cases S.liveB a <;> rfl
  refine ⟨h, ?_⟩
  unfold turnS markS
  rw [h]
  rfl
theorem turn_unmark {S : VaS} (h : S.WF) (a : Nat) : S.turnB a false = S.liveB a ∧ S.turnS a false = S.unmarkS a := by
  have h1 : S.turnB a false = S.liveB a := by
    unfold turnB
    cases hl : S.liveB a with
    | false => simp
    | true =>
      have hm := h.mem a (by simpa [liveB] using hl)
      simp [isB, hm]
  refine ⟨h1, ?_⟩
  unfold turnS
  rw [h1]
  cases hl : S.liveB a with
  | false => rw [if_neg (by simp), unmark_not hl]
  | true => rfl
theorem turn_wf {S : VaS} (h : S.WF) (a : Nat) (v : Bool) : (S.turnS a v).WF := by
  cases v with
  | true => rw [(turn_mark S a).2]; exact markS_wf h a
  | false => rw [(turn_unmark h a).2]; exact unmarkS_wf h a
theorem turn_geo (S : VaS) (a : Nat) (v : Bool) : (S.turnS a v).z = S.z ∧ (S.turnS a v).p = S.p ∧ (S.turnS a v).b = S.b := by
  unfold turnS
  split
  · split <;> exact ⟨rfl, rfl, rfl⟩
  · exact ⟨rfl, rfl, rfl⟩
/-- The bit is turned, and all of it is as the set behind. -/
theorem turn_bits {S : VaS} {N : Nat → Nat} (hn : S.Bits N) (hi : insB S.z S.p = true) {i j : Nat} {v : Bool} (hl : i < S.m) (hj : j < S.P) (hv : S.liveB (1 + i * S.P + j) ≠ v) : (S.turnS (1 + i * S.P + j) v).Bits (upN N i (N i ^^^ 2 ^ j)) ∧ (S.turnS (1 + i * S.P + j) v).m = S.m ∧ S.turnB (1 + i * S.P + j) v = true := by
  have hmul : i * S.P + S.P ≤ S.m * S.P := by
    have : (i + 1) * S.P ≤ S.m * S.P := Nat.mul_le_mul_right _ hl
    rw [Nat.add_mul, Nat.one_mul] at this
    exact this
  have hb : S.turnB (1 + i * S.P + j) v = true := by
    unfold turnB isB
    simp only [Bool.and_eq_true, decide_eq_true_eq, Bool.not_eq_true', beq_eq_false_iff_ne, ne_eq]
    exact ⟨by omega, hv⟩
  have hS : S.turnS (1 + i * S.P + j) v = (if v = true then { S with L := S.L ++ [1 + i * S.P + j] } else S.unmarkS (1 + i * S.P + j)) := by unfold turnS; rw [if_pos hb]
  rw [hS]
  cases v with
  | true =>
    have hn1 : 1 + i * S.P + j ∉ S.L := by simpa [liveB] using hv
    rw [if_pos rfl]
    refine ⟨Bits.turn (S' := { S with L := S.L ++ [1 + i * S.P + j] }) hn hi rfl rfl hl hj (fun a ha => ?_) ?_, rfl, hb⟩
    · show a ∈ S.L ++ [1 + i * S.P + j] ↔ _
      simp [ha]
    · show 1 + i * S.P + j ∈ S.L ++ [1 + i * S.P + j] ↔ _
      simp [hn1]
  | false =>
    have hn1 : 1 + i * S.P + j ∈ S.L := by simpa [liveB] using hv
    rw [if_neg (by simp)]
    refine ⟨Bits.turn (S' := S.unmarkS (1 + i * S.P + j)) hn hi rfl rfl hl hj (fun a ha => ?_) ?_, rfl, hb⟩
    · show a ∈ S.L.filter (fun x => decide (x ≠ 1 + i * S.P + j)) ↔ _
      simp [ha]
    · show 1 + i * S.P + j ∈ S.L.filter (fun x => decide (x ≠ 1 + i * S.P + j)) ↔ _
      simp [hn1]
end VaS
/-- What a call on a set does. -/
def VaTo (sb rb : Nat) (b : Bool) (S' : VaS) (w : World) (r : Ending) (w' : World) : Prop := r = .returned (.bool b) ∧ VaM w' sb rb S' ∧ Kept (fun k => k = rb) w w'
section
variable {w : World} {sb rb : Nat} {S : VaS}
set_option maxHeartbeats 1000000 in
set_option maxRecDepth 100000 in
theorem valive_at (a : Nat) (h : VaM w sb rb S) : Calls Tryd.prog 12 #[.pointer (some ⟨sb, 0, none⟩), .int .u32 (a : Int)] w (BoolB (S.liveB a) w) := by
  obtain ⟨⟨N, hc⟩, hw⟩ := h
  obtain ⟨z0, z1, z2, z3⟩ := hc.cells
  have HA := Lib.hid (at_is S.z S.p S.b (a : Int) w hw.i (by omega))
  obtain ⟨e1, e2, m1, m2, p1, p2, e3, _, _⟩ := VaS.bd hw.i
  by_cases ha : 1 ≤ a ∧ a ≤ S.m * S.P
  · obtain ⟨hi, hj, hp, hat⟩ := VaS.page_of hw.i ha.1 ha.2
    rw [hat] at HA
    have hlv := hc.n.live hi hj
    rw [hp] at hlv
    have HH := Lib.hid (has_is (N ((a - 1) / S.P)) ((a - 1) % S.P) (hc.n _ hi).1 (by omega))
    rw [hlv] at HH
    have HC := Lib.hid hc
    have HZ := Lib.hid (fun u (hu : VaC u sb rb N S) => hu.zone hi)
    obtain ⟨i, hie⟩ : ∃ i, (a - 1) / S.P = i := ⟨_, rfl⟩
    obtain ⟨j, hje⟩ : ∃ j, (a - 1) % S.P = j := ⟨_, rfl⟩
    rw [hie] at hi HA HH HZ
    rw [hje] at hj HA HH
    clear hc hw hlv hat hp hie hje ha e1 e2 e3
    generalize N i = x at *
    generalize S.z = z at *
    generalize S.p = p at *
    generalize S.b = b at *
    have HM : Hid (S.m = S.m) := Lib.hid rfl
    have hz3 : ∀ u, VaC u sb rb N S → u.cell? ⟨sb, 3, none⟩ = some (.slice (some ⟨rb, 0, none⟩) S.m S.m) := fun u hu => hu.cells.2.2.2
    have HZ3 := Lib.hid hz3
    clear hz3
    generalize S.m = m at *
    generalize S.liveB a = lv at *
    go_enter Tryd.func12, Tryd.ntmps12
    go_wp2_with fail
    refine HA.out.mono ?_
    rintro r w1 ⟨rfl, hb⟩
    have HB := Lib.hid hb
    have y3 := HZ3.out _ (HC.out.up hb)
    have y4 := HZ.out _ (HC.out.up hb)
    clear hb z0 z1 z2 z3
    go_wp2_with fail
    refine (HH.out _).mono ?_
    rintro r w2 ⟨rfl, rfl⟩
    go_wp2_with fail
    go_ret
    exact ⟨rfl, HB.out⟩
  · rw [VaS.no_page hw.i ha] at HA
    have HE := Lib.hid (hw.not_zero ha)
    clear hc hw ha e1 e2 e3
    generalize S.z = z at *
    generalize S.p = p at *
    generalize S.b = b at *
    go_enter Tryd.func12, Tryd.ntmps12
    go_wp2_with fail
    refine HA.out.mono ?_
    rintro r w1 ⟨rfl, hb⟩
    have HB := Lib.hid hb
    clear hb z0 z1 z2 z3
    go_wp2_with fail
    go_ret
    exact ⟨ret_bool HE.out.symm, HB.out⟩
set_option maxHeartbeats 2000000 in
set_option maxRecDepth 100000 in
theorem vaturn_at (a : Nat) (v : Bool) (h : VaM w sb rb S) : Calls Tryd.prog 26 #[.pointer (some ⟨sb, 0, none⟩), .int .u32 (a : Int), .bool v] w (VaTo sb rb (S.turnB a v) (S.turnS a v) w) := by
  have HWM := Lib.hid h
  obtain ⟨⟨N, hc⟩, hw⟩ := h
  obtain ⟨z0, z1, z2, z3⟩ := hc.cells
  have HA := Lib.hid (at_is S.z S.p S.b (a : Int) w hw.i (by omega))
  obtain ⟨e1, e2, m1, m2, p1, p2, e3, _, _⟩ := VaS.bd hw.i
  by_cases ha : 1 ≤ a ∧ a ≤ S.m * S.P
  · obtain ⟨hi, hj, hp, hat⟩ := VaS.page_of hw.i ha.1 ha.2
    rw [hat] at HA
    have hlv := hc.n.live hi hj
    rw [hp] at hlv
    have HH := Lib.hid (has_is (N ((a - 1) / S.P)) ((a - 1) % S.P) (hc.n _ hi).1 (by omega))
    rw [hlv] at HH
    have HC := Lib.hid hc
    have HZ := Lib.hid (fun u (hu : VaC u sb rb N S) => hu.zone hi)
    have HX := Lib.hid (u16_xor_nat (N ((a - 1) / S.P)) (2 ^ ((a - 1) % S.P)) (hc.n _ hi).1 (Nat.pow_lt_pow_right (n := 16) (a := 2) (by omega) (by omega)))
    have HT := Lib.hid (fun hv => VaS.turn_bits (v := v) hc.n hw.i hi hj (by rw [hp]; exact hv))
    have HON := Lib.hid (only_is ((a - 1) % S.P) (by omega))
    rw [hp] at HT
    have hz3 : ∀ u, VaC u sb rb N S → u.cell? ⟨sb, 3, none⟩ = some (.slice (some ⟨rb, 0, none⟩) S.m S.m) := fun u hu => hu.cells.2.2.2
    have HZ3 := Lib.hid hz3
    have HW := Lib.hid hw
    obtain ⟨i, hie⟩ : ∃ i, (a - 1) / S.P = i := ⟨_, rfl⟩
    obtain ⟨j, hje⟩ : ∃ j, (a - 1) % S.P = j := ⟨_, rfl⟩
    rw [hie] at hi HA HH HZ HX HT
    rw [hje] at hj HA HH HX HT HON
    clear hc hw hlv hat hp hie hje ha e1 e2 e3 hz3
    by_cases hv : S.liveB a = v
    · have HE : Hid (∀ w', Below w.heap.size w w' → VaTo sb rb (S.turnB a v) (S.turnS a v) w (.returned (.bool false)) w') := Lib.hid (fun w' hb => by
        have hB : S.turnB a v = false := by unfold VaS.turnB; rw [hv]; simp
        have hS : S.turnS a v = S := by unfold VaS.turnS; rw [hB]; rfl
        rw [hB, hS]
        exact ⟨rfl, HWM.out.up hb, Kept.of_below hb⟩)
      rw [hv] at HH
      have q : (v == v) = true := by simp
      have hz3 := HZ3.out
      clear HT HX HON hv HZ3 HWM HW
      generalize N i = x at *
      generalize S.z = z at *
      generalize S.p = p at *
      generalize S.b = b at *
      have HZ3 := Lib.hid hz3
      clear hz3
      generalize S.m = m at *
      go_enter Tryd.func26, Tryd.ntmps26
      go_wp2_with fail
      refine HA.out.mono ?_
      rintro r w1 ⟨rfl, hb⟩
      have HB := Lib.hid hb
      have y3 := HZ3.out _ (HC.out.up hb)
      have y4 := HZ.out _ (HC.out.up hb)
      clear hb z0 z1 z2 z3
      go_wp2_with fail
      refine (HH.out _).mono ?_
      rintro r w2 ⟨rfl, rfl⟩
      go_wp2_with fail
      go_ret
      exact HE.out _ HB.out
    · obtain ⟨ht1, ht2, ht3⟩ := HT.out hv
      have HE : Hid (∀ w1, Below w.heap.size w w1 → VaTo sb rb (S.turnB a v) (S.turnS a v) w (.returned (.bool true)) (w1.drew.setCell ⟨rb, i, none⟩ (.int .u16 ((N i ^^^ 2 ^ j : Nat) : Int)))) := Lib.hid (fun w1 hb => by
        have hc1 := HC.out.up hb.drew
        have hk : Kept (fun k => k = rb) w1.drew (w1.drew.setCell ⟨rb, i, none⟩ (.int .u16 ((N i ^^^ 2 ^ j : Nat) : Int))) := kept_put _ _ _ _
        rw [ht3]
        refine ⟨rfl, ⟨⟨VaS.upN N i (N i ^^^ 2 ^ j), ?_, ?_, ht1, hc1.ne⟩, VaS.turn_wf HW.out a v⟩, (Kept.of_below hb.drew).and hk⟩
        · have hne := hc1.ne
          have := hk.blk hc1.b (by omega)
          obtain ⟨u1, u2, u3⟩ := VaS.turn_geo S a v
          rw [ht2, u1, u2, u3]
          exact this
        · have := hc1.r.put i (.int .u16 ((N i ^^^ 2 ^ j : Nat) : Int))
          rw [zC_set] at this
          rw [ht2]
          exact this)
      clear ht1 ht2 ht3 HT
      have q : (S.liveB a == v) = false := by simpa using hv
      have HF : Hid (∀ u, VaC u sb rb N S → u.frozen? ⟨rb, i, none⟩ = false) := Lib.hid (fun u hu => hu.r.free i)
      have HSS : Hid (∀ u, Below w.heap.size w u → u.cell? ⟨sb, 3, none⟩ = some (.slice (some ⟨rb, 0, none⟩) S.m S.m) ∧ u.cell? ⟨rb, i, none⟩ = some (.int .u16 (N i : Int))) := Lib.hid (fun u hu => ⟨HZ3.out _ (HC.out.up hu), HZ.out _ (HC.out.up hu)⟩)
      have hx := HX.out
      obtain ⟨B, hB⟩ : ∃ B, 2 ^ j = B := ⟨_, rfl⟩
      rw [hB] at hx HE HON
      obtain ⟨y, hy⟩ : ∃ y, N i ^^^ B = y := ⟨_, rfl⟩
      rw [hy] at hx HE
      clear hv HX hB hy HZ HZ3 HWM HW
      generalize S.liveB a = lv at *
      generalize S.z = z at *
      generalize S.p = p at *
      generalize S.b = b at *
      have hss := HSS.out
      have hf := HF.out
      clear HSS
      generalize S.m = m at *
      have HSS := Lib.hid hss
      clear hss
      generalize N i = x at *
      clear hf
      go_enter Tryd.func26, Tryd.ntmps26
      go_wp2_with fail
      refine HA.out.mono ?_
      rintro r w1 ⟨rfl, hb⟩
      have HB1 := Lib.hid hb
      obtain ⟨y3, y4⟩ := HSS.out _ hb
      have f4 := HF.out _ (HC.out.up hb.drew)
      clear hb z0 z1 z2 z3
      go_wp2_with fail
      refine (HH.out _).mono ?_
      rintro r w2 ⟨rfl, rfl⟩
      go_wp2_with fail
      clear y3 y4
      refine wp_region_parts (S := fun u => u.cell? ⟨sb, 3, none⟩ = some (.slice (some ⟨rb, 0, none⟩) m m) ∧ u.cell? ⟨rb, i, none⟩ = some (.int .u16 (x : Int))) 11 1 _ (by kernel_rfl) (by kernel_rfl) (by rfl) (by simp only [List.take_succ_cons, List.take_zero]; rfl) ?_ (fun hHeld => ?_)
      · exact HSS.out _ HB1.out.drew
      refine wpAnyH_take (i := 0) (v := ?_) rfl (by kernel_rfl) (by kernel_rfl) (by kernel_rfl) (fun _ _ _ h => h) (Or.inl ⟨by rfl, ?_⟩) hHeld ?_
      rotate_left
      · intro u hSu
        obtain ⟨x3, x4⟩ := hSu
        go_simp
        try with_reducible rfl
      try simp only [Act.put, List.setIfInBounds_toArray, List.set_cons_zero, List.set_cons_succ, List.getElem_toArray, List.getElem_cons_zero, List.getElem_cons_succ]
      refine wpAnyH_take (i := 1) (v := ?_) rfl (by kernel_rfl) (by kernel_rfl) (by kernel_rfl) (fun _ _ _ h => h) (Or.inl ⟨by rfl, ?_⟩) hHeld ?_
      rotate_left
      · intro u hSu
        obtain ⟨x3, x4⟩ := hSu
        go_simp
        try with_reducible rfl
      try simp only [Act.put, List.setIfInBounds_toArray, List.set_cons_zero, List.set_cons_succ, List.getElem_toArray, List.getElem_cons_zero, List.getElem_cons_succ]
      refine wpAnyH_take (i := 2) (v := ?_) rfl (by kernel_rfl) (by kernel_rfl) (by kernel_rfl) (fun _ _ _ h => h) (Or.inl ⟨by rfl, ?_⟩) hHeld ?_
      rotate_left
      · intro u hSu
        obtain ⟨x3, x4⟩ := hSu
        go_simp
        try with_reducible rfl
      try simp only [Act.put, List.setIfInBounds_toArray, List.set_cons_zero, List.set_cons_succ, List.getElem_toArray, List.getElem_cons_zero, List.getElem_cons_succ]
      refine wpAnyH_take (i := 3) (v := ?_) rfl (by kernel_rfl) (by kernel_rfl) (by kernel_rfl) (fun _ _ _ h => h) (Or.inl ⟨by rfl, ?_⟩) hHeld ?_
      rotate_left
      · intro u hSu
        obtain ⟨x3, x4⟩ := hSu
        go_simp
        try with_reducible rfl
      try simp only [Act.put, List.setIfInBounds_toArray, List.set_cons_zero, List.set_cons_succ, List.getElem_toArray, List.getElem_cons_zero, List.getElem_cons_succ]
      refine wpAnyH_take (i := 4) (v := ?_) rfl (by kernel_rfl) (by kernel_rfl) (by kernel_rfl) (fun _ _ _ h => h) (Or.inl ⟨by rfl, ?_⟩) hHeld ?_
      rotate_left
      · intro u hSu
        obtain ⟨x3, x4⟩ := hSu
        go_simp
        try with_reducible rfl
      try simp only [Act.put, List.setIfInBounds_toArray, List.set_cons_zero, List.set_cons_succ, List.getElem_toArray, List.getElem_cons_zero, List.getElem_cons_succ]
      refine wpAnyH_take (i := 5) (v := ?_) rfl (by kernel_rfl) (by kernel_rfl) (by kernel_rfl) (fun _ _ _ h => h) (Or.inl ⟨by rfl, ?_⟩) hHeld ?_
      rotate_left
      · intro u hSu
        obtain ⟨x3, x4⟩ := hSu
        go_simp
        try with_reducible rfl
      try simp only [Act.put, List.setIfInBounds_toArray, List.set_cons_zero, List.set_cons_succ, List.getElem_toArray, List.getElem_cons_zero, List.getElem_cons_succ]
      refine wpAnyH_take (i := 6) (v := ?_) rfl (by kernel_rfl) (by kernel_rfl) (by kernel_rfl) (fun _ _ _ h => h) (Or.inl ⟨by rfl, ?_⟩) hHeld ?_
      rotate_left
      · intro u hSu
        obtain ⟨x3, x4⟩ := hSu
        go_simp
        try with_reducible rfl
      try simp only [Act.put, List.setIfInBounds_toArray, List.set_cons_zero, List.set_cons_succ, List.getElem_toArray, List.getElem_cons_zero, List.getElem_cons_succ]
      refine wpAnyH_take (i := 7) (v := ?_) rfl (by kernel_rfl) (by kernel_rfl) (by kernel_rfl) (fun _ _ _ h => h) (Or.inl ⟨by rfl, ?_⟩) hHeld ?_
      rotate_left
      · intro u hSu
        obtain ⟨x3, x4⟩ := hSu
        go_simp
        try with_reducible rfl
      try simp only [Act.put, List.setIfInBounds_toArray, List.set_cons_zero, List.set_cons_succ, List.getElem_toArray, List.getElem_cons_zero, List.getElem_cons_succ]
      refine wpAnyH_ready (rs := [8]) (by kernel_rfl) (by simp) ?_
      refine (AllReadyH.cons rfl (fun K hK => ?_) AllReadyH.nil)
      go_simp
      refine (HON.out _).mono ?_
      rintro r w' ⟨rfl, rfl⟩
      refine hK.out _ _ ?_ (fun hHeld2 => ?_)
      · exact HSS.out _ HB1.out.drew
      clear hK K hHeld
      have hHeld := hHeld2
      clear hHeld2
      try simp only [Act.put, List.setIfInBounds_toArray, List.set_cons_zero, List.set_cons_succ, List.getElem_toArray, List.getElem_cons_zero, List.getElem_cons_succ]
      refine wpAnyH_take (i := 9) (v := ?_) rfl (by kernel_rfl) (by kernel_rfl) (by kernel_rfl) (fun _ _ _ h => h) (Or.inl ⟨by rfl, ?_⟩) hHeld ?_
      rotate_left
      · intro u hSu
        obtain ⟨x3, x4⟩ := hSu
        go_simp
        try with_reducible rfl
      try simp only [Act.put, List.setIfInBounds_toArray, List.set_cons_zero, List.set_cons_succ, List.getElem_toArray, List.getElem_cons_zero, List.getElem_cons_succ]
      refine wpAnyH_take (i := 10) (v := ?_) rfl (by kernel_rfl) (by kernel_rfl) (by kernel_rfl) (fun _ _ _ h => h) (Or.inl ⟨by rfl, ?_⟩) hHeld ?_
      rotate_left
      · intro u hSu
        obtain ⟨x3, x4⟩ := hSu
        go_simp
        try with_reducible rfl
      try simp only [Act.put, List.setIfInBounds_toArray, List.set_cons_zero, List.set_cons_succ, List.getElem_toArray, List.getElem_cons_zero, List.getElem_cons_succ]
      refine wpAnyH_done (by kernel_rfl) ?_ _
      show wpAny _ _ _ _ 1 _ _ _
      clear hHeld
      have y4 := (HSS.out _ HB1.out).2
      refine wpAny_ready (rs := [11]) (by kernel_rfl) (by simp) ?_
      refine AllReady.cons rfl (fun K hK => ?_) AllReady.nil
      go_simp
      refine hK _ _ ?_
      clear hK K
      refine wpAny_done (by kernel_rfl) ?_ _
      go_wp2_with fail
      go_ret
      exact HE.out _ HB1.out
  · rw [VaS.no_page hw.i ha] at HA
    have HE : Hid (∀ w', Below w.heap.size w w' → VaTo sb rb (S.turnB a v) (S.turnS a v) w (.returned (.bool false)) w') := Lib.hid (fun w' hb => by
      have hB : S.turnB a v = false := by unfold VaS.turnB VaS.isB; rw [decide_eq_false ha]; rfl
      have hS : S.turnS a v = S := by unfold VaS.turnS; rw [hB]; rfl
      rw [hB, hS]
      exact ⟨rfl, HWM.out.up hb, Kept.of_below hb⟩)
    clear hc hw ha e1 e2 e3 HWM
    generalize S.z = z at *
    generalize S.p = p at *
    generalize S.b = b at *
    go_enter Tryd.func26, Tryd.ntmps26
    go_wp2_with fail
    refine HA.out.mono ?_
    rintro r w1 ⟨rfl, hb⟩
    have HB := Lib.hid hb
    clear hb z0 z1 z2 z3
    go_wp2_with fail
    go_ret
    exact HE.out _ HB.out
theorem vamark_at (a : Nat) (h : VaM w sb rb S) : Calls Tryd.prog 8 #[.pointer (some ⟨sb, 0, none⟩), .int .u32 (a : Int)] w (VaTo sb rb (S.markB a) (S.markS a) w) := by
  have HT := Lib.hid (vaturn_at a true h)
  rw [(VaS.turn_mark S a).1, (VaS.turn_mark S a).2] at HT
  clear h
  go_enter Tryd.func8, Tryd.ntmps8
  go_wp2_with fail
  refine HT.out.mono ?_
  rintro r w1 ⟨rfl, hr⟩
  have HR := Lib.hid hr
  clear hr
  go_wp2_with fail
  go_ret
  exact ⟨rfl, HR.out⟩
theorem vaunmark_at (a : Nat) (h : VaM w sb rb S) : Calls Tryd.prog 10 #[.pointer (some ⟨sb, 0, none⟩), .int .u32 (a : Int)] w (VaTo sb rb (S.liveB a) (S.unmarkS a) w) := by
  have HT := Lib.hid (vaturn_at a false h)
  rw [(VaS.turn_unmark h.2 a).1, (VaS.turn_unmark h.2 a).2] at HT
  clear h
  go_enter Tryd.func10, Tryd.ntmps10
  go_wp2_with fail
  refine HT.out.mono ?_
  rintro r w1 ⟨rfl, hr⟩
  have HR := Lib.hid hr
  clear hr
  go_wp2_with fail
  go_ret
  exact ⟨rfl, HR.out⟩
end
end Go.Proofs.YtajccmkdfmpapaaDoor

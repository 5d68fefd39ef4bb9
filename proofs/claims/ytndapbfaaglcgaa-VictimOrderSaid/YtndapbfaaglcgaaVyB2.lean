/-
  The closure that orders zones.
-/
import Derived.Test.YtndapbfaaglcgaaVyB
namespace Go.Proofs.Ytndapbfaaglcgaa
open Go.RowKit

/-- What the closure answers, and what it leaves. -/
def CloIs (x : Int) (W : World) (e : Ending) (w' : World) : Prop := e = .returned (.int .i64 x) ∧ ∃ q os, w' = Go.Sort.grow (W.drewN q) os
set_option maxHeartbeats 2000000 in
set_option maxRecDepth 100000 in
theorem clo_at (pol p : Int) (a b : VZ) (W : World) (g1 g2 : Nat) (k1 : W.cell? ⟨g1, 0, none⟩ = some (.int .i64 pol)) (k2 : W.cell? ⟨g2, 0, none⟩ = some (.int .i64 p)) (_hp1 : 1 ≤ p) (hp : p ≤ 16) (h1 : 0 ≤ a.v) (h2 : a.v ≤ p) (h3 : 0 ≤ b.v) (h4 : b.v ≤ p) (hna : a.age < 4294967296) (hnb : b.age < 4294967296) : Calls Try.prog 27 #[zV a, zV b, .pointer (some ⟨g1, 0, none⟩), .pointer (some ⟨g2, 0, none⟩)] W (CloIs (cfZ pol p a b) W) := by
  have HAG := Lib.hid (fun u => vyag_at p b a u hp h3 h4 h1 h2 hnb hna)
  have HE := Lib.hid (show cfZ pol p a b = if pol = 0 then orZ (cmpZ a.v b.v) (cmpZ a.id b.id) else orZ (cmpZ (VZ.prod p b a) (VZ.prod p a b)) (cmpZ a.id b.id) from rfl)
  unfold zV at HAG ⊢
  generalize cfZ pol p a b = ah at *
  generalize VZ.prod p a b = pa at *
  generalize VZ.prod p b a = pb at *
  generalize a.id = ia at *
  generalize b.id = ib at *
  generalize a.age = na at *
  generalize b.age = nb at *
  generalize a.v = va at *
  generalize b.v = vb at *
  have ha1 : Grw W ((W.alloc (.cells #[.int .i64 ia, .int .i64 va, .int .u32 (na : Int)] 38)).alloc (.cells #[.int .i64 ib, .int .i64 vb, .int .u32 (nb : Int)] 38)) := ((Grw.refl W).alloc _).alloc _
  have hka : Blk ((W.alloc (.cells #[.int .i64 ia, .int .i64 va, .int .u32 (na : Int)] 38)).alloc (.cells #[.int .i64 ib, .int .i64 vb, .int .u32 (nb : Int)] 38)) W.heap.size 38 [.int .i64 ia, .int .i64 va, .int .u32 (na : Int)] := by
    unfold Blk
    rw [heap_alloc_old _ _ (by simp)]
    exact heap_alloc_new _ _
  have hkb : Blk ((W.alloc (.cells #[.int .i64 ia, .int .i64 va, .int .u32 (na : Int)] 38)).alloc (.cells #[.int .i64 ib, .int .i64 vb, .int .u32 (nb : Int)] 38)) (W.heap.size + 1) 38 [.int .i64 ib, .int .i64 vb, .int .u32 (nb : Int)] := by
    have h := heap_alloc_new (W.alloc (.cells #[.int .i64 ia, .int .i64 va, .int .u32 (na : Int)] 38)) (.cells #[.int .i64 ib, .int .i64 vb, .int .u32 (nb : Int)] 38)
    rw [show (W.alloc (.cells #[.int .i64 ia, .int .i64 va, .int .u32 (na : Int)] 38)).heap.size = W.heap.size + 1 by simp] at h
    exact h
  obtain ⟨w2, hw2⟩ : ∃ u, (W.alloc (.cells #[.int .i64 ia, .int .i64 va, .int .u32 (na : Int)] 38)).alloc (.cells #[.int .i64 ib, .int .i64 vb, .int .u32 (nb : Int)] 38) = u := ⟨_, rfl⟩
  rw [hw2] at ha1 hka hkb
  have j1 := (ha1.below.cell (p := ⟨g1, 0, none⟩) (World.block_lt_of_cell? W _ k1)).trans k1
  have j2 := (ha1.below.cell (p := ⟨g2, 0, none⟩) (World.block_lt_of_cell? W _ k2)).trans k2
  have a0 := hka.cell 0 (by simp)
  have a1 := hka.cell 1 (by simp)
  have a2 := hka.cell 2 (by simp)
  have b0 := hkb.cell 0 (by simp)
  have b1 := hkb.cell 1 (by simp)
  have b2 := hkb.cell 2 (by simp)
  have HG := Lib.hid ha1
  have HKA := Lib.hid hka
  have HKB := Lib.hid hkb
  have HCI := Lib.hid (fun x y w => cmpI_at x y w)
  have HOR := Lib.hid (fun x y b w c0 c1 => or_at x y b w c0 c1)
  obtain ⟨oz, hoz⟩ : ∃ f, orZ = f := ⟨_, rfl⟩
  rw [hoz] at HOR HE
  obtain ⟨cz, hcz⟩ : ∃ f, cmpZ = f := ⟨_, rfl⟩
  rw [hcz] at HCI HAG HE
  clear ha1 hka hkb k1 k2 hp h1 h2 h3 h4 hna hnb hoz hcz
  by_cases h0 : pol = 0
  · have q0 : (pol != 0) = false := by simp [h0]
    have HE2 : Hid (ah = oz (cz va vb) (cz ia ib)) := Lib.hid (by rw [HE.out, if_pos h0])
    obtain ⟨w4, hw4⟩ : ∃ u, w2.alloc (.cells #[.int .i64 (cz va vb), .int .i64 (cz ia ib)] 3) = u := ⟨_, rfl⟩
    have hk4 : Blk w4 w2.heap.size 3 [.int .i64 (cz va vb), .int .i64 (cz ia ib)] := by rw [← hw4]; exact heap_alloc_new _ _
    have HC4 := Lib.hid (hk4.cell 0 (by simp))
    have HD4 := Lib.hid (hk4.cell 1 (by simp))
    have HX : Hid (CloIs ah W (.returned (.int .i64 ah)) w4) := Lib.hid ⟨rfl, by rw [← hw4]; exact HG.out.alloc _⟩
    clear h0 HE hk4
    go_enter Try.func27, Try.ntmps27
    go_wp2_with (first
      | (go_at_call 28; refine (HCI.out _ _ _).mono ?_; rintro r w' ⟨rfl, rfl⟩)
      | (go_at_call 30; refine (HOR.out _ _ _ _ HC4.out HD4.out).mono ?_; rintro r w' ⟨rfl, rfl⟩))
    go_ret
    rw [← HE2.out]
    exact HX.out
  · have q0 : (pol != 0) = true := by simpa using h0
    have HE2 : Hid (ah = oz (cz pb pa) (cz ia ib)) := Lib.hid (by rw [HE.out, if_neg h0])
    clear h0 HE
    go_enter Try.func27, Try.ntmps27
    go_wp2_with (go_at_call 28; refine (HCI.out _ _ _).mono ?_; rintro r w' ⟨rfl, rfl⟩)
    refine (HAG.out _).mono ?_
    rintro r w3 ⟨rfl, hg⟩
    clear a0 a1 a2 b0 b1 b2 j1 j2 hw2
    have a0 := (HKA.out.up hg.below (lt_of_block HKA.out)).cell 0 (by simp)
    have b0 := (HKB.out.up hg.below (lt_of_block HKB.out)).cell 0 (by simp)
    have HG3 := Lib.hid (HG.out.trans hg)
    clear hg
    obtain ⟨w4, hw4⟩ : ∃ u, w3.alloc (.cells #[.int .i64 (cz pb pa), .int .i64 (cz ia ib)] 3) = u := ⟨_, rfl⟩
    have hk4 : Blk w4 w3.heap.size 3 [.int .i64 (cz pb pa), .int .i64 (cz ia ib)] := by rw [← hw4]; exact heap_alloc_new _ _
    have HC4 := Lib.hid (hk4.cell 0 (by simp))
    have HD4 := Lib.hid (hk4.cell 1 (by simp))
    have HX : Hid (CloIs ah W (.returned (.int .i64 ah)) w4) := Lib.hid ⟨rfl, by rw [← hw4]; exact HG3.out.alloc _⟩
    clear hk4
    go_wp2_with (first
      | (go_at_call 28; refine (HCI.out _ _ _).mono ?_; rintro r w' ⟨rfl, rfl⟩)
      | (go_at_call 30; refine (HOR.out _ _ _ _ HC4.out HD4.out).mono ?_; rintro r w' ⟨rfl, rfl⟩))
    go_ret
    rw [← HE2.out]
    exact HX.out
end Go.Proofs.Ytndapbfaaglcgaa

/-
  The law's do: an act, by the landed device.
-/
import Derived.Test.YtljpkngbhdplbaaDoorZnsO
namespace Go.Proofs.YtljpkngbhdplbaaDoor
open Go.RowKit

theorem do_0 {F : Nat → Prop} {w : World} {rb : Nat} {S : DevS} (vb vk vt : Value) (zone page : Int) (B keep : List Int) (tear : List Bool) (Z : ZOps) (h : Z.D F w rb S) (hg : Gl w) (hgf : ¬ F 0) (hd : S.done ≤ 1000000) (ha : ActF (fun k => k < w.heap.size ∧ ¬ F k) w vb vk vt ⟨0, zone, page, B, keep, tear⟩) (hx : ActOk ⟨0, zone, page, B, keep, tear⟩) (hsm : B.length ≤ 100 ∧ keep.length ≤ 100 ∧ tear.length ≤ 100) :
    Calls Tryd.prog 14 #[.pointer (some ⟨rb, 0, none⟩), .agg #[.int .i64 0, .int .i64 zone, .int .i64 page, vb, vk, vt]] w (ToldIs (fun G u S' => Z.D G u rb S') F (actS S ⟨0, zone, page, B, keep, tear⟩) (actT S ⟨0, zone, page, B, keep, tear⟩) w) := by
  have HH : Holds (fun G u S' => Z.D G u rb S') := holds_z Z rb
  have HF : Hid (∀ k, F k → k < w.heap.size) := Lib.hid (HH.lt h)
  have HB3 : Hid (Below w.heap.size w (((w.alloc (.cells #[.int .i64 0, .int .i64 zone, .int .i64 page, vb, vk, vt] 39)).alloc (.cells #[.int .i64 0, .int .i64 0, .slice none 0 0] 41)).alloc (.cells #[.int .i64 0, .int .i64 0, .slice none 0 0] 41))) := Lib.hid below_three
  have HR3 : Hid (Z.D F (((w.alloc (.cells #[.int .i64 0, .int .i64 zone, .int .i64 page, vb, vk, vt] 39)).alloc (.cells #[.int .i64 0, .int .i64 0, .slice none 0 0] 41)).alloc (.cells #[.int .i64 0, .int .i64 0, .slice none 0 0] 41)) rb S) := Lib.hid (HH.keep (S := S) h (Kept.of_below (F := fun _ => False) HB3.out) (fun _ _ => id))
  have HA3 : Hid (ActF (fun k => k < w.heap.size ∧ ¬ F k) (((w.alloc (.cells #[.int .i64 0, .int .i64 zone, .int .i64 page, vb, vk, vt] 39)).alloc (.cells #[.int .i64 0, .int .i64 0, .slice none 0 0] 41)).alloc (.cells #[.int .i64 0, .int .i64 0, .slice none 0 0] 41)) vb vk vt ⟨0, zone, page, B, keep, tear⟩) := Lib.hid (ha.up HB3.out)
  have HS3 : Hid (((((w.alloc (.cells #[.int .i64 0, .int .i64 zone, .int .i64 page, vb, vk, vt] 39)).alloc (.cells #[.int .i64 0, .int .i64 0, .slice none 0 0] 41)).alloc (.cells #[.int .i64 0, .int .i64 0, .slice none 0 0] 41))).heap.size = w.heap.size + 3) := Lib.hid (by rw [World.size_alloc, World.size_alloc, World.size_alloc])
  have HZ1 : Hid (Blk (((w.alloc (.cells #[.int .i64 0, .int .i64 zone, .int .i64 page, vb, vk, vt] 39)).alloc (.cells #[.int .i64 0, .int .i64 0, .slice none 0 0] 41)).alloc (.cells #[.int .i64 0, .int .i64 0, .slice none 0 0] 41)) (w.heap.size + 1) 41 [.int .i64 0, .int .i64 0, .slice none 0 0]) := Lib.hid (by
    have h1 := heap_alloc_new (w.alloc (.cells #[.int .i64 0, .int .i64 zone, .int .i64 page, vb, vk, vt] 39)) (.cells #[.int .i64 0, .int .i64 0, .slice none 0 0] 41)
    rw [World.size_alloc] at h1
    exact Blk.up h1 (Below.alloc (Below.refl _ _) (Nat.le_refl _) _) (by rw [World.size_alloc, World.size_alloc]; omega))
  have HZ2 : Hid (Blk (((w.alloc (.cells #[.int .i64 0, .int .i64 zone, .int .i64 page, vb, vk, vt] 39)).alloc (.cells #[.int .i64 0, .int .i64 0, .slice none 0 0] 41)).alloc (.cells #[.int .i64 0, .int .i64 0, .slice none 0 0] 41)) (w.heap.size + 2) 41 [.int .i64 0, .int .i64 0, .slice none 0 0]) := Lib.hid (by
    have h1 := heap_alloc_new ((w.alloc (.cells #[.int .i64 0, .int .i64 zone, .int .i64 page, vb, vk, vt] 39)).alloc (.cells #[.int .i64 0, .int .i64 0, .slice none 0 0] 41)) (.cells #[.int .i64 0, .int .i64 0, .slice none 0 0] 41)
    rw [World.size_alloc, World.size_alloc] at h1
    exact h1)
  have HG : Hid (Gl (((w.alloc (.cells #[.int .i64 0, .int .i64 zone, .int .i64 page, vb, vk, vt] 39)).alloc (.cells #[.int .i64 0, .int .i64 0, .slice none 0 0] 41)).alloc (.cells #[.int .i64 0, .int .i64 0, .slice none 0 0] 41))) := Lib.hid (hg.below HB3.out)
  have HGF := Lib.hid hgf
  have HG0 := Lib.hid hg
  have HX := Lib.hid hx
  have HM := Lib.hid hsm
  have HD := Lib.hid hd
  obtain ⟨A1, c1, A2, c2, A3, c3, rfl, rfl, rfl⟩ := ha.form
  clear h ha hx hsm hd
  clear hg hgf
  go_enter Tryd.func14, Tryd.ntmps14
  go_wp2_with fail
  refine (Z.append zone _ B HR3.out HD.out (HA3.out.1.mono (fun k hk => hk.2)) HX.out.2.1 HM.out.1).mono ?_
  rintro r w4 ⟨rfl, h4, k4⟩
  have H4 := Lib.hid h4
  have K4 := Lib.hid k4
  clear h4 k4
  have HT1 : Hid (Blk w4 (w.heap.size + 1) 41 [.int .i64 0, .int .i64 0, .slice none 0 0]) := Lib.hid (K4.out.blk HZ1.out (fun e => by have := HF.out _ e; omega))
  have HT2 : Hid (Blk w4 (w.heap.size + 2) 41 [.int .i64 0, .int .i64 0, .slice none 0 0]) := Lib.hid (K4.out.blk HZ2.out (fun e => by have := HF.out _ e; omega))
  have a0 : w4.cell? ⟨w.heap.size + 1, 0, none⟩ = some (.int .i64 0) := HT1.out.cell 0 (by simp)
  have a1 : w4.cell? ⟨w.heap.size + 1, 1, none⟩ = some (.int .i64 0) := HT1.out.cell 1 (by simp)
  have a2 : w4.cell? ⟨w.heap.size + 1, 2, none⟩ = some (.slice none 0 0) := HT1.out.cell 2 (by simp)
  have b0 : w4.cell? ⟨w.heap.size + 2, 0, none⟩ = some (.int .i64 0) := HT2.out.cell 0 (by simp)
  have b1 : w4.cell? ⟨w.heap.size + 2, 1, none⟩ = some (.int .i64 0) := HT2.out.cell 1 (by simp)
  have b2 : w4.cell? ⟨w.heap.size + 2, 2, none⟩ = some (.slice none 0 0) := HT2.out.cell 2 (by simp)
  have fa0 := HT1.out.free 0
  have fa1 := HT1.out.free 1
  have fa2 := HT1.out.free 2
  have fb0 := HT2.out.free 0
  have fb1 := HT2.out.free 1
  have fb2 := HT2.out.free 2
  obtain ⟨nn, hnn⟩ : ∃ nn, S.appN zone B = nn := ⟨_, rfl⟩
  have HNN := Lib.hid hnn
  obtain ⟨ee, hee⟩ : ∃ ee, S.mayE (S.appE zone B) = ee := ⟨_, rfl⟩
  have HEE := Lib.hid hee
  rw [hnn, hee]
  clear hnn hee
  have HX4 : Hid (Kept (fun k => w.heap.size ≤ k ∧ k < w.heap.size + 3) w4 (w4.setCell ⟨w.heap.size + 1 + 1, 0, none⟩ (.int .i64 nn))) := Lib.hid ((Kept.refl _ _).put (.inl ⟨by omega, by omega⟩) 0 (.int .i64 nn))
  have HG4 : Hid (Gl (w4.setCell ⟨w.heap.size + 1 + 1, 0, none⟩ (.int .i64 nn))) := Lib.hid (HX4.out.cell (K4.out.cell HG.out HGF.out) (fun e => by have := lt_of_cell HG0.out; simp only at e this; omega))
  have HT3 : Hid (Blk (w4.setCell ⟨w.heap.size + 1 + 1, 0, none⟩ (.int .i64 nn)) (w.heap.size + 1) 41 [.int .i64 0, .int .i64 0, .slice none 0 0]) := Lib.hid ((kept_put w4 (w.heap.size + 1 + 1) 0 (.int .i64 nn)).blk HT1.out (by omega))
  have HT4 : Hid (Blk (w4.setCell ⟨w.heap.size + 1 + 1, 0, none⟩ (.int .i64 nn)) (w.heap.size + 1 + 1) 41 [.int .i64 nn, .int .i64 0, .slice none 0 0]) := Lib.hid (HT2.out.put 0 (.int .i64 nn))
  go_wp2_with fail
  refine (code_is ee HG4.out).mono ?_
  rintro r w5 ⟨rfl, hb5⟩
  have HK5 := Lib.hid (HX4.out.and (Kept.of_below hb5))
  have HT5 := Lib.hid (HT3.out.up hb5 (lt_of_block HT3.out))
  have HT6 := Lib.hid (HT4.out.up hb5 (lt_of_block HT4.out))
  clear hb5 a0 a1 a2 b0 b1 b2 fa0 fa1 fa2 fb0 fb1 fb2
  have a0 := HT5.out.cell 0 (by simp)
  have fa0 := HT5.out.free 0
  have a1 := HT5.out.cell 1 (by simp)
  have fa1 := HT5.out.free 1
  have a2 := HT5.out.cell 2 (by simp)
  have fa2 := HT5.out.free 2
  have b0 := HT6.out.cell 0 (by simp)
  have fb0 := HT6.out.free 0
  have b1 := HT6.out.cell 1 (by simp)
  have fb1 := HT6.out.free 1
  have b2 := HT6.out.cell 2 (by simp)
  have fb2 := HT6.out.free 2
  simp only [List.getElem_cons_zero, List.getElem_cons_succ] at a0 a1 a2 b0 b1 b2
  have HB5 : Hid (Blk (w5.setCell ⟨w.heap.size + 1 + 1, 1, none⟩ (.int .i64 ee)) (w.heap.size + 1) 41 [.int .i64 0, .int .i64 0, .slice none 0 0]) := Lib.hid ((kept_put w5 (w.heap.size + 1 + 1) 1 (.int .i64 ee)).blk HT5.out (by omega))
  have d0 : ((w5.setCell ⟨w.heap.size + 1 + 1, 1, none⟩ (.int .i64 ee)).setCell ⟨w.heap.size + 1, 0, none⟩ (.int .i64 nn)).cell? ⟨w.heap.size + 1, 0, none⟩ = some (.int .i64 nn) := (HB5.out.put 0 _).cell 0 (by simp)
  have d1 : (((w5.setCell ⟨w.heap.size + 1 + 1, 1, none⟩ (.int .i64 ee)).setCell ⟨w.heap.size + 1, 0, none⟩ (.int .i64 nn)).setCell ⟨w.heap.size + 1, 1, none⟩ (.int .i64 ee)).cell? ⟨w.heap.size + 1, 1, none⟩ = some (.int .i64 ee) := ((HB5.out.put 0 _).put 1 _).cell 1 (by simp)
  have d2 : ((((w5.setCell ⟨w.heap.size + 1 + 1, 1, none⟩ (.int .i64 ee)).setCell ⟨w.heap.size + 1, 0, none⟩ (.int .i64 nn)).setCell ⟨w.heap.size + 1, 1, none⟩ (.int .i64 ee)).setCell ⟨w.heap.size + 1, 2, none⟩ (.slice none 0 0)).cell? ⟨w.heap.size + 1, 2, none⟩ = some (.slice none 0 0) := (((HB5.out.put 0 _).put 1 _).put 2 _).cell 2 (by simp)
  go_wp2_with fail
  refine bodyPost_ret (v := .agg #[.int .i64 nn, .int .i64 ee, .slice none 0 0]) (by simp [results, Tryd.results14, go_sem, d0, d1, d2]) rfl ?_
  rw [(act_zero rfl).1, (act_zero rfl).2]
  simp only [← HNN.out, ← HEE.out]
  refine told_end HH HB3.out H4.out K4.out HF.out (BytN.nil _ _) ?_
  rw [HS3.out]
  repeat (refine Kept.put ?_ (.inl ⟨by omega, by omega⟩) _ _)
  exact HK5.out

theorem do_1 {F : Nat → Prop} {w : World} {rb : Nat} {S : DevS} (vb vk vt : Value) (zone page : Int) (B keep : List Int) (tear : List Bool) (Z : ZOps) (h : Z.D F w rb S) (hg : Gl w) (hgf : ¬ F 0) (hd : S.done ≤ 1000000) (ha : ActF (fun k => k < w.heap.size ∧ ¬ F k) w vb vk vt ⟨1, zone, page, B, keep, tear⟩) (hx : ActOk ⟨1, zone, page, B, keep, tear⟩) (hsm : B.length ≤ 100 ∧ keep.length ≤ 100 ∧ tear.length ≤ 100) :
    Calls Tryd.prog 14 #[.pointer (some ⟨rb, 0, none⟩), .agg #[.int .i64 1, .int .i64 zone, .int .i64 page, vb, vk, vt]] w (ToldIs (fun G u S' => Z.D G u rb S') F (actS S ⟨1, zone, page, B, keep, tear⟩) (actT S ⟨1, zone, page, B, keep, tear⟩) w) := by
  have HH : Holds (fun G u S' => Z.D G u rb S') := holds_z Z rb
  have HF : Hid (∀ k, F k → k < w.heap.size) := Lib.hid (HH.lt h)
  have HB3 : Hid (Below w.heap.size w (((w.alloc (.cells #[.int .i64 1, .int .i64 zone, .int .i64 page, vb, vk, vt] 39)).alloc (.cells #[.int .i64 0, .int .i64 0, .slice none 0 0] 41)).alloc (.cells #[.int .i64 0, .int .i64 0, .slice none 0 0] 41))) := Lib.hid below_three
  have HR3 : Hid (Z.D F (((w.alloc (.cells #[.int .i64 1, .int .i64 zone, .int .i64 page, vb, vk, vt] 39)).alloc (.cells #[.int .i64 0, .int .i64 0, .slice none 0 0] 41)).alloc (.cells #[.int .i64 0, .int .i64 0, .slice none 0 0] 41)) rb S) := Lib.hid (HH.keep (S := S) h (Kept.of_below (F := fun _ => False) HB3.out) (fun _ _ => id))
  have HA3 : Hid (ActF (fun k => k < w.heap.size ∧ ¬ F k) (((w.alloc (.cells #[.int .i64 1, .int .i64 zone, .int .i64 page, vb, vk, vt] 39)).alloc (.cells #[.int .i64 0, .int .i64 0, .slice none 0 0] 41)).alloc (.cells #[.int .i64 0, .int .i64 0, .slice none 0 0] 41)) vb vk vt ⟨1, zone, page, B, keep, tear⟩) := Lib.hid (ha.up HB3.out)
  have HS3 : Hid (((((w.alloc (.cells #[.int .i64 1, .int .i64 zone, .int .i64 page, vb, vk, vt] 39)).alloc (.cells #[.int .i64 0, .int .i64 0, .slice none 0 0] 41)).alloc (.cells #[.int .i64 0, .int .i64 0, .slice none 0 0] 41))).heap.size = w.heap.size + 3) := Lib.hid (by rw [World.size_alloc, World.size_alloc, World.size_alloc])
  have HZ1 : Hid (Blk (((w.alloc (.cells #[.int .i64 1, .int .i64 zone, .int .i64 page, vb, vk, vt] 39)).alloc (.cells #[.int .i64 0, .int .i64 0, .slice none 0 0] 41)).alloc (.cells #[.int .i64 0, .int .i64 0, .slice none 0 0] 41)) (w.heap.size + 1) 41 [.int .i64 0, .int .i64 0, .slice none 0 0]) := Lib.hid (by
    have h1 := heap_alloc_new (w.alloc (.cells #[.int .i64 1, .int .i64 zone, .int .i64 page, vb, vk, vt] 39)) (.cells #[.int .i64 0, .int .i64 0, .slice none 0 0] 41)
    rw [World.size_alloc] at h1
    exact Blk.up h1 (Below.alloc (Below.refl _ _) (Nat.le_refl _) _) (by rw [World.size_alloc, World.size_alloc]; omega))
  have HZ2 : Hid (Blk (((w.alloc (.cells #[.int .i64 1, .int .i64 zone, .int .i64 page, vb, vk, vt] 39)).alloc (.cells #[.int .i64 0, .int .i64 0, .slice none 0 0] 41)).alloc (.cells #[.int .i64 0, .int .i64 0, .slice none 0 0] 41)) (w.heap.size + 2) 41 [.int .i64 0, .int .i64 0, .slice none 0 0]) := Lib.hid (by
    have h1 := heap_alloc_new ((w.alloc (.cells #[.int .i64 1, .int .i64 zone, .int .i64 page, vb, vk, vt] 39)).alloc (.cells #[.int .i64 0, .int .i64 0, .slice none 0 0] 41)) (.cells #[.int .i64 0, .int .i64 0, .slice none 0 0] 41)
    rw [World.size_alloc, World.size_alloc] at h1
    exact h1)
  have HG : Hid (Gl (((w.alloc (.cells #[.int .i64 1, .int .i64 zone, .int .i64 page, vb, vk, vt] 39)).alloc (.cells #[.int .i64 0, .int .i64 0, .slice none 0 0] 41)).alloc (.cells #[.int .i64 0, .int .i64 0, .slice none 0 0] 41))) := Lib.hid (hg.below HB3.out)
  have HGF := Lib.hid hgf
  have HG0 := Lib.hid hg
  have HX := Lib.hid hx
  have HM := Lib.hid hsm
  have HD := Lib.hid hd
  obtain ⟨A1, c1, A2, c2, A3, c3, rfl, rfl, rfl⟩ := ha.form
  clear h ha hx hsm hd
  clear hg hgf
  go_enter Tryd.func14, Tryd.ntmps14
  go_wp2_with fail
  refine (Z.read zone page HR3.out).mono ?_
  rintro r w4 ⟨v, rfl, hv, hb⟩
  have h4 := told_none HH HR3.out hb
  have k4 := Kept.of_below (F := F) hb
  have HV := Lib.hid hv
  obtain ⟨A4, c4, rfl, _⟩ := hv
  have H4 := Lib.hid h4
  have K4 := Lib.hid k4
  clear h4 k4
  clear hb
  have HT1 : Hid (Blk w4 (w.heap.size + 1) 41 [.int .i64 0, .int .i64 0, .slice none 0 0]) := Lib.hid (K4.out.blk HZ1.out (fun e => by have := HF.out _ e; omega))
  have HT2 : Hid (Blk w4 (w.heap.size + 2) 41 [.int .i64 0, .int .i64 0, .slice none 0 0]) := Lib.hid (K4.out.blk HZ2.out (fun e => by have := HF.out _ e; omega))
  have a0 : w4.cell? ⟨w.heap.size + 1, 0, none⟩ = some (.int .i64 0) := HT1.out.cell 0 (by simp)
  have a1 : w4.cell? ⟨w.heap.size + 1, 1, none⟩ = some (.int .i64 0) := HT1.out.cell 1 (by simp)
  have a2 : w4.cell? ⟨w.heap.size + 1, 2, none⟩ = some (.slice none 0 0) := HT1.out.cell 2 (by simp)
  have b0 : w4.cell? ⟨w.heap.size + 2, 0, none⟩ = some (.int .i64 0) := HT2.out.cell 0 (by simp)
  have b1 : w4.cell? ⟨w.heap.size + 2, 1, none⟩ = some (.int .i64 0) := HT2.out.cell 1 (by simp)
  have b2 : w4.cell? ⟨w.heap.size + 2, 2, none⟩ = some (.slice none 0 0) := HT2.out.cell 2 (by simp)
  have fa0 := HT1.out.free 0
  have fa1 := HT1.out.free 1
  have fa2 := HT1.out.free 2
  have fb0 := HT2.out.free 0
  have fb1 := HT2.out.free 1
  have fb2 := HT2.out.free 2
  obtain ⟨ee, hee⟩ : ∃ ee, S.readE zone page = ee := ⟨_, rfl⟩
  have HEE := Lib.hid hee
  obtain ⟨ll, hll⟩ : ∃ ll, (S.readB zone page).length = ll := ⟨_, rfl⟩
  have HLL := Lib.hid hll
  rw [hee, hll]
  clear hee hll
  have HX4 : Hid (Kept (fun k => w.heap.size ≤ k ∧ k < w.heap.size + 3) w4 (w4.setCell ⟨w.heap.size + 1 + 1, 2, none⟩ (.slice A4 ll c4))) := Lib.hid ((Kept.refl _ _).put (.inl ⟨by omega, by omega⟩) 2 (.slice A4 ll c4))
  have HG4 : Hid (Gl (w4.setCell ⟨w.heap.size + 1 + 1, 2, none⟩ (.slice A4 ll c4))) := Lib.hid (HX4.out.cell (K4.out.cell HG.out HGF.out) (fun e => by have := lt_of_cell HG0.out; simp only at e this; omega))
  have HT3 : Hid (Blk (w4.setCell ⟨w.heap.size + 1 + 1, 2, none⟩ (.slice A4 ll c4)) (w.heap.size + 1) 41 [.int .i64 0, .int .i64 0, .slice none 0 0]) := Lib.hid ((kept_put w4 (w.heap.size + 1 + 1) 2 (.slice A4 ll c4)).blk HT1.out (by omega))
  have HT4 : Hid (Blk (w4.setCell ⟨w.heap.size + 1 + 1, 2, none⟩ (.slice A4 ll c4)) (w.heap.size + 1 + 1) 41 [.int .i64 0, .int .i64 0, .slice A4 ll c4]) := Lib.hid (HT2.out.put 2 (.slice A4 ll c4))
  go_wp2_with fail
  refine (code_is ee HG4.out).mono ?_
  rintro r w5 ⟨rfl, hb5⟩
  have HK5 := Lib.hid (HX4.out.and (Kept.of_below hb5))
  have HT5 := Lib.hid (HT3.out.up hb5 (lt_of_block HT3.out))
  have HT6 := Lib.hid (HT4.out.up hb5 (lt_of_block HT4.out))
  clear hb5 a0 a1 a2 b0 b1 b2 fa0 fa1 fa2 fb0 fb1 fb2
  have a0 := HT5.out.cell 0 (by simp)
  have fa0 := HT5.out.free 0
  have a1 := HT5.out.cell 1 (by simp)
  have fa1 := HT5.out.free 1
  have a2 := HT5.out.cell 2 (by simp)
  have fa2 := HT5.out.free 2
  have b0 := HT6.out.cell 0 (by simp)
  have fb0 := HT6.out.free 0
  have b1 := HT6.out.cell 1 (by simp)
  have fb1 := HT6.out.free 1
  have b2 := HT6.out.cell 2 (by simp)
  have fb2 := HT6.out.free 2
  simp only [List.getElem_cons_zero, List.getElem_cons_succ] at a0 a1 a2 b0 b1 b2
  have HB5 : Hid (Blk (w5.setCell ⟨w.heap.size + 1 + 1, 1, none⟩ (.int .i64 ee)) (w.heap.size + 1) 41 [.int .i64 0, .int .i64 0, .slice none 0 0]) := Lib.hid ((kept_put w5 (w.heap.size + 1 + 1) 1 (.int .i64 ee)).blk HT5.out (by omega))
  have d0 : ((w5.setCell ⟨w.heap.size + 1 + 1, 1, none⟩ (.int .i64 ee)).setCell ⟨w.heap.size + 1, 0, none⟩ (.int .i64 0)).cell? ⟨w.heap.size + 1, 0, none⟩ = some (.int .i64 0) := (HB5.out.put 0 _).cell 0 (by simp)
  have d1 : (((w5.setCell ⟨w.heap.size + 1 + 1, 1, none⟩ (.int .i64 ee)).setCell ⟨w.heap.size + 1, 0, none⟩ (.int .i64 0)).setCell ⟨w.heap.size + 1, 1, none⟩ (.int .i64 ee)).cell? ⟨w.heap.size + 1, 1, none⟩ = some (.int .i64 ee) := ((HB5.out.put 0 _).put 1 _).cell 1 (by simp)
  have d2 : ((((w5.setCell ⟨w.heap.size + 1 + 1, 1, none⟩ (.int .i64 ee)).setCell ⟨w.heap.size + 1, 0, none⟩ (.int .i64 0)).setCell ⟨w.heap.size + 1, 1, none⟩ (.int .i64 ee)).setCell ⟨w.heap.size + 1, 2, none⟩ (.slice A4 ll c4)).cell? ⟨w.heap.size + 1, 2, none⟩ = some (.slice A4 ll c4) := (((HB5.out.put 0 _).put 1 _).put 2 _).cell 2 (by simp)
  go_wp2_with fail
  refine bodyPost_ret (v := .agg #[.int .i64 0, .int .i64 ee, .slice A4 ll c4]) (by simp [results, Tryd.results14, go_sem, d0, d1, d2]) rfl ?_
  rw [(act_one rfl).1, (act_one rfl).2]
  simp only [← HEE.out, ← HLL.out]
  refine told_end HH HB3.out H4.out K4.out HF.out HV.out ?_
  rw [HS3.out]
  repeat (refine Kept.put ?_ (.inl ⟨by omega, by omega⟩) _ _)
  exact HK5.out

theorem do_2 {F : Nat → Prop} {w : World} {rb : Nat} {S : DevS} (vb vk vt : Value) (zone page : Int) (B keep : List Int) (tear : List Bool) (Z : ZOps) (h : Z.D F w rb S) (hg : Gl w) (hgf : ¬ F 0) (hd : S.done ≤ 1000000) (ha : ActF (fun k => k < w.heap.size ∧ ¬ F k) w vb vk vt ⟨2, zone, page, B, keep, tear⟩) (hx : ActOk ⟨2, zone, page, B, keep, tear⟩) (hsm : B.length ≤ 100 ∧ keep.length ≤ 100 ∧ tear.length ≤ 100) :
    Calls Tryd.prog 14 #[.pointer (some ⟨rb, 0, none⟩), .agg #[.int .i64 2, .int .i64 zone, .int .i64 page, vb, vk, vt]] w (ToldIs (fun G u S' => Z.D G u rb S') F (actS S ⟨2, zone, page, B, keep, tear⟩) (actT S ⟨2, zone, page, B, keep, tear⟩) w) := by
  have HH : Holds (fun G u S' => Z.D G u rb S') := holds_z Z rb
  have HF : Hid (∀ k, F k → k < w.heap.size) := Lib.hid (HH.lt h)
  have HB3 : Hid (Below w.heap.size w (((w.alloc (.cells #[.int .i64 2, .int .i64 zone, .int .i64 page, vb, vk, vt] 39)).alloc (.cells #[.int .i64 0, .int .i64 0, .slice none 0 0] 41)).alloc (.cells #[.int .i64 0, .int .i64 0, .slice none 0 0] 41))) := Lib.hid below_three
  have HR3 : Hid (Z.D F (((w.alloc (.cells #[.int .i64 2, .int .i64 zone, .int .i64 page, vb, vk, vt] 39)).alloc (.cells #[.int .i64 0, .int .i64 0, .slice none 0 0] 41)).alloc (.cells #[.int .i64 0, .int .i64 0, .slice none 0 0] 41)) rb S) := Lib.hid (HH.keep (S := S) h (Kept.of_below (F := fun _ => False) HB3.out) (fun _ _ => id))
  have HA3 : Hid (ActF (fun k => k < w.heap.size ∧ ¬ F k) (((w.alloc (.cells #[.int .i64 2, .int .i64 zone, .int .i64 page, vb, vk, vt] 39)).alloc (.cells #[.int .i64 0, .int .i64 0, .slice none 0 0] 41)).alloc (.cells #[.int .i64 0, .int .i64 0, .slice none 0 0] 41)) vb vk vt ⟨2, zone, page, B, keep, tear⟩) := Lib.hid (ha.up HB3.out)
  have HS3 : Hid (((((w.alloc (.cells #[.int .i64 2, .int .i64 zone, .int .i64 page, vb, vk, vt] 39)).alloc (.cells #[.int .i64 0, .int .i64 0, .slice none 0 0] 41)).alloc (.cells #[.int .i64 0, .int .i64 0, .slice none 0 0] 41))).heap.size = w.heap.size + 3) := Lib.hid (by rw [World.size_alloc, World.size_alloc, World.size_alloc])
  have HZ1 : Hid (Blk (((w.alloc (.cells #[.int .i64 2, .int .i64 zone, .int .i64 page, vb, vk, vt] 39)).alloc (.cells #[.int .i64 0, .int .i64 0, .slice none 0 0] 41)).alloc (.cells #[.int .i64 0, .int .i64 0, .slice none 0 0] 41)) (w.heap.size + 1) 41 [.int .i64 0, .int .i64 0, .slice none 0 0]) := Lib.hid (by
    have h1 := heap_alloc_new (w.alloc (.cells #[.int .i64 2, .int .i64 zone, .int .i64 page, vb, vk, vt] 39)) (.cells #[.int .i64 0, .int .i64 0, .slice none 0 0] 41)
    rw [World.size_alloc] at h1
    exact Blk.up h1 (Below.alloc (Below.refl _ _) (Nat.le_refl _) _) (by rw [World.size_alloc, World.size_alloc]; omega))
  have HZ2 : Hid (Blk (((w.alloc (.cells #[.int .i64 2, .int .i64 zone, .int .i64 page, vb, vk, vt] 39)).alloc (.cells #[.int .i64 0, .int .i64 0, .slice none 0 0] 41)).alloc (.cells #[.int .i64 0, .int .i64 0, .slice none 0 0] 41)) (w.heap.size + 2) 41 [.int .i64 0, .int .i64 0, .slice none 0 0]) := Lib.hid (by
    have h1 := heap_alloc_new ((w.alloc (.cells #[.int .i64 2, .int .i64 zone, .int .i64 page, vb, vk, vt] 39)).alloc (.cells #[.int .i64 0, .int .i64 0, .slice none 0 0] 41)) (.cells #[.int .i64 0, .int .i64 0, .slice none 0 0] 41)
    rw [World.size_alloc, World.size_alloc] at h1
    exact h1)
  have HG : Hid (Gl (((w.alloc (.cells #[.int .i64 2, .int .i64 zone, .int .i64 page, vb, vk, vt] 39)).alloc (.cells #[.int .i64 0, .int .i64 0, .slice none 0 0] 41)).alloc (.cells #[.int .i64 0, .int .i64 0, .slice none 0 0] 41))) := Lib.hid (hg.below HB3.out)
  have HGF := Lib.hid hgf
  have HG0 := Lib.hid hg
  have HX := Lib.hid hx
  have HM := Lib.hid hsm
  have HD := Lib.hid hd
  obtain ⟨A1, c1, A2, c2, A3, c3, rfl, rfl, rfl⟩ := ha.form
  clear h ha hx hsm hd
  clear hg hgf
  go_enter Tryd.func14, Tryd.ntmps14
  go_wp2_with fail
  refine (Z.reset zone HR3.out HD.out).mono ?_
  rintro r w4 ⟨rfl, h4, k4⟩
  have H4 := Lib.hid h4
  have K4 := Lib.hid k4
  clear h4 k4
  have HT1 : Hid (Blk w4 (w.heap.size + 1) 41 [.int .i64 0, .int .i64 0, .slice none 0 0]) := Lib.hid (K4.out.blk HZ1.out (fun e => by have := HF.out _ e; omega))
  have HT2 : Hid (Blk w4 (w.heap.size + 2) 41 [.int .i64 0, .int .i64 0, .slice none 0 0]) := Lib.hid (K4.out.blk HZ2.out (fun e => by have := HF.out _ e; omega))
  have a0 : w4.cell? ⟨w.heap.size + 1, 0, none⟩ = some (.int .i64 0) := HT1.out.cell 0 (by simp)
  have a1 : w4.cell? ⟨w.heap.size + 1, 1, none⟩ = some (.int .i64 0) := HT1.out.cell 1 (by simp)
  have a2 : w4.cell? ⟨w.heap.size + 1, 2, none⟩ = some (.slice none 0 0) := HT1.out.cell 2 (by simp)
  have b0 : w4.cell? ⟨w.heap.size + 2, 0, none⟩ = some (.int .i64 0) := HT2.out.cell 0 (by simp)
  have b1 : w4.cell? ⟨w.heap.size + 2, 1, none⟩ = some (.int .i64 0) := HT2.out.cell 1 (by simp)
  have b2 : w4.cell? ⟨w.heap.size + 2, 2, none⟩ = some (.slice none 0 0) := HT2.out.cell 2 (by simp)
  have fa0 := HT1.out.free 0
  have fa1 := HT1.out.free 1
  have fa2 := HT1.out.free 2
  have fb0 := HT2.out.free 0
  have fb1 := HT2.out.free 1
  have fb2 := HT2.out.free 2
  obtain ⟨ee, hee⟩ : ∃ ee, S.mayE (S.resetE zone) = ee := ⟨_, rfl⟩
  have HEE := Lib.hid hee
  rw [hee]
  clear hee
  have HX4 : Hid (Kept (fun k => w.heap.size ≤ k ∧ k < w.heap.size + 3) w4 w4) := Lib.hid (Kept.refl _ _)
  have HG4 : Hid (Gl w4) := Lib.hid (HX4.out.cell (K4.out.cell HG.out HGF.out) (fun e => by have := lt_of_cell HG0.out; simp only at e this; omega))
  have HT3 : Hid (Blk w4 (w.heap.size + 1) 41 [.int .i64 0, .int .i64 0, .slice none 0 0]) := Lib.hid HT1.out
  have HT4 : Hid (Blk w4 (w.heap.size + 1 + 1) 41 [.int .i64 0, .int .i64 0, .slice none 0 0]) := Lib.hid HT2.out
  go_wp2_with fail
  refine (code_is ee HG4.out).mono ?_
  rintro r w5 ⟨rfl, hb5⟩
  have HK5 := Lib.hid (HX4.out.and (Kept.of_below hb5))
  have HT5 := Lib.hid (HT3.out.up hb5 (lt_of_block HT3.out))
  have HT6 := Lib.hid (HT4.out.up hb5 (lt_of_block HT4.out))
  clear hb5 a0 a1 a2 b0 b1 b2 fa0 fa1 fa2 fb0 fb1 fb2
  have a0 := HT5.out.cell 0 (by simp)
  have fa0 := HT5.out.free 0
  have a1 := HT5.out.cell 1 (by simp)
  have fa1 := HT5.out.free 1
  have a2 := HT5.out.cell 2 (by simp)
  have fa2 := HT5.out.free 2
  have b0 := HT6.out.cell 0 (by simp)
  have fb0 := HT6.out.free 0
  have b1 := HT6.out.cell 1 (by simp)
  have fb1 := HT6.out.free 1
  have b2 := HT6.out.cell 2 (by simp)
  have fb2 := HT6.out.free 2
  simp only [List.getElem_cons_zero, List.getElem_cons_succ] at a0 a1 a2 b0 b1 b2
  have HB5 : Hid (Blk (w5.setCell ⟨w.heap.size + 1 + 1, 1, none⟩ (.int .i64 ee)) (w.heap.size + 1) 41 [.int .i64 0, .int .i64 0, .slice none 0 0]) := Lib.hid ((kept_put w5 (w.heap.size + 1 + 1) 1 (.int .i64 ee)).blk HT5.out (by omega))
  have d0 : ((w5.setCell ⟨w.heap.size + 1 + 1, 1, none⟩ (.int .i64 ee)).setCell ⟨w.heap.size + 1, 0, none⟩ (.int .i64 0)).cell? ⟨w.heap.size + 1, 0, none⟩ = some (.int .i64 0) := (HB5.out.put 0 _).cell 0 (by simp)
  have d1 : (((w5.setCell ⟨w.heap.size + 1 + 1, 1, none⟩ (.int .i64 ee)).setCell ⟨w.heap.size + 1, 0, none⟩ (.int .i64 0)).setCell ⟨w.heap.size + 1, 1, none⟩ (.int .i64 ee)).cell? ⟨w.heap.size + 1, 1, none⟩ = some (.int .i64 ee) := ((HB5.out.put 0 _).put 1 _).cell 1 (by simp)
  have d2 : ((((w5.setCell ⟨w.heap.size + 1 + 1, 1, none⟩ (.int .i64 ee)).setCell ⟨w.heap.size + 1, 0, none⟩ (.int .i64 0)).setCell ⟨w.heap.size + 1, 1, none⟩ (.int .i64 ee)).setCell ⟨w.heap.size + 1, 2, none⟩ (.slice none 0 0)).cell? ⟨w.heap.size + 1, 2, none⟩ = some (.slice none 0 0) := (((HB5.out.put 0 _).put 1 _).put 2 _).cell 2 (by simp)
  go_wp2_with fail
  refine bodyPost_ret (v := .agg #[.int .i64 0, .int .i64 ee, .slice none 0 0]) (by simp [results, Tryd.results14, go_sem, d0, d1, d2]) rfl ?_
  rw [(act_two rfl).1, (act_two rfl).2]
  simp only [← HEE.out]
  refine told_end HH HB3.out H4.out K4.out HF.out (BytN.nil _ _) ?_
  rw [HS3.out]
  repeat (refine Kept.put ?_ (.inl ⟨by omega, by omega⟩) _ _)
  exact HK5.out

theorem do_3 {F : Nat → Prop} {w : World} {rb : Nat} {S : DevS} (vb vk vt : Value) (zone page : Int) (B keep : List Int) (tear : List Bool) (Z : ZOps) (h : Z.D F w rb S) (hg : Gl w) (hgf : ¬ F 0) (hd : S.done ≤ 1000000) (ha : ActF (fun k => k < w.heap.size ∧ ¬ F k) w vb vk vt ⟨3, zone, page, B, keep, tear⟩) (hx : ActOk ⟨3, zone, page, B, keep, tear⟩) (hsm : B.length ≤ 100 ∧ keep.length ≤ 100 ∧ tear.length ≤ 100) :
    Calls Tryd.prog 14 #[.pointer (some ⟨rb, 0, none⟩), .agg #[.int .i64 3, .int .i64 zone, .int .i64 page, vb, vk, vt]] w (ToldIs (fun G u S' => Z.D G u rb S') F (actS S ⟨3, zone, page, B, keep, tear⟩) (actT S ⟨3, zone, page, B, keep, tear⟩) w) := by
  have HH : Holds (fun G u S' => Z.D G u rb S') := holds_z Z rb
  have HF : Hid (∀ k, F k → k < w.heap.size) := Lib.hid (HH.lt h)
  have HB3 : Hid (Below w.heap.size w (((w.alloc (.cells #[.int .i64 3, .int .i64 zone, .int .i64 page, vb, vk, vt] 39)).alloc (.cells #[.int .i64 0, .int .i64 0, .slice none 0 0] 41)).alloc (.cells #[.int .i64 0, .int .i64 0, .slice none 0 0] 41))) := Lib.hid below_three
  have HR3 : Hid (Z.D F (((w.alloc (.cells #[.int .i64 3, .int .i64 zone, .int .i64 page, vb, vk, vt] 39)).alloc (.cells #[.int .i64 0, .int .i64 0, .slice none 0 0] 41)).alloc (.cells #[.int .i64 0, .int .i64 0, .slice none 0 0] 41)) rb S) := Lib.hid (HH.keep (S := S) h (Kept.of_below (F := fun _ => False) HB3.out) (fun _ _ => id))
  have HA3 : Hid (ActF (fun k => k < w.heap.size ∧ ¬ F k) (((w.alloc (.cells #[.int .i64 3, .int .i64 zone, .int .i64 page, vb, vk, vt] 39)).alloc (.cells #[.int .i64 0, .int .i64 0, .slice none 0 0] 41)).alloc (.cells #[.int .i64 0, .int .i64 0, .slice none 0 0] 41)) vb vk vt ⟨3, zone, page, B, keep, tear⟩) := Lib.hid (ha.up HB3.out)
  have HS3 : Hid (((((w.alloc (.cells #[.int .i64 3, .int .i64 zone, .int .i64 page, vb, vk, vt] 39)).alloc (.cells #[.int .i64 0, .int .i64 0, .slice none 0 0] 41)).alloc (.cells #[.int .i64 0, .int .i64 0, .slice none 0 0] 41))).heap.size = w.heap.size + 3) := Lib.hid (by rw [World.size_alloc, World.size_alloc, World.size_alloc])
  have HZ1 : Hid (Blk (((w.alloc (.cells #[.int .i64 3, .int .i64 zone, .int .i64 page, vb, vk, vt] 39)).alloc (.cells #[.int .i64 0, .int .i64 0, .slice none 0 0] 41)).alloc (.cells #[.int .i64 0, .int .i64 0, .slice none 0 0] 41)) (w.heap.size + 1) 41 [.int .i64 0, .int .i64 0, .slice none 0 0]) := Lib.hid (by
    have h1 := heap_alloc_new (w.alloc (.cells #[.int .i64 3, .int .i64 zone, .int .i64 page, vb, vk, vt] 39)) (.cells #[.int .i64 0, .int .i64 0, .slice none 0 0] 41)
    rw [World.size_alloc] at h1
    exact Blk.up h1 (Below.alloc (Below.refl _ _) (Nat.le_refl _) _) (by rw [World.size_alloc, World.size_alloc]; omega))
  have HZ2 : Hid (Blk (((w.alloc (.cells #[.int .i64 3, .int .i64 zone, .int .i64 page, vb, vk, vt] 39)).alloc (.cells #[.int .i64 0, .int .i64 0, .slice none 0 0] 41)).alloc (.cells #[.int .i64 0, .int .i64 0, .slice none 0 0] 41)) (w.heap.size + 2) 41 [.int .i64 0, .int .i64 0, .slice none 0 0]) := Lib.hid (by
    have h1 := heap_alloc_new ((w.alloc (.cells #[.int .i64 3, .int .i64 zone, .int .i64 page, vb, vk, vt] 39)).alloc (.cells #[.int .i64 0, .int .i64 0, .slice none 0 0] 41)) (.cells #[.int .i64 0, .int .i64 0, .slice none 0 0] 41)
    rw [World.size_alloc, World.size_alloc] at h1
    exact h1)
  have HG : Hid (Gl (((w.alloc (.cells #[.int .i64 3, .int .i64 zone, .int .i64 page, vb, vk, vt] 39)).alloc (.cells #[.int .i64 0, .int .i64 0, .slice none 0 0] 41)).alloc (.cells #[.int .i64 0, .int .i64 0, .slice none 0 0] 41))) := Lib.hid (hg.below HB3.out)
  have HGF := Lib.hid hgf
  have HG0 := Lib.hid hg
  have HX := Lib.hid hx
  have HM := Lib.hid hsm
  have HD := Lib.hid hd
  obtain ⟨A1, c1, A2, c2, A3, c3, rfl, rfl, rfl⟩ := ha.form
  clear h ha hx hsm hd
  clear hg hgf
  go_enter Tryd.func14, Tryd.ntmps14
  go_wp2_with fail
  refine (Z.finish zone HR3.out HD.out).mono ?_
  rintro r w4 ⟨rfl, h4, k4⟩
  have H4 := Lib.hid h4
  have K4 := Lib.hid k4
  clear h4 k4
  have HT1 : Hid (Blk w4 (w.heap.size + 1) 41 [.int .i64 0, .int .i64 0, .slice none 0 0]) := Lib.hid (K4.out.blk HZ1.out (fun e => by have := HF.out _ e; omega))
  have HT2 : Hid (Blk w4 (w.heap.size + 2) 41 [.int .i64 0, .int .i64 0, .slice none 0 0]) := Lib.hid (K4.out.blk HZ2.out (fun e => by have := HF.out _ e; omega))
  have a0 : w4.cell? ⟨w.heap.size + 1, 0, none⟩ = some (.int .i64 0) := HT1.out.cell 0 (by simp)
  have a1 : w4.cell? ⟨w.heap.size + 1, 1, none⟩ = some (.int .i64 0) := HT1.out.cell 1 (by simp)
  have a2 : w4.cell? ⟨w.heap.size + 1, 2, none⟩ = some (.slice none 0 0) := HT1.out.cell 2 (by simp)
  have b0 : w4.cell? ⟨w.heap.size + 2, 0, none⟩ = some (.int .i64 0) := HT2.out.cell 0 (by simp)
  have b1 : w4.cell? ⟨w.heap.size + 2, 1, none⟩ = some (.int .i64 0) := HT2.out.cell 1 (by simp)
  have b2 : w4.cell? ⟨w.heap.size + 2, 2, none⟩ = some (.slice none 0 0) := HT2.out.cell 2 (by simp)
  have fa0 := HT1.out.free 0
  have fa1 := HT1.out.free 1
  have fa2 := HT1.out.free 2
  have fb0 := HT2.out.free 0
  have fb1 := HT2.out.free 1
  have fb2 := HT2.out.free 2
  obtain ⟨ee, hee⟩ : ∃ ee, S.mayE (S.finE zone) = ee := ⟨_, rfl⟩
  have HEE := Lib.hid hee
  rw [hee]
  clear hee
  have HX4 : Hid (Kept (fun k => w.heap.size ≤ k ∧ k < w.heap.size + 3) w4 w4) := Lib.hid (Kept.refl _ _)
  have HG4 : Hid (Gl w4) := Lib.hid (HX4.out.cell (K4.out.cell HG.out HGF.out) (fun e => by have := lt_of_cell HG0.out; simp only at e this; omega))
  have HT3 : Hid (Blk w4 (w.heap.size + 1) 41 [.int .i64 0, .int .i64 0, .slice none 0 0]) := Lib.hid HT1.out
  have HT4 : Hid (Blk w4 (w.heap.size + 1 + 1) 41 [.int .i64 0, .int .i64 0, .slice none 0 0]) := Lib.hid HT2.out
  go_wp2_with fail
  refine (code_is ee HG4.out).mono ?_
  rintro r w5 ⟨rfl, hb5⟩
  have HK5 := Lib.hid (HX4.out.and (Kept.of_below hb5))
  have HT5 := Lib.hid (HT3.out.up hb5 (lt_of_block HT3.out))
  have HT6 := Lib.hid (HT4.out.up hb5 (lt_of_block HT4.out))
  clear hb5 a0 a1 a2 b0 b1 b2 fa0 fa1 fa2 fb0 fb1 fb2
  have a0 := HT5.out.cell 0 (by simp)
  have fa0 := HT5.out.free 0
  have a1 := HT5.out.cell 1 (by simp)
  have fa1 := HT5.out.free 1
  have a2 := HT5.out.cell 2 (by simp)
  have fa2 := HT5.out.free 2
  have b0 := HT6.out.cell 0 (by simp)
  have fb0 := HT6.out.free 0
  have b1 := HT6.out.cell 1 (by simp)
  have fb1 := HT6.out.free 1
  have b2 := HT6.out.cell 2 (by simp)
  have fb2 := HT6.out.free 2
  simp only [List.getElem_cons_zero, List.getElem_cons_succ] at a0 a1 a2 b0 b1 b2
  have HB5 : Hid (Blk (w5.setCell ⟨w.heap.size + 1 + 1, 1, none⟩ (.int .i64 ee)) (w.heap.size + 1) 41 [.int .i64 0, .int .i64 0, .slice none 0 0]) := Lib.hid ((kept_put w5 (w.heap.size + 1 + 1) 1 (.int .i64 ee)).blk HT5.out (by omega))
  have d0 : ((w5.setCell ⟨w.heap.size + 1 + 1, 1, none⟩ (.int .i64 ee)).setCell ⟨w.heap.size + 1, 0, none⟩ (.int .i64 0)).cell? ⟨w.heap.size + 1, 0, none⟩ = some (.int .i64 0) := (HB5.out.put 0 _).cell 0 (by simp)
  have d1 : (((w5.setCell ⟨w.heap.size + 1 + 1, 1, none⟩ (.int .i64 ee)).setCell ⟨w.heap.size + 1, 0, none⟩ (.int .i64 0)).setCell ⟨w.heap.size + 1, 1, none⟩ (.int .i64 ee)).cell? ⟨w.heap.size + 1, 1, none⟩ = some (.int .i64 ee) := ((HB5.out.put 0 _).put 1 _).cell 1 (by simp)
  have d2 : ((((w5.setCell ⟨w.heap.size + 1 + 1, 1, none⟩ (.int .i64 ee)).setCell ⟨w.heap.size + 1, 0, none⟩ (.int .i64 0)).setCell ⟨w.heap.size + 1, 1, none⟩ (.int .i64 ee)).setCell ⟨w.heap.size + 1, 2, none⟩ (.slice none 0 0)).cell? ⟨w.heap.size + 1, 2, none⟩ = some (.slice none 0 0) := (((HB5.out.put 0 _).put 1 _).put 2 _).cell 2 (by simp)
  go_wp2_with fail
  refine bodyPost_ret (v := .agg #[.int .i64 0, .int .i64 ee, .slice none 0 0]) (by simp [results, Tryd.results14, go_sem, d0, d1, d2]) rfl ?_
  rw [(act_three rfl).1, (act_three rfl).2]
  simp only [← HEE.out]
  refine told_end HH HB3.out H4.out K4.out HF.out (BytN.nil _ _) ?_
  rw [HS3.out]
  repeat (refine Kept.put ?_ (.inl ⟨by omega, by omega⟩) _ _)
  exact HK5.out

theorem do_4 {F : Nat → Prop} {w : World} {rb : Nat} {S : DevS} (vb vk vt : Value) (zone page : Int) (B keep : List Int) (tear : List Bool) (Z : ZOps) (h : Z.D F w rb S) (hg : Gl w) (hgf : ¬ F 0) (hd : S.done ≤ 1000000) (ha : ActF (fun k => k < w.heap.size ∧ ¬ F k) w vb vk vt ⟨4, zone, page, B, keep, tear⟩) (hx : ActOk ⟨4, zone, page, B, keep, tear⟩) (hsm : B.length ≤ 100 ∧ keep.length ≤ 100 ∧ tear.length ≤ 100) :
    Calls Tryd.prog 14 #[.pointer (some ⟨rb, 0, none⟩), .agg #[.int .i64 4, .int .i64 zone, .int .i64 page, vb, vk, vt]] w (ToldIs (fun G u S' => Z.D G u rb S') F (actS S ⟨4, zone, page, B, keep, tear⟩) (actT S ⟨4, zone, page, B, keep, tear⟩) w) := by
  have HH : Holds (fun G u S' => Z.D G u rb S') := holds_z Z rb
  have HF : Hid (∀ k, F k → k < w.heap.size) := Lib.hid (HH.lt h)
  have HB3 : Hid (Below w.heap.size w (((w.alloc (.cells #[.int .i64 4, .int .i64 zone, .int .i64 page, vb, vk, vt] 39)).alloc (.cells #[.int .i64 0, .int .i64 0, .slice none 0 0] 41)).alloc (.cells #[.int .i64 0, .int .i64 0, .slice none 0 0] 41))) := Lib.hid below_three
  have HR3 : Hid (Z.D F (((w.alloc (.cells #[.int .i64 4, .int .i64 zone, .int .i64 page, vb, vk, vt] 39)).alloc (.cells #[.int .i64 0, .int .i64 0, .slice none 0 0] 41)).alloc (.cells #[.int .i64 0, .int .i64 0, .slice none 0 0] 41)) rb S) := Lib.hid (HH.keep (S := S) h (Kept.of_below (F := fun _ => False) HB3.out) (fun _ _ => id))
  have HA3 : Hid (ActF (fun k => k < w.heap.size ∧ ¬ F k) (((w.alloc (.cells #[.int .i64 4, .int .i64 zone, .int .i64 page, vb, vk, vt] 39)).alloc (.cells #[.int .i64 0, .int .i64 0, .slice none 0 0] 41)).alloc (.cells #[.int .i64 0, .int .i64 0, .slice none 0 0] 41)) vb vk vt ⟨4, zone, page, B, keep, tear⟩) := Lib.hid (ha.up HB3.out)
  have HS3 : Hid (((((w.alloc (.cells #[.int .i64 4, .int .i64 zone, .int .i64 page, vb, vk, vt] 39)).alloc (.cells #[.int .i64 0, .int .i64 0, .slice none 0 0] 41)).alloc (.cells #[.int .i64 0, .int .i64 0, .slice none 0 0] 41))).heap.size = w.heap.size + 3) := Lib.hid (by rw [World.size_alloc, World.size_alloc, World.size_alloc])
  have HZ1 : Hid (Blk (((w.alloc (.cells #[.int .i64 4, .int .i64 zone, .int .i64 page, vb, vk, vt] 39)).alloc (.cells #[.int .i64 0, .int .i64 0, .slice none 0 0] 41)).alloc (.cells #[.int .i64 0, .int .i64 0, .slice none 0 0] 41)) (w.heap.size + 1) 41 [.int .i64 0, .int .i64 0, .slice none 0 0]) := Lib.hid (by
    have h1 := heap_alloc_new (w.alloc (.cells #[.int .i64 4, .int .i64 zone, .int .i64 page, vb, vk, vt] 39)) (.cells #[.int .i64 0, .int .i64 0, .slice none 0 0] 41)
    rw [World.size_alloc] at h1
    exact Blk.up h1 (Below.alloc (Below.refl _ _) (Nat.le_refl _) _) (by rw [World.size_alloc, World.size_alloc]; omega))
  have HZ2 : Hid (Blk (((w.alloc (.cells #[.int .i64 4, .int .i64 zone, .int .i64 page, vb, vk, vt] 39)).alloc (.cells #[.int .i64 0, .int .i64 0, .slice none 0 0] 41)).alloc (.cells #[.int .i64 0, .int .i64 0, .slice none 0 0] 41)) (w.heap.size + 2) 41 [.int .i64 0, .int .i64 0, .slice none 0 0]) := Lib.hid (by
    have h1 := heap_alloc_new ((w.alloc (.cells #[.int .i64 4, .int .i64 zone, .int .i64 page, vb, vk, vt] 39)).alloc (.cells #[.int .i64 0, .int .i64 0, .slice none 0 0] 41)) (.cells #[.int .i64 0, .int .i64 0, .slice none 0 0] 41)
    rw [World.size_alloc, World.size_alloc] at h1
    exact h1)
  have HG : Hid (Gl (((w.alloc (.cells #[.int .i64 4, .int .i64 zone, .int .i64 page, vb, vk, vt] 39)).alloc (.cells #[.int .i64 0, .int .i64 0, .slice none 0 0] 41)).alloc (.cells #[.int .i64 0, .int .i64 0, .slice none 0 0] 41))) := Lib.hid (hg.below HB3.out)
  have HGF := Lib.hid hgf
  have HG0 := Lib.hid hg
  have HX := Lib.hid hx
  have HM := Lib.hid hsm
  have HD := Lib.hid hd
  obtain ⟨A1, c1, A2, c2, A3, c3, rfl, rfl, rfl⟩ := ha.form
  clear h ha hx hsm hd
  clear hg hgf
  go_enter Tryd.func14, Tryd.ntmps14
  go_wp2_with fail
  refine (Z.flush HR3.out HD.out).mono ?_
  rintro r w4 ⟨rfl, h4, k4⟩
  have H4 := Lib.hid h4
  have K4 := Lib.hid k4
  clear h4 k4
  have HT1 : Hid (Blk w4 (w.heap.size + 1) 41 [.int .i64 0, .int .i64 0, .slice none 0 0]) := Lib.hid (K4.out.blk HZ1.out (fun e => by have := HF.out _ e; omega))
  have HT2 : Hid (Blk w4 (w.heap.size + 2) 41 [.int .i64 0, .int .i64 0, .slice none 0 0]) := Lib.hid (K4.out.blk HZ2.out (fun e => by have := HF.out _ e; omega))
  have a0 : w4.cell? ⟨w.heap.size + 1, 0, none⟩ = some (.int .i64 0) := HT1.out.cell 0 (by simp)
  have a1 : w4.cell? ⟨w.heap.size + 1, 1, none⟩ = some (.int .i64 0) := HT1.out.cell 1 (by simp)
  have a2 : w4.cell? ⟨w.heap.size + 1, 2, none⟩ = some (.slice none 0 0) := HT1.out.cell 2 (by simp)
  have b0 : w4.cell? ⟨w.heap.size + 2, 0, none⟩ = some (.int .i64 0) := HT2.out.cell 0 (by simp)
  have b1 : w4.cell? ⟨w.heap.size + 2, 1, none⟩ = some (.int .i64 0) := HT2.out.cell 1 (by simp)
  have b2 : w4.cell? ⟨w.heap.size + 2, 2, none⟩ = some (.slice none 0 0) := HT2.out.cell 2 (by simp)
  have fa0 := HT1.out.free 0
  have fa1 := HT1.out.free 1
  have fa2 := HT1.out.free 2
  have fb0 := HT2.out.free 0
  have fb1 := HT2.out.free 1
  have fb2 := HT2.out.free 2
  obtain ⟨ee, hee⟩ : ∃ ee, S.mayE 0 = ee := ⟨_, rfl⟩
  have HEE := Lib.hid hee
  rw [hee]
  clear hee
  have HX4 : Hid (Kept (fun k => w.heap.size ≤ k ∧ k < w.heap.size + 3) w4 w4) := Lib.hid (Kept.refl _ _)
  have HG4 : Hid (Gl w4) := Lib.hid (HX4.out.cell (K4.out.cell HG.out HGF.out) (fun e => by have := lt_of_cell HG0.out; simp only at e this; omega))
  have HT3 : Hid (Blk w4 (w.heap.size + 1) 41 [.int .i64 0, .int .i64 0, .slice none 0 0]) := Lib.hid HT1.out
  have HT4 : Hid (Blk w4 (w.heap.size + 1 + 1) 41 [.int .i64 0, .int .i64 0, .slice none 0 0]) := Lib.hid HT2.out
  go_wp2_with fail
  refine (code_is ee HG4.out).mono ?_
  rintro r w5 ⟨rfl, hb5⟩
  have HK5 := Lib.hid (HX4.out.and (Kept.of_below hb5))
  have HT5 := Lib.hid (HT3.out.up hb5 (lt_of_block HT3.out))
  have HT6 := Lib.hid (HT4.out.up hb5 (lt_of_block HT4.out))
  clear hb5 a0 a1 a2 b0 b1 b2 fa0 fa1 fa2 fb0 fb1 fb2
  have a0 := HT5.out.cell 0 (by simp)
  have fa0 := HT5.out.free 0
  have a1 := HT5.out.cell 1 (by simp)
  have fa1 := HT5.out.free 1
  have a2 := HT5.out.cell 2 (by simp)
  have fa2 := HT5.out.free 2
  have b0 := HT6.out.cell 0 (by simp)
  have fb0 := HT6.out.free 0
  have b1 := HT6.out.cell 1 (by simp)
  have fb1 := HT6.out.free 1
  have b2 := HT6.out.cell 2 (by simp)
  have fb2 := HT6.out.free 2
  simp only [List.getElem_cons_zero, List.getElem_cons_succ] at a0 a1 a2 b0 b1 b2
  have HB5 : Hid (Blk (w5.setCell ⟨w.heap.size + 1 + 1, 1, none⟩ (.int .i64 ee)) (w.heap.size + 1) 41 [.int .i64 0, .int .i64 0, .slice none 0 0]) := Lib.hid ((kept_put w5 (w.heap.size + 1 + 1) 1 (.int .i64 ee)).blk HT5.out (by omega))
  have d0 : ((w5.setCell ⟨w.heap.size + 1 + 1, 1, none⟩ (.int .i64 ee)).setCell ⟨w.heap.size + 1, 0, none⟩ (.int .i64 0)).cell? ⟨w.heap.size + 1, 0, none⟩ = some (.int .i64 0) := (HB5.out.put 0 _).cell 0 (by simp)
  have d1 : (((w5.setCell ⟨w.heap.size + 1 + 1, 1, none⟩ (.int .i64 ee)).setCell ⟨w.heap.size + 1, 0, none⟩ (.int .i64 0)).setCell ⟨w.heap.size + 1, 1, none⟩ (.int .i64 ee)).cell? ⟨w.heap.size + 1, 1, none⟩ = some (.int .i64 ee) := ((HB5.out.put 0 _).put 1 _).cell 1 (by simp)
  have d2 : ((((w5.setCell ⟨w.heap.size + 1 + 1, 1, none⟩ (.int .i64 ee)).setCell ⟨w.heap.size + 1, 0, none⟩ (.int .i64 0)).setCell ⟨w.heap.size + 1, 1, none⟩ (.int .i64 ee)).setCell ⟨w.heap.size + 1, 2, none⟩ (.slice none 0 0)).cell? ⟨w.heap.size + 1, 2, none⟩ = some (.slice none 0 0) := (((HB5.out.put 0 _).put 1 _).put 2 _).cell 2 (by simp)
  go_wp2_with fail
  refine bodyPost_ret (v := .agg #[.int .i64 0, .int .i64 ee, .slice none 0 0]) (by simp [results, Tryd.results14, go_sem, d0, d1, d2]) rfl ?_
  rw [(act_four rfl).1, (act_four rfl).2]
  simp only [← HEE.out]
  refine told_end HH HB3.out H4.out K4.out HF.out (BytN.nil _ _) ?_
  rw [HS3.out]
  repeat (refine Kept.put ?_ (.inl ⟨by omega, by omega⟩) _ _)
  exact HK5.out

theorem do_5 {F : Nat → Prop} {w : World} {rb : Nat} {S : DevS} (vb vk vt : Value) (zone page : Int) (B keep : List Int) (tear : List Bool) (Z : ZOps) (h : Z.D F w rb S) (hg : Gl w) (hgf : ¬ F 0) (hd : S.done ≤ 1000000) (ha : ActF (fun k => k < w.heap.size ∧ ¬ F k) w vb vk vt ⟨5, zone, page, B, keep, tear⟩) (hx : ActOk ⟨5, zone, page, B, keep, tear⟩) (hsm : B.length ≤ 100 ∧ keep.length ≤ 100 ∧ tear.length ≤ 100) :
    Calls Tryd.prog 14 #[.pointer (some ⟨rb, 0, none⟩), .agg #[.int .i64 5, .int .i64 zone, .int .i64 page, vb, vk, vt]] w (ToldIs (fun G u S' => Z.D G u rb S') F (actS S ⟨5, zone, page, B, keep, tear⟩) (actT S ⟨5, zone, page, B, keep, tear⟩) w) := by
  have HH : Holds (fun G u S' => Z.D G u rb S') := holds_z Z rb
  have HF : Hid (∀ k, F k → k < w.heap.size) := Lib.hid (HH.lt h)
  have HB3 : Hid (Below w.heap.size w (((w.alloc (.cells #[.int .i64 5, .int .i64 zone, .int .i64 page, vb, vk, vt] 39)).alloc (.cells #[.int .i64 0, .int .i64 0, .slice none 0 0] 41)).alloc (.cells #[.int .i64 0, .int .i64 0, .slice none 0 0] 41))) := Lib.hid below_three
  have HR3 : Hid (Z.D F (((w.alloc (.cells #[.int .i64 5, .int .i64 zone, .int .i64 page, vb, vk, vt] 39)).alloc (.cells #[.int .i64 0, .int .i64 0, .slice none 0 0] 41)).alloc (.cells #[.int .i64 0, .int .i64 0, .slice none 0 0] 41)) rb S) := Lib.hid (HH.keep (S := S) h (Kept.of_below (F := fun _ => False) HB3.out) (fun _ _ => id))
  have HA3 : Hid (ActF (fun k => k < w.heap.size ∧ ¬ F k) (((w.alloc (.cells #[.int .i64 5, .int .i64 zone, .int .i64 page, vb, vk, vt] 39)).alloc (.cells #[.int .i64 0, .int .i64 0, .slice none 0 0] 41)).alloc (.cells #[.int .i64 0, .int .i64 0, .slice none 0 0] 41)) vb vk vt ⟨5, zone, page, B, keep, tear⟩) := Lib.hid (ha.up HB3.out)
  have HS3 : Hid (((((w.alloc (.cells #[.int .i64 5, .int .i64 zone, .int .i64 page, vb, vk, vt] 39)).alloc (.cells #[.int .i64 0, .int .i64 0, .slice none 0 0] 41)).alloc (.cells #[.int .i64 0, .int .i64 0, .slice none 0 0] 41))).heap.size = w.heap.size + 3) := Lib.hid (by rw [World.size_alloc, World.size_alloc, World.size_alloc])
  have HZ1 : Hid (Blk (((w.alloc (.cells #[.int .i64 5, .int .i64 zone, .int .i64 page, vb, vk, vt] 39)).alloc (.cells #[.int .i64 0, .int .i64 0, .slice none 0 0] 41)).alloc (.cells #[.int .i64 0, .int .i64 0, .slice none 0 0] 41)) (w.heap.size + 1) 41 [.int .i64 0, .int .i64 0, .slice none 0 0]) := Lib.hid (by
    have h1 := heap_alloc_new (w.alloc (.cells #[.int .i64 5, .int .i64 zone, .int .i64 page, vb, vk, vt] 39)) (.cells #[.int .i64 0, .int .i64 0, .slice none 0 0] 41)
    rw [World.size_alloc] at h1
    exact Blk.up h1 (Below.alloc (Below.refl _ _) (Nat.le_refl _) _) (by rw [World.size_alloc, World.size_alloc]; omega))
  have HZ2 : Hid (Blk (((w.alloc (.cells #[.int .i64 5, .int .i64 zone, .int .i64 page, vb, vk, vt] 39)).alloc (.cells #[.int .i64 0, .int .i64 0, .slice none 0 0] 41)).alloc (.cells #[.int .i64 0, .int .i64 0, .slice none 0 0] 41)) (w.heap.size + 2) 41 [.int .i64 0, .int .i64 0, .slice none 0 0]) := Lib.hid (by
    have h1 := heap_alloc_new ((w.alloc (.cells #[.int .i64 5, .int .i64 zone, .int .i64 page, vb, vk, vt] 39)).alloc (.cells #[.int .i64 0, .int .i64 0, .slice none 0 0] 41)) (.cells #[.int .i64 0, .int .i64 0, .slice none 0 0] 41)
    rw [World.size_alloc, World.size_alloc] at h1
    exact h1)
  have HG : Hid (Gl (((w.alloc (.cells #[.int .i64 5, .int .i64 zone, .int .i64 page, vb, vk, vt] 39)).alloc (.cells #[.int .i64 0, .int .i64 0, .slice none 0 0] 41)).alloc (.cells #[.int .i64 0, .int .i64 0, .slice none 0 0] 41))) := Lib.hid (hg.below HB3.out)
  have HGF := Lib.hid hgf
  have HG0 := Lib.hid hg
  have HX := Lib.hid hx
  have HM := Lib.hid hsm
  have HD := Lib.hid hd
  obtain ⟨A1, c1, A2, c2, A3, c3, rfl, rfl, rfl⟩ := ha.form
  clear h ha hx hsm hd
  clear hg hgf
  go_enter Tryd.func14, Tryd.ntmps14
  go_wp2_with fail
  refine (Z.fuse page HR3.out HX.out.1).mono ?_
  rintro r w4 ⟨rfl, h4, k4⟩
  have H4 := Lib.hid h4
  have K4 := Lib.hid k4
  clear h4 k4
  have HT1 : Hid (Blk w4 (w.heap.size + 1) 41 [.int .i64 0, .int .i64 0, .slice none 0 0]) := Lib.hid (K4.out.blk HZ1.out (fun e => by have := HF.out _ e; omega))
  have HT2 : Hid (Blk w4 (w.heap.size + 2) 41 [.int .i64 0, .int .i64 0, .slice none 0 0]) := Lib.hid (K4.out.blk HZ2.out (fun e => by have := HF.out _ e; omega))
  have a0 : w4.cell? ⟨w.heap.size + 1, 0, none⟩ = some (.int .i64 0) := HT1.out.cell 0 (by simp)
  have a1 : w4.cell? ⟨w.heap.size + 1, 1, none⟩ = some (.int .i64 0) := HT1.out.cell 1 (by simp)
  have a2 : w4.cell? ⟨w.heap.size + 1, 2, none⟩ = some (.slice none 0 0) := HT1.out.cell 2 (by simp)
  have b0 : w4.cell? ⟨w.heap.size + 2, 0, none⟩ = some (.int .i64 0) := HT2.out.cell 0 (by simp)
  have b1 : w4.cell? ⟨w.heap.size + 2, 1, none⟩ = some (.int .i64 0) := HT2.out.cell 1 (by simp)
  have b2 : w4.cell? ⟨w.heap.size + 2, 2, none⟩ = some (.slice none 0 0) := HT2.out.cell 2 (by simp)
  have fa0 := HT1.out.free 0
  have fa1 := HT1.out.free 1
  have fa2 := HT1.out.free 2
  have fb0 := HT2.out.free 0
  have fb1 := HT2.out.free 1
  have fb2 := HT2.out.free 2
  have HX4 : Hid (Kept (fun k => w.heap.size ≤ k ∧ k < w.heap.size + 3) w4 w4) := Lib.hid (Kept.refl _ _)
  have HG4 : Hid (Gl w4) := Lib.hid (HX4.out.cell (K4.out.cell HG.out HGF.out) (fun e => by have := lt_of_cell HG0.out; simp only at e this; omega))
  have HT3 : Hid (Blk w4 (w.heap.size + 1) 41 [.int .i64 0, .int .i64 0, .slice none 0 0]) := Lib.hid HT1.out
  have HT4 : Hid (Blk w4 (w.heap.size + 1 + 1) 41 [.int .i64 0, .int .i64 0, .slice none 0 0]) := Lib.hid HT2.out
  go_wp2_with fail
  refine (code_nil _).mono ?_
  rintro r w5 ⟨rfl, hb5⟩
  have HK5 := Lib.hid (HX4.out.and (Kept.of_below hb5))
  have HT5 := Lib.hid (HT3.out.up hb5 (lt_of_block HT3.out))
  have HT6 := Lib.hid (HT4.out.up hb5 (lt_of_block HT4.out))
  clear hb5 a0 a1 a2 b0 b1 b2 fa0 fa1 fa2 fb0 fb1 fb2
  have a0 := HT5.out.cell 0 (by simp)
  have fa0 := HT5.out.free 0
  have a1 := HT5.out.cell 1 (by simp)
  have fa1 := HT5.out.free 1
  have a2 := HT5.out.cell 2 (by simp)
  have fa2 := HT5.out.free 2
  have b0 := HT6.out.cell 0 (by simp)
  have fb0 := HT6.out.free 0
  have b1 := HT6.out.cell 1 (by simp)
  have fb1 := HT6.out.free 1
  have b2 := HT6.out.cell 2 (by simp)
  have fb2 := HT6.out.free 2
  simp only [List.getElem_cons_zero, List.getElem_cons_succ] at a0 a1 a2 b0 b1 b2
  have HB5 : Hid (Blk (w5.setCell ⟨w.heap.size + 1 + 1, 1, none⟩ (.int .i64 0)) (w.heap.size + 1) 41 [.int .i64 0, .int .i64 0, .slice none 0 0]) := Lib.hid ((kept_put w5 (w.heap.size + 1 + 1) 1 (.int .i64 0)).blk HT5.out (by omega))
  have d0 : ((w5.setCell ⟨w.heap.size + 1 + 1, 1, none⟩ (.int .i64 0)).setCell ⟨w.heap.size + 1, 0, none⟩ (.int .i64 0)).cell? ⟨w.heap.size + 1, 0, none⟩ = some (.int .i64 0) := (HB5.out.put 0 _).cell 0 (by simp)
  have d1 : (((w5.setCell ⟨w.heap.size + 1 + 1, 1, none⟩ (.int .i64 0)).setCell ⟨w.heap.size + 1, 0, none⟩ (.int .i64 0)).setCell ⟨w.heap.size + 1, 1, none⟩ (.int .i64 0)).cell? ⟨w.heap.size + 1, 1, none⟩ = some (.int .i64 0) := ((HB5.out.put 0 _).put 1 _).cell 1 (by simp)
  have d2 : ((((w5.setCell ⟨w.heap.size + 1 + 1, 1, none⟩ (.int .i64 0)).setCell ⟨w.heap.size + 1, 0, none⟩ (.int .i64 0)).setCell ⟨w.heap.size + 1, 1, none⟩ (.int .i64 0)).setCell ⟨w.heap.size + 1, 2, none⟩ (.slice none 0 0)).cell? ⟨w.heap.size + 1, 2, none⟩ = some (.slice none 0 0) := (((HB5.out.put 0 _).put 1 _).put 2 _).cell 2 (by simp)
  go_wp2_with fail
  refine bodyPost_ret (v := .agg #[.int .i64 0, .int .i64 0, .slice none 0 0]) (by simp [results, Tryd.results14, go_sem, d0, d1, d2]) rfl ?_
  rw [(act_five rfl).1, (act_five rfl).2]
  refine told_end HH HB3.out H4.out K4.out HF.out (BytN.nil _ _) ?_
  rw [HS3.out]
  repeat (refine Kept.put ?_ (.inl ⟨by omega, by omega⟩) _ _)
  exact HK5.out

theorem do_6 {F : Nat → Prop} {w : World} {rb : Nat} {S : DevS} (vb vk vt : Value) (zone page : Int) (B keep : List Int) (tear : List Bool) (Z : ZOps) (h : Z.D F w rb S) (hg : Gl w) (hgf : ¬ F 0) (hd : S.done ≤ 1000000) (ha : ActF (fun k => k < w.heap.size ∧ ¬ F k) w vb vk vt ⟨6, zone, page, B, keep, tear⟩) (hx : ActOk ⟨6, zone, page, B, keep, tear⟩) (hsm : B.length ≤ 100 ∧ keep.length ≤ 100 ∧ tear.length ≤ 100) :
    Calls Tryd.prog 14 #[.pointer (some ⟨rb, 0, none⟩), .agg #[.int .i64 6, .int .i64 zone, .int .i64 page, vb, vk, vt]] w (ToldIs (fun G u S' => Z.D G u rb S') F (actS S ⟨6, zone, page, B, keep, tear⟩) (actT S ⟨6, zone, page, B, keep, tear⟩) w) := by
  have HH : Holds (fun G u S' => Z.D G u rb S') := holds_z Z rb
  have HF : Hid (∀ k, F k → k < w.heap.size) := Lib.hid (HH.lt h)
  have HB3 : Hid (Below w.heap.size w (((w.alloc (.cells #[.int .i64 6, .int .i64 zone, .int .i64 page, vb, vk, vt] 39)).alloc (.cells #[.int .i64 0, .int .i64 0, .slice none 0 0] 41)).alloc (.cells #[.int .i64 0, .int .i64 0, .slice none 0 0] 41))) := Lib.hid below_three
  have HR3 : Hid (Z.D F (((w.alloc (.cells #[.int .i64 6, .int .i64 zone, .int .i64 page, vb, vk, vt] 39)).alloc (.cells #[.int .i64 0, .int .i64 0, .slice none 0 0] 41)).alloc (.cells #[.int .i64 0, .int .i64 0, .slice none 0 0] 41)) rb S) := Lib.hid (HH.keep (S := S) h (Kept.of_below (F := fun _ => False) HB3.out) (fun _ _ => id))
  have HA3 : Hid (ActF (fun k => k < w.heap.size ∧ ¬ F k) (((w.alloc (.cells #[.int .i64 6, .int .i64 zone, .int .i64 page, vb, vk, vt] 39)).alloc (.cells #[.int .i64 0, .int .i64 0, .slice none 0 0] 41)).alloc (.cells #[.int .i64 0, .int .i64 0, .slice none 0 0] 41)) vb vk vt ⟨6, zone, page, B, keep, tear⟩) := Lib.hid (ha.up HB3.out)
  have HS3 : Hid (((((w.alloc (.cells #[.int .i64 6, .int .i64 zone, .int .i64 page, vb, vk, vt] 39)).alloc (.cells #[.int .i64 0, .int .i64 0, .slice none 0 0] 41)).alloc (.cells #[.int .i64 0, .int .i64 0, .slice none 0 0] 41))).heap.size = w.heap.size + 3) := Lib.hid (by rw [World.size_alloc, World.size_alloc, World.size_alloc])
  have HZ1 : Hid (Blk (((w.alloc (.cells #[.int .i64 6, .int .i64 zone, .int .i64 page, vb, vk, vt] 39)).alloc (.cells #[.int .i64 0, .int .i64 0, .slice none 0 0] 41)).alloc (.cells #[.int .i64 0, .int .i64 0, .slice none 0 0] 41)) (w.heap.size + 1) 41 [.int .i64 0, .int .i64 0, .slice none 0 0]) := Lib.hid (by
    have h1 := heap_alloc_new (w.alloc (.cells #[.int .i64 6, .int .i64 zone, .int .i64 page, vb, vk, vt] 39)) (.cells #[.int .i64 0, .int .i64 0, .slice none 0 0] 41)
    rw [World.size_alloc] at h1
    exact Blk.up h1 (Below.alloc (Below.refl _ _) (Nat.le_refl _) _) (by rw [World.size_alloc, World.size_alloc]; omega))
  have HZ2 : Hid (Blk (((w.alloc (.cells #[.int .i64 6, .int .i64 zone, .int .i64 page, vb, vk, vt] 39)).alloc (.cells #[.int .i64 0, .int .i64 0, .slice none 0 0] 41)).alloc (.cells #[.int .i64 0, .int .i64 0, .slice none 0 0] 41)) (w.heap.size + 2) 41 [.int .i64 0, .int .i64 0, .slice none 0 0]) := Lib.hid (by
    have h1 := heap_alloc_new ((w.alloc (.cells #[.int .i64 6, .int .i64 zone, .int .i64 page, vb, vk, vt] 39)).alloc (.cells #[.int .i64 0, .int .i64 0, .slice none 0 0] 41)) (.cells #[.int .i64 0, .int .i64 0, .slice none 0 0] 41)
    rw [World.size_alloc, World.size_alloc] at h1
    exact h1)
  have HG : Hid (Gl (((w.alloc (.cells #[.int .i64 6, .int .i64 zone, .int .i64 page, vb, vk, vt] 39)).alloc (.cells #[.int .i64 0, .int .i64 0, .slice none 0 0] 41)).alloc (.cells #[.int .i64 0, .int .i64 0, .slice none 0 0] 41))) := Lib.hid (hg.below HB3.out)
  have HGF := Lib.hid hgf
  have HG0 := Lib.hid hg
  have HX := Lib.hid hx
  have HM := Lib.hid hsm
  have HD := Lib.hid hd
  obtain ⟨A1, c1, A2, c2, A3, c3, rfl, rfl, rfl⟩ := ha.form
  clear h ha hx hsm hd
  clear hg hgf
  go_enter Tryd.func14, Tryd.ntmps14
  go_wp2_with fail
  refine (Z.crash _ _ keep tear HR3.out (HA3.out.2.1.mono (fun k hk => hk.2)) (HA3.out.2.2.mono (fun k hk => hk.2)) HM.out.2.1 HM.out.2.2 HX.out.2.2).mono ?_
  rintro r w4 ⟨rfl, h4, k4⟩
  have H4 := Lib.hid h4
  have K4 := Lib.hid k4
  clear h4 k4
  have HT1 : Hid (Blk w4 (w.heap.size + 1) 41 [.int .i64 0, .int .i64 0, .slice none 0 0]) := Lib.hid (K4.out.blk HZ1.out (fun e => by have := HF.out _ e; omega))
  have HT2 : Hid (Blk w4 (w.heap.size + 2) 41 [.int .i64 0, .int .i64 0, .slice none 0 0]) := Lib.hid (K4.out.blk HZ2.out (fun e => by have := HF.out _ e; omega))
  have a0 : w4.cell? ⟨w.heap.size + 1, 0, none⟩ = some (.int .i64 0) := HT1.out.cell 0 (by simp)
  have a1 : w4.cell? ⟨w.heap.size + 1, 1, none⟩ = some (.int .i64 0) := HT1.out.cell 1 (by simp)
  have a2 : w4.cell? ⟨w.heap.size + 1, 2, none⟩ = some (.slice none 0 0) := HT1.out.cell 2 (by simp)
  have b0 : w4.cell? ⟨w.heap.size + 2, 0, none⟩ = some (.int .i64 0) := HT2.out.cell 0 (by simp)
  have b1 : w4.cell? ⟨w.heap.size + 2, 1, none⟩ = some (.int .i64 0) := HT2.out.cell 1 (by simp)
  have b2 : w4.cell? ⟨w.heap.size + 2, 2, none⟩ = some (.slice none 0 0) := HT2.out.cell 2 (by simp)
  have fa0 := HT1.out.free 0
  have fa1 := HT1.out.free 1
  have fa2 := HT1.out.free 2
  have fb0 := HT2.out.free 0
  have fb1 := HT2.out.free 1
  have fb2 := HT2.out.free 2
  have HX4 : Hid (Kept (fun k => w.heap.size ≤ k ∧ k < w.heap.size + 3) w4 w4) := Lib.hid (Kept.refl _ _)
  have HG4 : Hid (Gl w4) := Lib.hid (HX4.out.cell (K4.out.cell HG.out HGF.out) (fun e => by have := lt_of_cell HG0.out; simp only at e this; omega))
  have HT3 : Hid (Blk w4 (w.heap.size + 1) 41 [.int .i64 0, .int .i64 0, .slice none 0 0]) := Lib.hid HT1.out
  have HT4 : Hid (Blk w4 (w.heap.size + 1 + 1) 41 [.int .i64 0, .int .i64 0, .slice none 0 0]) := Lib.hid HT2.out
  go_wp2_with fail
  refine (code_nil _).mono ?_
  rintro r w5 ⟨rfl, hb5⟩
  have HK5 := Lib.hid (HX4.out.and (Kept.of_below hb5))
  have HT5 := Lib.hid (HT3.out.up hb5 (lt_of_block HT3.out))
  have HT6 := Lib.hid (HT4.out.up hb5 (lt_of_block HT4.out))
  clear hb5 a0 a1 a2 b0 b1 b2 fa0 fa1 fa2 fb0 fb1 fb2
  have a0 := HT5.out.cell 0 (by simp)
  have fa0 := HT5.out.free 0
  have a1 := HT5.out.cell 1 (by simp)
  have fa1 := HT5.out.free 1
  have a2 := HT5.out.cell 2 (by simp)
  have fa2 := HT5.out.free 2
  have b0 := HT6.out.cell 0 (by simp)
  have fb0 := HT6.out.free 0
  have b1 := HT6.out.cell 1 (by simp)
  have fb1 := HT6.out.free 1
  have b2 := HT6.out.cell 2 (by simp)
  have fb2 := HT6.out.free 2
  simp only [List.getElem_cons_zero, List.getElem_cons_succ] at a0 a1 a2 b0 b1 b2
  have HB5 : Hid (Blk (w5.setCell ⟨w.heap.size + 1 + 1, 1, none⟩ (.int .i64 0)) (w.heap.size + 1) 41 [.int .i64 0, .int .i64 0, .slice none 0 0]) := Lib.hid ((kept_put w5 (w.heap.size + 1 + 1) 1 (.int .i64 0)).blk HT5.out (by omega))
  have d0 : ((w5.setCell ⟨w.heap.size + 1 + 1, 1, none⟩ (.int .i64 0)).setCell ⟨w.heap.size + 1, 0, none⟩ (.int .i64 0)).cell? ⟨w.heap.size + 1, 0, none⟩ = some (.int .i64 0) := (HB5.out.put 0 _).cell 0 (by simp)
  have d1 : (((w5.setCell ⟨w.heap.size + 1 + 1, 1, none⟩ (.int .i64 0)).setCell ⟨w.heap.size + 1, 0, none⟩ (.int .i64 0)).setCell ⟨w.heap.size + 1, 1, none⟩ (.int .i64 0)).cell? ⟨w.heap.size + 1, 1, none⟩ = some (.int .i64 0) := ((HB5.out.put 0 _).put 1 _).cell 1 (by simp)
  have d2 : ((((w5.setCell ⟨w.heap.size + 1 + 1, 1, none⟩ (.int .i64 0)).setCell ⟨w.heap.size + 1, 0, none⟩ (.int .i64 0)).setCell ⟨w.heap.size + 1, 1, none⟩ (.int .i64 0)).setCell ⟨w.heap.size + 1, 2, none⟩ (.slice none 0 0)).cell? ⟨w.heap.size + 1, 2, none⟩ = some (.slice none 0 0) := (((HB5.out.put 0 _).put 1 _).put 2 _).cell 2 (by simp)
  go_wp2_with fail
  refine bodyPost_ret (v := .agg #[.int .i64 0, .int .i64 0, .slice none 0 0]) (by simp [results, Tryd.results14, go_sem, d0, d1, d2]) rfl ?_
  rw [(act_six rfl).1, (act_six rfl).2]
  refine told_end HH HB3.out H4.out K4.out HF.out (BytN.nil _ _) ?_
  rw [HS3.out]
  repeat (refine Kept.put ?_ (.inl ⟨by omega, by omega⟩) _ _)
  exact HK5.out

theorem do_else {F : Nat → Prop} {w : World} {rb : Nat} {S : DevS} (vb vk vt : Value) (Do zone page : Int) (B keep : List Int) (tear : List Bool) (Z : ZOps) (h : Z.D F w rb S) (_hg : Gl w) (_hgf : ¬ F 0) (_hd : S.done ≤ 1000000) (ha : ActF (fun k => k < w.heap.size ∧ ¬ F k) w vb vk vt ⟨Do, zone, page, B, keep, tear⟩) (_hx : ActOk ⟨Do, zone, page, B, keep, tear⟩) (_hsm : B.length ≤ 100 ∧ keep.length ≤ 100 ∧ tear.length ≤ 100) (h0 : Do ≠ 0) (h1 : Do ≠ 1) (h2 : Do ≠ 2) (h3 : Do ≠ 3) (h4 : Do ≠ 4) (h5 : Do ≠ 5) (h6 : Do ≠ 6) :
    Calls Tryd.prog 14 #[.pointer (some ⟨rb, 0, none⟩), .agg #[.int .i64 Do, .int .i64 zone, .int .i64 page, vb, vk, vt]] w (ToldIs (fun G u S' => Z.D G u rb S') F (actS S ⟨Do, zone, page, B, keep, tear⟩) (actT S ⟨Do, zone, page, B, keep, tear⟩) w) := by
  have HH : Holds (fun G u S' => Z.D G u rb S') := holds_z Z rb
  have HD := Lib.hid h
  have HE := Lib.hid (act_else (S := S) (x := ⟨Do, zone, page, B, keep, tear⟩) h0 h1 h2 h3 h4 h5 h6)
  obtain ⟨A1, c1, A2, c2, A3, c3, rfl, rfl, rfl⟩ := ha.form
  have q0 : (Do == 0) = false := by simpa using h0
  have q1 : (Do == 1) = false := by simpa using h1
  have q2 : (Do == 2) = false := by simpa using h2
  have q3 : (Do == 3) = false := by simpa using h3
  have q4 : (Do == 4) = false := by simpa using h4
  have q5 : (Do == 5) = false := by simpa using h5
  have q6 : (Do == 6) = false := by simpa using h6
  clear h ha h0 h1 h2 h3 h4 h5 h6
  go_enter Tryd.func14, Tryd.ntmps14
  have HB3 : Hid (Below w.heap.size w (((w.alloc (.cells #[.int .i64 Do, .int .i64 zone, .int .i64 page, .slice A1 B.length c1, .slice A2 keep.length c2, .slice A3 tear.length c3] 39)).alloc (.cells #[.int .i64 0, .int .i64 0, .slice none 0 0] 41)).alloc (.cells #[.int .i64 0, .int .i64 0, .slice none 0 0] 41))) := Lib.hid below_three
  have HZ1 : Hid (Blk (((w.alloc (.cells #[.int .i64 Do, .int .i64 zone, .int .i64 page, .slice A1 B.length c1, .slice A2 keep.length c2, .slice A3 tear.length c3] 39)).alloc (.cells #[.int .i64 0, .int .i64 0, .slice none 0 0] 41)).alloc (.cells #[.int .i64 0, .int .i64 0, .slice none 0 0] 41)) (w.heap.size + 1) 41 [.int .i64 0, .int .i64 0, .slice none 0 0]) := Lib.hid (by
    have h1 := heap_alloc_new (w.alloc (.cells #[.int .i64 Do, .int .i64 zone, .int .i64 page, .slice A1 B.length c1, .slice A2 keep.length c2, .slice A3 tear.length c3] 39)) (.cells #[.int .i64 0, .int .i64 0, .slice none 0 0] 41)
    rw [World.size_alloc] at h1
    exact Blk.up h1 (Below.alloc (Below.refl _ _) (Nat.le_refl _) _) (by rw [World.size_alloc, World.size_alloc]; omega))
  have HZ2 : Hid (Blk (((w.alloc (.cells #[.int .i64 Do, .int .i64 zone, .int .i64 page, .slice A1 B.length c1, .slice A2 keep.length c2, .slice A3 tear.length c3] 39)).alloc (.cells #[.int .i64 0, .int .i64 0, .slice none 0 0] 41)).alloc (.cells #[.int .i64 0, .int .i64 0, .slice none 0 0] 41)) (w.heap.size + 1 + 1) 41 [.int .i64 0, .int .i64 0, .slice none 0 0]) := Lib.hid (by
    have h1 := heap_alloc_new ((w.alloc (.cells #[.int .i64 Do, .int .i64 zone, .int .i64 page, .slice A1 B.length c1, .slice A2 keep.length c2, .slice A3 tear.length c3] 39)).alloc (.cells #[.int .i64 0, .int .i64 0, .slice none 0 0] 41)) (.cells #[.int .i64 0, .int .i64 0, .slice none 0 0] 41)
    rw [World.size_alloc, World.size_alloc] at h1
    exact h1)
  go_wp2_with fail
  refine (code_nil _).mono ?_
  rintro r w5 ⟨rfl, hb5⟩
  have HB5 := Lib.hid (HB3.out.trans (hb5.mono HB3.out.size))
  have HT5 := Lib.hid (HZ1.out.up hb5 (lt_of_block HZ1.out))
  have HT6 := Lib.hid (HZ2.out.up hb5 (lt_of_block HZ2.out))
  clear hb5
  have a0 := HT5.out.cell 0 (by simp)
  have fa0 := HT5.out.free 0
  have a1 := HT5.out.cell 1 (by simp)
  have fa1 := HT5.out.free 1
  have a2 := HT5.out.cell 2 (by simp)
  have fa2 := HT5.out.free 2
  have b0 := HT6.out.cell 0 (by simp)
  have fb0 := HT6.out.free 0
  have b1 := HT6.out.cell 1 (by simp)
  have fb1 := HT6.out.free 1
  have b2 := HT6.out.cell 2 (by simp)
  have fb2 := HT6.out.free 2
  simp only [List.getElem_cons_zero, List.getElem_cons_succ] at a0 a1 a2 b0 b1 b2
  have HK5 : Hid (Blk (w5.setCell ⟨w.heap.size + 1 + 1, 1, none⟩ (.int .i64 0)) (w.heap.size + 1) 41 [.int .i64 0, .int .i64 0, .slice none 0 0]) := Lib.hid ((kept_put w5 (w.heap.size + 1 + 1) 1 (.int .i64 0)).blk HT5.out (by omega))
  have d0 : ((w5.setCell ⟨w.heap.size + 1 + 1, 1, none⟩ (.int .i64 0)).setCell ⟨w.heap.size + 1, 0, none⟩ (.int .i64 0)).cell? ⟨w.heap.size + 1, 0, none⟩ = some (.int .i64 0) := (HK5.out.put 0 _).cell 0 (by simp)
  have d1 : (((w5.setCell ⟨w.heap.size + 1 + 1, 1, none⟩ (.int .i64 0)).setCell ⟨w.heap.size + 1, 0, none⟩ (.int .i64 0)).setCell ⟨w.heap.size + 1, 1, none⟩ (.int .i64 0)).cell? ⟨w.heap.size + 1, 1, none⟩ = some (.int .i64 0) := ((HK5.out.put 0 _).put 1 _).cell 1 (by simp)
  have d2 : ((((w5.setCell ⟨w.heap.size + 1 + 1, 1, none⟩ (.int .i64 0)).setCell ⟨w.heap.size + 1, 0, none⟩ (.int .i64 0)).setCell ⟨w.heap.size + 1, 1, none⟩ (.int .i64 0)).setCell ⟨w.heap.size + 1, 2, none⟩ (.slice none 0 0)).cell? ⟨w.heap.size + 1, 2, none⟩ = some (.slice none 0 0) := (((HK5.out.put 0 _).put 1 _).put 2 _).cell 2 (by simp)
  have HBE : Hid (Below w.heap.size w ((((w5.setCell ⟨w.heap.size + 1 + 1, 1, none⟩ (.int .i64 0)).setCell ⟨w.heap.size + 1, 0, none⟩ (.int .i64 0)).setCell ⟨w.heap.size + 1, 1, none⟩ (.int .i64 0)).setCell ⟨w.heap.size + 1, 2, none⟩ (.slice none 0 0))) := Lib.hid ((((HB5.out.setCell (by simp only; omega) _).setCell (by simp only; omega) _).setCell (by simp only; omega) _).setCell (by simp only; omega) _)
  go_wp2_with fail
  refine bodyPost_ret (v := .agg #[.int .i64 0, .int .i64 0, .slice none 0 0]) (by simp [results, Tryd.results14, go_sem, d0, d1, d2]) rfl ?_
  rw [HE.out.1, HE.out.2]
  exact ⟨.slice none 0 0, rfl, told_none HH HD.out HBE.out, Kept.of_below HBE.out, BytN.nil _ _⟩
theorem do_at {F : Nat → Prop} {w : World} {rb : Nat} {S : DevS} (x : ActS) (vb vk vt : Value) (Z : ZOps) (h : Z.D F w rb S) (hg : Gl w) (hgf : ¬ F 0) (hd : S.done ≤ 1000000) (ha : ActF (fun k => k < w.heap.size ∧ ¬ F k) w vb vk vt x) (hx : ActOk x) (hsm : x.B.length ≤ 100 ∧ x.keep.length ≤ 100 ∧ x.tear.length ≤ 100) :
    Calls Tryd.prog 14 #[.pointer (some ⟨rb, 0, none⟩), actV x vb vk vt] w (ToldIs (fun G u S' => Z.D G u rb S') F (actS S x) (actT S x) w) := by
  obtain ⟨Do, zone, page, B, keep, tear⟩ := x
  simp only at hsm
  by_cases h0 : Do = 0
  · subst h0
    exact do_0 vb vk vt zone page B keep tear Z h hg hgf hd ha hx hsm
  by_cases h1 : Do = 1
  · subst h1
    exact do_1 vb vk vt zone page B keep tear Z h hg hgf hd ha hx hsm
  by_cases h2 : Do = 2
  · subst h2
    exact do_2 vb vk vt zone page B keep tear Z h hg hgf hd ha hx hsm
  by_cases h3 : Do = 3
  · subst h3
    exact do_3 vb vk vt zone page B keep tear Z h hg hgf hd ha hx hsm
  by_cases h4 : Do = 4
  · subst h4
    exact do_4 vb vk vt zone page B keep tear Z h hg hgf hd ha hx hsm
  by_cases h5 : Do = 5
  · subst h5
    exact do_5 vb vk vt zone page B keep tear Z h hg hgf hd ha hx hsm
  by_cases h6 : Do = 6
  · subst h6
    exact do_6 vb vk vt zone page B keep tear Z h hg hgf hd ha hx hsm
  exact do_else vb vk vt Do zone page B keep tear Z h hg hgf hd ha hx hsm h0 h1 h2 h3 h4 h5 h6
end Go.Proofs.YtljpkngbhdplbaaDoor

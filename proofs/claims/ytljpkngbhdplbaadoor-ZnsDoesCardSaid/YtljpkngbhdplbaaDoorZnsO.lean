/-
  The law's own: an act, as the document says.
-/
import Derived.Test.YtljpkngbhdplbaaDoorZnsN
namespace Go.Proofs.YtljpkngbhdplbaaDoor
open Go.RowKit

/-- What an act answers, and what becomes of the device. -/
def ToldIs (D : (Nat → Prop) → World → DevS → Prop) (F : Nat → Prop) (S' : DevS) (t : ToldS) (w : World) (r : Ending) (w' : World) : Prop := ∃ v, r = .returned (.agg #[.int .i64 t.n, .int .i64 t.e, v]) ∧ D (grow F w w') w' S' ∧ Kept F w w' ∧ BytN w w' v t.b
/-- What a device's word must be so. -/
structure Holds (D : (Nat → Prop) → World → DevS → Prop) : Prop where
  keep : ∀ {F G : Nat → Prop} {w w' : World} {S : DevS}, D F w S → Kept G w w' → (∀ k, F k → ¬ G k) → D F w' S
  mono : ∀ {F G : Nat → Prop} {w : World} {S : DevS}, D F w S → (∀ k, F k → G k) → (∀ k, G k → k < w.heap.size) → D G w S
  lt : ∀ {F : Nat → Prop} {w : World} {S : DevS}, D F w S → ∀ k, F k → k < w.heap.size
theorem holds_r (rb : Nat) : Holds (fun F w S => RDev F w rb S) :=
  ⟨fun ⟨zb, cap, zs, h⟩ hk hn => ⟨zb, cap, zs, h.keep hk hn⟩, fun ⟨zb, cap, zs, h⟩ h1 h2 => ⟨zb, cap, zs, h.mono h1 h2⟩, fun ⟨_, _, _, h⟩ => h.lt⟩
theorem holds_z (Z : ZOps) (db : Nat) : Holds (fun F w S => Z.D F w db S) := ⟨Z.keep, Z.mono, Z.lt⟩
theorem told_end {D : (Nat → Prop) → World → DevS → Prop} (H : Holds D) {F : Nat → Prop} {w w3 w4 w6 : World} {S' : DevS} {n e : Int} {v : Value} {b : List Int} (h3 : Below w.heap.size w w3) (h4 : D (grow F w3 w4) w4 S') (k4 : Kept F w3 w4) (hF : ∀ k, F k → k < w.heap.size) (hn : BytN w3 w4 v b)
    (k6 : Kept (fun k => w.heap.size ≤ k ∧ k < w3.heap.size) w4 w6) : ToldIs D F S' ⟨n, e, b⟩ w (.returned (.agg #[.int .i64 n, .int .i64 e, v])) w6 := by
  have s3 := h3.size
  have s4 := k4.size
  have s6 := k6.size
  refine ⟨v, rfl, H.mono (H.keep h4 k6 (fun k hk h => ?_)) (fun k hk => ?_) (fun k hk => ?_), ⟨k6.os.trans (k4.os.trans h3.os), k6.tape.trans (k4.tape.trans h3.tape), k6.output.trans (k4.output.trans h3.output), by omega, fun k hk hn => ?_⟩, (hn.keep k6 (fun k hk h => by omega)).mono (fun k hk => by omega)⟩
  · rcases hk with hk | hk
    · have := hF k hk
      omega
    · omega
  · rcases hk with hk | hk
    · exact .inl hk
    · exact .inr (by omega)
  · rcases hk with hk | hk
    · have := hF k hk
      omega
    · exact hk.2
  · rw [k6.block k (by omega) (fun h => by omega), k4.block k (by omega) hn]
    exact h3.block k hk
theorem told_none {D : (Nat → Prop) → World → DevS → Prop} (H : Holds D) {F : Nat → Prop} {w w' : World} {S : DevS} (h : D F w S) (hb : Below w.heap.size w w') : D (grow F w w') w' S := by
  refine H.mono (H.keep h (Kept.of_below (F := fun _ => False) hb) (fun _ _ => id)) (fun k hk => .inl hk) (fun k hk => ?_)
  rcases hk with hk | hk
  · exact Nat.lt_of_lt_of_le (H.lt h k hk) hb.size
  · exact hk.2
theorem below_three {w : World} {a b c : Obj} : Below w.heap.size w (((w.alloc a).alloc b).alloc c) := ((Below.alloc (Below.refl _ _) (Nat.le_refl _) _).alloc (by rw [World.size_alloc]; omega) _).alloc (by rw [World.size_alloc, World.size_alloc]; omega) _
theorem act_zero {S : DevS} {x : ActS} (h : x.Do = 0) : actS S x = S.app x.zone x.B ∧ actT S x = ⟨S.appN x.zone x.B, S.mayE (S.appE x.zone x.B), []⟩ := by simp [actS, actT, h]
theorem act_one {S : DevS} {x : ActS} (h : x.Do = 1) : actS S x = S ∧ actT S x = ⟨0, S.readE x.zone x.page, S.readB x.zone x.page⟩ := by simp [actS, actT, h]
theorem act_two {S : DevS} {x : ActS} (h : x.Do = 2) : actS S x = S.reset x.zone ∧ actT S x = ⟨0, S.mayE (S.resetE x.zone), []⟩ := by simp [actS, actT, h]
theorem act_three {S : DevS} {x : ActS} (h : x.Do = 3) : actS S x = S.finish x.zone ∧ actT S x = ⟨0, S.mayE (S.finE x.zone), []⟩ := by simp [actS, actT, h]
theorem act_four {S : DevS} {x : ActS} (h : x.Do = 4) : actS S x = S.flush ∧ actT S x = ⟨0, S.mayE 0, []⟩ := by simp [actS, actT, h]
theorem act_five {S : DevS} {x : ActS} (h : x.Do = 5) : actS S x = S.fuse x.page ∧ actT S x = ⟨0, 0, []⟩ := by simp [actS, actT, h]
theorem act_six {S : DevS} {x : ActS} (h : x.Do = 6) : actS S x = S.crash x.keep x.tear ∧ actT S x = ⟨0, 0, []⟩ := by simp [actS, actT, h]
theorem act_else {S : DevS} {x : ActS} (h0 : x.Do ≠ 0) (h1 : x.Do ≠ 1) (h2 : x.Do ≠ 2) (h3 : x.Do ≠ 3) (h4 : x.Do ≠ 4) (h5 : x.Do ≠ 5) (h6 : x.Do ≠ 6) : actS S x = S ∧ actT S x = ⟨0, 0, []⟩ := by simp [actS, actT, h0, h1, h2, h3, h4, h5, h6]

theorem BytF.parts {F : Nat → Prop} {w : World} {A : Option Addr} {n c : Nat} {xs : List Int} (h : BytF F w (.slice A n c) xs) : Rd w w.heap.size A xs ∧ InN xs.length F A ∧ (A = none → c = 0) := by
  obtain ⟨A', c', e, _, hr, hf, h0⟩ := h
  injection e with e1 e2 e3
  subst e1 e3
  exact ⟨hr, hf, h0⟩
theorem RowF.parts {F : Nat → Prop} {w : World} {A : Option Addr} {n c : Nat} {xs : List Value} (h : RowF F w (.slice A n c) xs) : RdV w w.heap.size A xs ∧ InN xs.length F A ∧ (A = none → c = 0) := by
  obtain ⟨A', c', e, _, hr, hf, h0⟩ := h
  injection e with e1 e2 e3
  subst e1 e3
  exact ⟨hr, hf, h0⟩

theorem own_0 {F : Nat → Prop} {w : World} {rb : Nat} {S : DevS} (vb vk vt : Value) (zone page : Int) (B keep : List Int) (tear : List Bool) (h : RDev F w rb S) (hd : S.done ≤ 1000000) (ha : ActF (fun k => k < w.heap.size ∧ ¬ F k) w vb vk vt ⟨0, zone, page, B, keep, tear⟩) (hx : ActOk ⟨0, zone, page, B, keep, tear⟩) (hsm : B.length ≤ 100 ∧ keep.length ≤ 100 ∧ tear.length ≤ 100) :
    Calls Tryd.prog 15 #[.pointer (some ⟨rb, 0, none⟩), .agg #[.int .i64 0, .int .i64 zone, .int .i64 page, vb, vk, vt]] w (ToldIs (fun G u S' => RDev G u rb S') F (actS S ⟨0, zone, page, B, keep, tear⟩) (actT S ⟨0, zone, page, B, keep, tear⟩) w) := by
  have HH : Holds (fun G u S' => RDev G u rb S') := holds_r rb
  have HF : Hid (∀ k, F k → k < w.heap.size) := Lib.hid (HH.lt h)
  have HB3 : Hid (Below w.heap.size w (((w.alloc (.cells #[.int .i64 0, .int .i64 zone, .int .i64 page, vb, vk, vt] 39)).alloc (.cells #[.int .i64 0, .int .i64 0, .slice none 0 0] 41)).alloc (.cells #[.int .i64 0, .int .i64 0, .slice none 0 0] 41))) := Lib.hid below_three
  have HR3 : Hid (RDev F (((w.alloc (.cells #[.int .i64 0, .int .i64 zone, .int .i64 page, vb, vk, vt] 39)).alloc (.cells #[.int .i64 0, .int .i64 0, .slice none 0 0] 41)).alloc (.cells #[.int .i64 0, .int .i64 0, .slice none 0 0] 41)) rb S) := Lib.hid (HH.keep (S := S) h (Kept.of_below (F := fun _ => False) HB3.out) (fun _ _ => id))
  have HA3 : Hid (ActF (fun k => k < w.heap.size ∧ ¬ F k) (((w.alloc (.cells #[.int .i64 0, .int .i64 zone, .int .i64 page, vb, vk, vt] 39)).alloc (.cells #[.int .i64 0, .int .i64 0, .slice none 0 0] 41)).alloc (.cells #[.int .i64 0, .int .i64 0, .slice none 0 0] 41)) vb vk vt ⟨0, zone, page, B, keep, tear⟩) := Lib.hid (ha.up HB3.out)
  have HS3 : Hid (((((w.alloc (.cells #[.int .i64 0, .int .i64 zone, .int .i64 page, vb, vk, vt] 39)).alloc (.cells #[.int .i64 0, .int .i64 0, .slice none 0 0] 41)).alloc (.cells #[.int .i64 0, .int .i64 0, .slice none 0 0] 41))).heap.size = w.heap.size + 3) := Lib.hid (by rw [World.size_alloc, World.size_alloc, World.size_alloc])
  have HZ1 : Hid (Blk (((w.alloc (.cells #[.int .i64 0, .int .i64 zone, .int .i64 page, vb, vk, vt] 39)).alloc (.cells #[.int .i64 0, .int .i64 0, .slice none 0 0] 41)).alloc (.cells #[.int .i64 0, .int .i64 0, .slice none 0 0] 41)) (w.heap.size + 1) 41 [.int .i64 0, .int .i64 0, .slice none 0 0]) := Lib.hid (by
    have h1 := heap_alloc_new (w.alloc (.cells #[.int .i64 0, .int .i64 zone, .int .i64 page, vb, vk, vt] 39)) (.cells #[.int .i64 0, .int .i64 0, .slice none 0 0] 41)
    rw [World.size_alloc] at h1
    exact Blk.up h1 (Below.alloc (Below.refl _ _) (Nat.le_refl _) _) (by rw [World.size_alloc, World.size_alloc]; omega))
  have HZ2 : Hid (Blk (((w.alloc (.cells #[.int .i64 0, .int .i64 zone, .int .i64 page, vb, vk, vt] 39)).alloc (.cells #[.int .i64 0, .int .i64 0, .slice none 0 0] 41)).alloc (.cells #[.int .i64 0, .int .i64 0, .slice none 0 0] 41)) (w.heap.size + 2) 41 [.int .i64 0, .int .i64 0, .slice none 0 0]) := Lib.hid (by
    have h1 := heap_alloc_new ((w.alloc (.cells #[.int .i64 0, .int .i64 zone, .int .i64 page, vb, vk, vt] 39)).alloc (.cells #[.int .i64 0, .int .i64 0, .slice none 0 0] 41)) (.cells #[.int .i64 0, .int .i64 0, .slice none 0 0] 41)
    rw [World.size_alloc, World.size_alloc] at h1
    exact h1)
  have HX := Lib.hid hx
  have HM := Lib.hid hsm
  have HD := Lib.hid hd
  obtain ⟨A1, c1, A2, c2, A3, c3, rfl, rfl, rfl⟩ := ha.form
  clear h ha hx hsm hd
  go_enter Tryd.func15, Tryd.ntmps15
  go_wp2_with fail
  obtain ⟨zb, cap, zs, hr⟩ := HR3.out
  refine (rappend_at zone A1 B.length c1 B hr HD.out rfl HA3.out.1.parts.1 (HA3.out.1.parts.2.1.mono (fun k hk => hk.2)) HA3.out.1.parts.2.2 HX.out.2.1).mono ?_
  rintro r w4 ⟨rfl, h4, k4⟩
  have H4 := Lib.hid h4
  have K4 := Lib.hid k4
  clear h4 k4
  have HT1 : Hid (Blk w4 (w.heap.size + 1) 41 [.int .i64 0, .int .i64 0, .slice none 0 0]) := Lib.hid (K4.out.blk HZ1.out (fun e => by have := HF.out _ e; omega))
  have HT2 : Hid (Blk w4 (w.heap.size + 2) 41 [.int .i64 0, .int .i64 0, .slice none 0 0]) := Lib.hid (K4.out.blk HZ2.out (fun e => by have := HF.out _ e; omega))
  have a0 : w4.cell? ⟨w.heap.size + 1, 0, none⟩ = some (.int .i64 0) := HT1.out.cell 0 (by simp)
  have a1 : w4.cell? ⟨w.heap.size + 1, 1, none⟩ = some (.int .i64 0) := HT1.out.cell 1 (by simp)
  have a2 : w4.cell? ⟨w.heap.size + 1, 2, none⟩ = some (.slice none 0 0) := HT1.out.cell 2 (by simp)
  have b0 : w4.cell? ⟨w.heap.size + 2, 0, none⟩ = some (.int .i64 0) := HT2.out.cell 0 (by simp)
  have b1 : w4.cell? ⟨w.heap.size + 2, 1, none⟩ = some (.int .i64 0) := HT2.out.cell 1 (by simp)
  have b2 : w4.cell? ⟨w.heap.size + 2, 2, none⟩ = some (.slice none 0 0) := HT2.out.cell 2 (by simp)
  have fa0 := HT1.out.free 0
  have fa1 := HT1.out.free 1
  have fa2 := HT1.out.free 2
  have fb0 := HT2.out.free 0
  have fb1 := HT2.out.free 1
  have fb2 := HT2.out.free 2
  obtain ⟨nn, hnn⟩ : ∃ nn, S.appN zone B = nn := ⟨_, rfl⟩
  have HNN := Lib.hid hnn
  obtain ⟨ee, hee⟩ : ∃ ee, S.mayE (S.appE zone B) = ee := ⟨_, rfl⟩
  have HEE := Lib.hid hee
  rw [hnn, hee]
  clear hnn hee
  have HB5 : Hid (Blk ((w4.setCell ⟨w.heap.size + 1 + 1, 0, none⟩ (.int .i64 nn)).setCell ⟨w.heap.size + 1 + 1, 1, none⟩ (.int .i64 ee)) (w.heap.size + 1) 41 [.int .i64 0, .int .i64 0, .slice none 0 0]) := Lib.hid ((kept_put (w4.setCell ⟨w.heap.size + 1 + 1, 0, none⟩ (.int .i64 nn)) (w.heap.size + 1 + 1) 1 (.int .i64 ee)).blk ((kept_put w4 (w.heap.size + 1 + 1) 0 (.int .i64 nn)).blk HT1.out (by omega)) (by omega))
  have d0 : (((w4.setCell ⟨w.heap.size + 1 + 1, 0, none⟩ (.int .i64 nn)).setCell ⟨w.heap.size + 1 + 1, 1, none⟩ (.int .i64 ee)).setCell ⟨w.heap.size + 1, 0, none⟩ (.int .i64 nn)).cell? ⟨w.heap.size + 1, 0, none⟩ = some (.int .i64 nn) := (HB5.out.put 0 _).cell 0 (by simp)
  have d1 : ((((w4.setCell ⟨w.heap.size + 1 + 1, 0, none⟩ (.int .i64 nn)).setCell ⟨w.heap.size + 1 + 1, 1, none⟩ (.int .i64 ee)).setCell ⟨w.heap.size + 1, 0, none⟩ (.int .i64 nn)).setCell ⟨w.heap.size + 1, 1, none⟩ (.int .i64 ee)).cell? ⟨w.heap.size + 1, 1, none⟩ = some (.int .i64 ee) := ((HB5.out.put 0 _).put 1 _).cell 1 (by simp)
  have d2 : (((((w4.setCell ⟨w.heap.size + 1 + 1, 0, none⟩ (.int .i64 nn)).setCell ⟨w.heap.size + 1 + 1, 1, none⟩ (.int .i64 ee)).setCell ⟨w.heap.size + 1, 0, none⟩ (.int .i64 nn)).setCell ⟨w.heap.size + 1, 1, none⟩ (.int .i64 ee)).setCell ⟨w.heap.size + 1, 2, none⟩ (.slice none 0 0)).cell? ⟨w.heap.size + 1, 2, none⟩ = some (.slice none 0 0) := (((HB5.out.put 0 _).put 1 _).put 2 _).cell 2 (by simp)
  go_wp2_with fail
  refine bodyPost_ret (v := .agg #[.int .i64 nn, .int .i64 ee, .slice none 0 0]) (by simp [results, Tryd.results15, go_sem, d0, d1, d2]) rfl ?_
  rw [(act_zero rfl).1, (act_zero rfl).2]
  simp only [← HNN.out, ← HEE.out]
  refine told_end HH HB3.out H4.out K4.out HF.out (BytN.nil _ _) ?_
  rw [HS3.out]
  repeat (refine Kept.put ?_ (.inl ⟨by omega, by omega⟩) _ _)
  exact Kept.refl _ _

theorem own_1 {F : Nat → Prop} {w : World} {rb : Nat} {S : DevS} (vb vk vt : Value) (zone page : Int) (B keep : List Int) (tear : List Bool) (h : RDev F w rb S) (hd : S.done ≤ 1000000) (ha : ActF (fun k => k < w.heap.size ∧ ¬ F k) w vb vk vt ⟨1, zone, page, B, keep, tear⟩) (hx : ActOk ⟨1, zone, page, B, keep, tear⟩) (hsm : B.length ≤ 100 ∧ keep.length ≤ 100 ∧ tear.length ≤ 100) :
    Calls Tryd.prog 15 #[.pointer (some ⟨rb, 0, none⟩), .agg #[.int .i64 1, .int .i64 zone, .int .i64 page, vb, vk, vt]] w (ToldIs (fun G u S' => RDev G u rb S') F (actS S ⟨1, zone, page, B, keep, tear⟩) (actT S ⟨1, zone, page, B, keep, tear⟩) w) := by
  have HH : Holds (fun G u S' => RDev G u rb S') := holds_r rb
  have HF : Hid (∀ k, F k → k < w.heap.size) := Lib.hid (HH.lt h)
  have HB3 : Hid (Below w.heap.size w (((w.alloc (.cells #[.int .i64 1, .int .i64 zone, .int .i64 page, vb, vk, vt] 39)).alloc (.cells #[.int .i64 0, .int .i64 0, .slice none 0 0] 41)).alloc (.cells #[.int .i64 0, .int .i64 0, .slice none 0 0] 41))) := Lib.hid below_three
  have HR3 : Hid (RDev F (((w.alloc (.cells #[.int .i64 1, .int .i64 zone, .int .i64 page, vb, vk, vt] 39)).alloc (.cells #[.int .i64 0, .int .i64 0, .slice none 0 0] 41)).alloc (.cells #[.int .i64 0, .int .i64 0, .slice none 0 0] 41)) rb S) := Lib.hid (HH.keep (S := S) h (Kept.of_below (F := fun _ => False) HB3.out) (fun _ _ => id))
  have HA3 : Hid (ActF (fun k => k < w.heap.size ∧ ¬ F k) (((w.alloc (.cells #[.int .i64 1, .int .i64 zone, .int .i64 page, vb, vk, vt] 39)).alloc (.cells #[.int .i64 0, .int .i64 0, .slice none 0 0] 41)).alloc (.cells #[.int .i64 0, .int .i64 0, .slice none 0 0] 41)) vb vk vt ⟨1, zone, page, B, keep, tear⟩) := Lib.hid (ha.up HB3.out)
  have HS3 : Hid (((((w.alloc (.cells #[.int .i64 1, .int .i64 zone, .int .i64 page, vb, vk, vt] 39)).alloc (.cells #[.int .i64 0, .int .i64 0, .slice none 0 0] 41)).alloc (.cells #[.int .i64 0, .int .i64 0, .slice none 0 0] 41))).heap.size = w.heap.size + 3) := Lib.hid (by rw [World.size_alloc, World.size_alloc, World.size_alloc])
  have HZ1 : Hid (Blk (((w.alloc (.cells #[.int .i64 1, .int .i64 zone, .int .i64 page, vb, vk, vt] 39)).alloc (.cells #[.int .i64 0, .int .i64 0, .slice none 0 0] 41)).alloc (.cells #[.int .i64 0, .int .i64 0, .slice none 0 0] 41)) (w.heap.size + 1) 41 [.int .i64 0, .int .i64 0, .slice none 0 0]) := Lib.hid (by
    have h1 := heap_alloc_new (w.alloc (.cells #[.int .i64 1, .int .i64 zone, .int .i64 page, vb, vk, vt] 39)) (.cells #[.int .i64 0, .int .i64 0, .slice none 0 0] 41)
    rw [World.size_alloc] at h1
    exact Blk.up h1 (Below.alloc (Below.refl _ _) (Nat.le_refl _) _) (by rw [World.size_alloc, World.size_alloc]; omega))
  have HZ2 : Hid (Blk (((w.alloc (.cells #[.int .i64 1, .int .i64 zone, .int .i64 page, vb, vk, vt] 39)).alloc (.cells #[.int .i64 0, .int .i64 0, .slice none 0 0] 41)).alloc (.cells #[.int .i64 0, .int .i64 0, .slice none 0 0] 41)) (w.heap.size + 2) 41 [.int .i64 0, .int .i64 0, .slice none 0 0]) := Lib.hid (by
    have h1 := heap_alloc_new ((w.alloc (.cells #[.int .i64 1, .int .i64 zone, .int .i64 page, vb, vk, vt] 39)).alloc (.cells #[.int .i64 0, .int .i64 0, .slice none 0 0] 41)) (.cells #[.int .i64 0, .int .i64 0, .slice none 0 0] 41)
    rw [World.size_alloc, World.size_alloc] at h1
    exact h1)
  have HX := Lib.hid hx
  have HM := Lib.hid hsm
  have HD := Lib.hid hd
  obtain ⟨A1, c1, A2, c2, A3, c3, rfl, rfl, rfl⟩ := ha.form
  clear h ha hx hsm hd
  go_enter Tryd.func15, Tryd.ntmps15
  go_wp2_with fail
  obtain ⟨zb, cap, zs, hr⟩ := HR3.out
  refine (rread_at zone page hr).mono ?_
  rintro r w4 ⟨v, rfl, hv, hb⟩
  have h4 := told_none HH HR3.out hb
  have k4 := Kept.of_below (F := F) hb
  have HV := Lib.hid hv
  obtain ⟨A4, c4, rfl, _⟩ := hv
  have H4 := Lib.hid h4
  have K4 := Lib.hid k4
  clear h4 k4
  clear hb
  have HT1 : Hid (Blk w4 (w.heap.size + 1) 41 [.int .i64 0, .int .i64 0, .slice none 0 0]) := Lib.hid (K4.out.blk HZ1.out (fun e => by have := HF.out _ e; omega))
  have HT2 : Hid (Blk w4 (w.heap.size + 2) 41 [.int .i64 0, .int .i64 0, .slice none 0 0]) := Lib.hid (K4.out.blk HZ2.out (fun e => by have := HF.out _ e; omega))
  have a0 : w4.cell? ⟨w.heap.size + 1, 0, none⟩ = some (.int .i64 0) := HT1.out.cell 0 (by simp)
  have a1 : w4.cell? ⟨w.heap.size + 1, 1, none⟩ = some (.int .i64 0) := HT1.out.cell 1 (by simp)
  have a2 : w4.cell? ⟨w.heap.size + 1, 2, none⟩ = some (.slice none 0 0) := HT1.out.cell 2 (by simp)
  have b0 : w4.cell? ⟨w.heap.size + 2, 0, none⟩ = some (.int .i64 0) := HT2.out.cell 0 (by simp)
  have b1 : w4.cell? ⟨w.heap.size + 2, 1, none⟩ = some (.int .i64 0) := HT2.out.cell 1 (by simp)
  have b2 : w4.cell? ⟨w.heap.size + 2, 2, none⟩ = some (.slice none 0 0) := HT2.out.cell 2 (by simp)
  have fa0 := HT1.out.free 0
  have fa1 := HT1.out.free 1
  have fa2 := HT1.out.free 2
  have fb0 := HT2.out.free 0
  have fb1 := HT2.out.free 1
  have fb2 := HT2.out.free 2
  obtain ⟨ee, hee⟩ : ∃ ee, S.readE zone page = ee := ⟨_, rfl⟩
  have HEE := Lib.hid hee
  obtain ⟨ll, hll⟩ : ∃ ll, (S.readB zone page).length = ll := ⟨_, rfl⟩
  have HLL := Lib.hid hll
  rw [hee, hll]
  clear hee hll
  have HB5 : Hid (Blk ((w4.setCell ⟨w.heap.size + 1 + 1, 2, none⟩ (.slice A4 ll c4)).setCell ⟨w.heap.size + 1 + 1, 1, none⟩ (.int .i64 ee)) (w.heap.size + 1) 41 [.int .i64 0, .int .i64 0, .slice none 0 0]) := Lib.hid ((kept_put (w4.setCell ⟨w.heap.size + 1 + 1, 2, none⟩ (.slice A4 ll c4)) (w.heap.size + 1 + 1) 1 (.int .i64 ee)).blk ((kept_put w4 (w.heap.size + 1 + 1) 2 (.slice A4 ll c4)).blk HT1.out (by omega)) (by omega))
  have d0 : (((w4.setCell ⟨w.heap.size + 1 + 1, 2, none⟩ (.slice A4 ll c4)).setCell ⟨w.heap.size + 1 + 1, 1, none⟩ (.int .i64 ee)).setCell ⟨w.heap.size + 1, 0, none⟩ (.int .i64 0)).cell? ⟨w.heap.size + 1, 0, none⟩ = some (.int .i64 0) := (HB5.out.put 0 _).cell 0 (by simp)
  have d1 : ((((w4.setCell ⟨w.heap.size + 1 + 1, 2, none⟩ (.slice A4 ll c4)).setCell ⟨w.heap.size + 1 + 1, 1, none⟩ (.int .i64 ee)).setCell ⟨w.heap.size + 1, 0, none⟩ (.int .i64 0)).setCell ⟨w.heap.size + 1, 1, none⟩ (.int .i64 ee)).cell? ⟨w.heap.size + 1, 1, none⟩ = some (.int .i64 ee) := ((HB5.out.put 0 _).put 1 _).cell 1 (by simp)
  have d2 : (((((w4.setCell ⟨w.heap.size + 1 + 1, 2, none⟩ (.slice A4 ll c4)).setCell ⟨w.heap.size + 1 + 1, 1, none⟩ (.int .i64 ee)).setCell ⟨w.heap.size + 1, 0, none⟩ (.int .i64 0)).setCell ⟨w.heap.size + 1, 1, none⟩ (.int .i64 ee)).setCell ⟨w.heap.size + 1, 2, none⟩ (.slice A4 ll c4)).cell? ⟨w.heap.size + 1, 2, none⟩ = some (.slice A4 ll c4) := (((HB5.out.put 0 _).put 1 _).put 2 _).cell 2 (by simp)
  go_wp2_with fail
  refine bodyPost_ret (v := .agg #[.int .i64 0, .int .i64 ee, .slice A4 ll c4]) (by simp [results, Tryd.results15, go_sem, d0, d1, d2]) rfl ?_
  rw [(act_one rfl).1, (act_one rfl).2]
  simp only [← HEE.out, ← HLL.out]
  refine told_end HH HB3.out H4.out K4.out HF.out HV.out ?_
  rw [HS3.out]
  repeat (refine Kept.put ?_ (.inl ⟨by omega, by omega⟩) _ _)
  exact Kept.refl _ _

theorem own_2 {F : Nat → Prop} {w : World} {rb : Nat} {S : DevS} (vb vk vt : Value) (zone page : Int) (B keep : List Int) (tear : List Bool) (h : RDev F w rb S) (hd : S.done ≤ 1000000) (ha : ActF (fun k => k < w.heap.size ∧ ¬ F k) w vb vk vt ⟨2, zone, page, B, keep, tear⟩) (hx : ActOk ⟨2, zone, page, B, keep, tear⟩) (hsm : B.length ≤ 100 ∧ keep.length ≤ 100 ∧ tear.length ≤ 100) :
    Calls Tryd.prog 15 #[.pointer (some ⟨rb, 0, none⟩), .agg #[.int .i64 2, .int .i64 zone, .int .i64 page, vb, vk, vt]] w (ToldIs (fun G u S' => RDev G u rb S') F (actS S ⟨2, zone, page, B, keep, tear⟩) (actT S ⟨2, zone, page, B, keep, tear⟩) w) := by
  have HH : Holds (fun G u S' => RDev G u rb S') := holds_r rb
  have HF : Hid (∀ k, F k → k < w.heap.size) := Lib.hid (HH.lt h)
  have HB3 : Hid (Below w.heap.size w (((w.alloc (.cells #[.int .i64 2, .int .i64 zone, .int .i64 page, vb, vk, vt] 39)).alloc (.cells #[.int .i64 0, .int .i64 0, .slice none 0 0] 41)).alloc (.cells #[.int .i64 0, .int .i64 0, .slice none 0 0] 41))) := Lib.hid below_three
  have HR3 : Hid (RDev F (((w.alloc (.cells #[.int .i64 2, .int .i64 zone, .int .i64 page, vb, vk, vt] 39)).alloc (.cells #[.int .i64 0, .int .i64 0, .slice none 0 0] 41)).alloc (.cells #[.int .i64 0, .int .i64 0, .slice none 0 0] 41)) rb S) := Lib.hid (HH.keep (S := S) h (Kept.of_below (F := fun _ => False) HB3.out) (fun _ _ => id))
  have HA3 : Hid (ActF (fun k => k < w.heap.size ∧ ¬ F k) (((w.alloc (.cells #[.int .i64 2, .int .i64 zone, .int .i64 page, vb, vk, vt] 39)).alloc (.cells #[.int .i64 0, .int .i64 0, .slice none 0 0] 41)).alloc (.cells #[.int .i64 0, .int .i64 0, .slice none 0 0] 41)) vb vk vt ⟨2, zone, page, B, keep, tear⟩) := Lib.hid (ha.up HB3.out)
  have HS3 : Hid (((((w.alloc (.cells #[.int .i64 2, .int .i64 zone, .int .i64 page, vb, vk, vt] 39)).alloc (.cells #[.int .i64 0, .int .i64 0, .slice none 0 0] 41)).alloc (.cells #[.int .i64 0, .int .i64 0, .slice none 0 0] 41))).heap.size = w.heap.size + 3) := Lib.hid (by rw [World.size_alloc, World.size_alloc, World.size_alloc])
  have HZ1 : Hid (Blk (((w.alloc (.cells #[.int .i64 2, .int .i64 zone, .int .i64 page, vb, vk, vt] 39)).alloc (.cells #[.int .i64 0, .int .i64 0, .slice none 0 0] 41)).alloc (.cells #[.int .i64 0, .int .i64 0, .slice none 0 0] 41)) (w.heap.size + 1) 41 [.int .i64 0, .int .i64 0, .slice none 0 0]) := Lib.hid (by
    have h1 := heap_alloc_new (w.alloc (.cells #[.int .i64 2, .int .i64 zone, .int .i64 page, vb, vk, vt] 39)) (.cells #[.int .i64 0, .int .i64 0, .slice none 0 0] 41)
    rw [World.size_alloc] at h1
    exact Blk.up h1 (Below.alloc (Below.refl _ _) (Nat.le_refl _) _) (by rw [World.size_alloc, World.size_alloc]; omega))
  have HZ2 : Hid (Blk (((w.alloc (.cells #[.int .i64 2, .int .i64 zone, .int .i64 page, vb, vk, vt] 39)).alloc (.cells #[.int .i64 0, .int .i64 0, .slice none 0 0] 41)).alloc (.cells #[.int .i64 0, .int .i64 0, .slice none 0 0] 41)) (w.heap.size + 2) 41 [.int .i64 0, .int .i64 0, .slice none 0 0]) := Lib.hid (by
    have h1 := heap_alloc_new ((w.alloc (.cells #[.int .i64 2, .int .i64 zone, .int .i64 page, vb, vk, vt] 39)).alloc (.cells #[.int .i64 0, .int .i64 0, .slice none 0 0] 41)) (.cells #[.int .i64 0, .int .i64 0, .slice none 0 0] 41)
    rw [World.size_alloc, World.size_alloc] at h1
    exact h1)
  have HX := Lib.hid hx
  have HM := Lib.hid hsm
  have HD := Lib.hid hd
  obtain ⟨A1, c1, A2, c2, A3, c3, rfl, rfl, rfl⟩ := ha.form
  clear h ha hx hsm hd
  go_enter Tryd.func15, Tryd.ntmps15
  go_wp2_with fail
  obtain ⟨zb, cap, zs, hr⟩ := HR3.out
  refine (rreset_at zone hr HD.out).mono ?_
  rintro r w4 ⟨rfl, h4, k4⟩
  have H4 := Lib.hid h4
  have K4 := Lib.hid k4
  clear h4 k4
  have HT1 : Hid (Blk w4 (w.heap.size + 1) 41 [.int .i64 0, .int .i64 0, .slice none 0 0]) := Lib.hid (K4.out.blk HZ1.out (fun e => by have := HF.out _ e; omega))
  have HT2 : Hid (Blk w4 (w.heap.size + 2) 41 [.int .i64 0, .int .i64 0, .slice none 0 0]) := Lib.hid (K4.out.blk HZ2.out (fun e => by have := HF.out _ e; omega))
  have a0 : w4.cell? ⟨w.heap.size + 1, 0, none⟩ = some (.int .i64 0) := HT1.out.cell 0 (by simp)
  have a1 : w4.cell? ⟨w.heap.size + 1, 1, none⟩ = some (.int .i64 0) := HT1.out.cell 1 (by simp)
  have a2 : w4.cell? ⟨w.heap.size + 1, 2, none⟩ = some (.slice none 0 0) := HT1.out.cell 2 (by simp)
  have b0 : w4.cell? ⟨w.heap.size + 2, 0, none⟩ = some (.int .i64 0) := HT2.out.cell 0 (by simp)
  have b1 : w4.cell? ⟨w.heap.size + 2, 1, none⟩ = some (.int .i64 0) := HT2.out.cell 1 (by simp)
  have b2 : w4.cell? ⟨w.heap.size + 2, 2, none⟩ = some (.slice none 0 0) := HT2.out.cell 2 (by simp)
  have fa0 := HT1.out.free 0
  have fa1 := HT1.out.free 1
  have fa2 := HT1.out.free 2
  have fb0 := HT2.out.free 0
  have fb1 := HT2.out.free 1
  have fb2 := HT2.out.free 2
  obtain ⟨ee, hee⟩ : ∃ ee, S.mayE (S.resetE zone) = ee := ⟨_, rfl⟩
  have HEE := Lib.hid hee
  rw [hee]
  clear hee
  have HB5 : Hid (Blk (w4.setCell ⟨w.heap.size + 1 + 1, 1, none⟩ (.int .i64 ee)) (w.heap.size + 1) 41 [.int .i64 0, .int .i64 0, .slice none 0 0]) := Lib.hid ((kept_put w4 (w.heap.size + 1 + 1) 1 (.int .i64 ee)).blk HT1.out (by omega))
  have d0 : ((w4.setCell ⟨w.heap.size + 1 + 1, 1, none⟩ (.int .i64 ee)).setCell ⟨w.heap.size + 1, 0, none⟩ (.int .i64 0)).cell? ⟨w.heap.size + 1, 0, none⟩ = some (.int .i64 0) := (HB5.out.put 0 _).cell 0 (by simp)
  have d1 : (((w4.setCell ⟨w.heap.size + 1 + 1, 1, none⟩ (.int .i64 ee)).setCell ⟨w.heap.size + 1, 0, none⟩ (.int .i64 0)).setCell ⟨w.heap.size + 1, 1, none⟩ (.int .i64 ee)).cell? ⟨w.heap.size + 1, 1, none⟩ = some (.int .i64 ee) := ((HB5.out.put 0 _).put 1 _).cell 1 (by simp)
  have d2 : ((((w4.setCell ⟨w.heap.size + 1 + 1, 1, none⟩ (.int .i64 ee)).setCell ⟨w.heap.size + 1, 0, none⟩ (.int .i64 0)).setCell ⟨w.heap.size + 1, 1, none⟩ (.int .i64 ee)).setCell ⟨w.heap.size + 1, 2, none⟩ (.slice none 0 0)).cell? ⟨w.heap.size + 1, 2, none⟩ = some (.slice none 0 0) := (((HB5.out.put 0 _).put 1 _).put 2 _).cell 2 (by simp)
  go_wp2_with fail
  refine bodyPost_ret (v := .agg #[.int .i64 0, .int .i64 ee, .slice none 0 0]) (by simp [results, Tryd.results15, go_sem, d0, d1, d2]) rfl ?_
  rw [(act_two rfl).1, (act_two rfl).2]
  simp only [← HEE.out]
  refine told_end HH HB3.out H4.out K4.out HF.out (BytN.nil _ _) ?_
  rw [HS3.out]
  repeat (refine Kept.put ?_ (.inl ⟨by omega, by omega⟩) _ _)
  exact Kept.refl _ _

theorem own_3 {F : Nat → Prop} {w : World} {rb : Nat} {S : DevS} (vb vk vt : Value) (zone page : Int) (B keep : List Int) (tear : List Bool) (h : RDev F w rb S) (hd : S.done ≤ 1000000) (ha : ActF (fun k => k < w.heap.size ∧ ¬ F k) w vb vk vt ⟨3, zone, page, B, keep, tear⟩) (hx : ActOk ⟨3, zone, page, B, keep, tear⟩) (hsm : B.length ≤ 100 ∧ keep.length ≤ 100 ∧ tear.length ≤ 100) :
    Calls Tryd.prog 15 #[.pointer (some ⟨rb, 0, none⟩), .agg #[.int .i64 3, .int .i64 zone, .int .i64 page, vb, vk, vt]] w (ToldIs (fun G u S' => RDev G u rb S') F (actS S ⟨3, zone, page, B, keep, tear⟩) (actT S ⟨3, zone, page, B, keep, tear⟩) w) := by
  have HH : Holds (fun G u S' => RDev G u rb S') := holds_r rb
  have HF : Hid (∀ k, F k → k < w.heap.size) := Lib.hid (HH.lt h)
  have HB3 : Hid (Below w.heap.size w (((w.alloc (.cells #[.int .i64 3, .int .i64 zone, .int .i64 page, vb, vk, vt] 39)).alloc (.cells #[.int .i64 0, .int .i64 0, .slice none 0 0] 41)).alloc (.cells #[.int .i64 0, .int .i64 0, .slice none 0 0] 41))) := Lib.hid below_three
  have HR3 : Hid (RDev F (((w.alloc (.cells #[.int .i64 3, .int .i64 zone, .int .i64 page, vb, vk, vt] 39)).alloc (.cells #[.int .i64 0, .int .i64 0, .slice none 0 0] 41)).alloc (.cells #[.int .i64 0, .int .i64 0, .slice none 0 0] 41)) rb S) := Lib.hid (HH.keep (S := S) h (Kept.of_below (F := fun _ => False) HB3.out) (fun _ _ => id))
  have HA3 : Hid (ActF (fun k => k < w.heap.size ∧ ¬ F k) (((w.alloc (.cells #[.int .i64 3, .int .i64 zone, .int .i64 page, vb, vk, vt] 39)).alloc (.cells #[.int .i64 0, .int .i64 0, .slice none 0 0] 41)).alloc (.cells #[.int .i64 0, .int .i64 0, .slice none 0 0] 41)) vb vk vt ⟨3, zone, page, B, keep, tear⟩) := Lib.hid (ha.up HB3.out)
  have HS3 : Hid (((((w.alloc (.cells #[.int .i64 3, .int .i64 zone, .int .i64 page, vb, vk, vt] 39)).alloc (.cells #[.int .i64 0, .int .i64 0, .slice none 0 0] 41)).alloc (.cells #[.int .i64 0, .int .i64 0, .slice none 0 0] 41))).heap.size = w.heap.size + 3) := Lib.hid (by rw [World.size_alloc, World.size_alloc, World.size_alloc])
  have HZ1 : Hid (Blk (((w.alloc (.cells #[.int .i64 3, .int .i64 zone, .int .i64 page, vb, vk, vt] 39)).alloc (.cells #[.int .i64 0, .int .i64 0, .slice none 0 0] 41)).alloc (.cells #[.int .i64 0, .int .i64 0, .slice none 0 0] 41)) (w.heap.size + 1) 41 [.int .i64 0, .int .i64 0, .slice none 0 0]) := Lib.hid (by
    have h1 := heap_alloc_new (w.alloc (.cells #[.int .i64 3, .int .i64 zone, .int .i64 page, vb, vk, vt] 39)) (.cells #[.int .i64 0, .int .i64 0, .slice none 0 0] 41)
    rw [World.size_alloc] at h1
    exact Blk.up h1 (Below.alloc (Below.refl _ _) (Nat.le_refl _) _) (by rw [World.size_alloc, World.size_alloc]; omega))
  have HZ2 : Hid (Blk (((w.alloc (.cells #[.int .i64 3, .int .i64 zone, .int .i64 page, vb, vk, vt] 39)).alloc (.cells #[.int .i64 0, .int .i64 0, .slice none 0 0] 41)).alloc (.cells #[.int .i64 0, .int .i64 0, .slice none 0 0] 41)) (w.heap.size + 2) 41 [.int .i64 0, .int .i64 0, .slice none 0 0]) := Lib.hid (by
    have h1 := heap_alloc_new ((w.alloc (.cells #[.int .i64 3, .int .i64 zone, .int .i64 page, vb, vk, vt] 39)).alloc (.cells #[.int .i64 0, .int .i64 0, .slice none 0 0] 41)) (.cells #[.int .i64 0, .int .i64 0, .slice none 0 0] 41)
    rw [World.size_alloc, World.size_alloc] at h1
    exact h1)
  have HX := Lib.hid hx
  have HM := Lib.hid hsm
  have HD := Lib.hid hd
  obtain ⟨A1, c1, A2, c2, A3, c3, rfl, rfl, rfl⟩ := ha.form
  clear h ha hx hsm hd
  go_enter Tryd.func15, Tryd.ntmps15
  go_wp2_with fail
  obtain ⟨zb, cap, zs, hr⟩ := HR3.out
  refine (rfinish_at zone hr HD.out).mono ?_
  rintro r w4 ⟨rfl, h4, k4⟩
  have H4 := Lib.hid h4
  have K4 := Lib.hid k4
  clear h4 k4
  have HT1 : Hid (Blk w4 (w.heap.size + 1) 41 [.int .i64 0, .int .i64 0, .slice none 0 0]) := Lib.hid (K4.out.blk HZ1.out (fun e => by have := HF.out _ e; omega))
  have HT2 : Hid (Blk w4 (w.heap.size + 2) 41 [.int .i64 0, .int .i64 0, .slice none 0 0]) := Lib.hid (K4.out.blk HZ2.out (fun e => by have := HF.out _ e; omega))
  have a0 : w4.cell? ⟨w.heap.size + 1, 0, none⟩ = some (.int .i64 0) := HT1.out.cell 0 (by simp)
  have a1 : w4.cell? ⟨w.heap.size + 1, 1, none⟩ = some (.int .i64 0) := HT1.out.cell 1 (by simp)
  have a2 : w4.cell? ⟨w.heap.size + 1, 2, none⟩ = some (.slice none 0 0) := HT1.out.cell 2 (by simp)
  have b0 : w4.cell? ⟨w.heap.size + 2, 0, none⟩ = some (.int .i64 0) := HT2.out.cell 0 (by simp)
  have b1 : w4.cell? ⟨w.heap.size + 2, 1, none⟩ = some (.int .i64 0) := HT2.out.cell 1 (by simp)
  have b2 : w4.cell? ⟨w.heap.size + 2, 2, none⟩ = some (.slice none 0 0) := HT2.out.cell 2 (by simp)
  have fa0 := HT1.out.free 0
  have fa1 := HT1.out.free 1
  have fa2 := HT1.out.free 2
  have fb0 := HT2.out.free 0
  have fb1 := HT2.out.free 1
  have fb2 := HT2.out.free 2
  obtain ⟨ee, hee⟩ : ∃ ee, S.mayE (S.finE zone) = ee := ⟨_, rfl⟩
  have HEE := Lib.hid hee
  rw [hee]
  clear hee
  have HB5 : Hid (Blk (w4.setCell ⟨w.heap.size + 1 + 1, 1, none⟩ (.int .i64 ee)) (w.heap.size + 1) 41 [.int .i64 0, .int .i64 0, .slice none 0 0]) := Lib.hid ((kept_put w4 (w.heap.size + 1 + 1) 1 (.int .i64 ee)).blk HT1.out (by omega))
  have d0 : ((w4.setCell ⟨w.heap.size + 1 + 1, 1, none⟩ (.int .i64 ee)).setCell ⟨w.heap.size + 1, 0, none⟩ (.int .i64 0)).cell? ⟨w.heap.size + 1, 0, none⟩ = some (.int .i64 0) := (HB5.out.put 0 _).cell 0 (by simp)
  have d1 : (((w4.setCell ⟨w.heap.size + 1 + 1, 1, none⟩ (.int .i64 ee)).setCell ⟨w.heap.size + 1, 0, none⟩ (.int .i64 0)).setCell ⟨w.heap.size + 1, 1, none⟩ (.int .i64 ee)).cell? ⟨w.heap.size + 1, 1, none⟩ = some (.int .i64 ee) := ((HB5.out.put 0 _).put 1 _).cell 1 (by simp)
  have d2 : ((((w4.setCell ⟨w.heap.size + 1 + 1, 1, none⟩ (.int .i64 ee)).setCell ⟨w.heap.size + 1, 0, none⟩ (.int .i64 0)).setCell ⟨w.heap.size + 1, 1, none⟩ (.int .i64 ee)).setCell ⟨w.heap.size + 1, 2, none⟩ (.slice none 0 0)).cell? ⟨w.heap.size + 1, 2, none⟩ = some (.slice none 0 0) := (((HB5.out.put 0 _).put 1 _).put 2 _).cell 2 (by simp)
  go_wp2_with fail
  refine bodyPost_ret (v := .agg #[.int .i64 0, .int .i64 ee, .slice none 0 0]) (by simp [results, Tryd.results15, go_sem, d0, d1, d2]) rfl ?_
  rw [(act_three rfl).1, (act_three rfl).2]
  simp only [← HEE.out]
  refine told_end HH HB3.out H4.out K4.out HF.out (BytN.nil _ _) ?_
  rw [HS3.out]
  repeat (refine Kept.put ?_ (.inl ⟨by omega, by omega⟩) _ _)
  exact Kept.refl _ _

theorem own_4 {F : Nat → Prop} {w : World} {rb : Nat} {S : DevS} (vb vk vt : Value) (zone page : Int) (B keep : List Int) (tear : List Bool) (h : RDev F w rb S) (hd : S.done ≤ 1000000) (ha : ActF (fun k => k < w.heap.size ∧ ¬ F k) w vb vk vt ⟨4, zone, page, B, keep, tear⟩) (hx : ActOk ⟨4, zone, page, B, keep, tear⟩) (hsm : B.length ≤ 100 ∧ keep.length ≤ 100 ∧ tear.length ≤ 100) :
    Calls Tryd.prog 15 #[.pointer (some ⟨rb, 0, none⟩), .agg #[.int .i64 4, .int .i64 zone, .int .i64 page, vb, vk, vt]] w (ToldIs (fun G u S' => RDev G u rb S') F (actS S ⟨4, zone, page, B, keep, tear⟩) (actT S ⟨4, zone, page, B, keep, tear⟩) w) := by
  have HH : Holds (fun G u S' => RDev G u rb S') := holds_r rb
  have HF : Hid (∀ k, F k → k < w.heap.size) := Lib.hid (HH.lt h)
  have HB3 : Hid (Below w.heap.size w (((w.alloc (.cells #[.int .i64 4, .int .i64 zone, .int .i64 page, vb, vk, vt] 39)).alloc (.cells #[.int .i64 0, .int .i64 0, .slice none 0 0] 41)).alloc (.cells #[.int .i64 0, .int .i64 0, .slice none 0 0] 41))) := Lib.hid below_three
  have HR3 : Hid (RDev F (((w.alloc (.cells #[.int .i64 4, .int .i64 zone, .int .i64 page, vb, vk, vt] 39)).alloc (.cells #[.int .i64 0, .int .i64 0, .slice none 0 0] 41)).alloc (.cells #[.int .i64 0, .int .i64 0, .slice none 0 0] 41)) rb S) := Lib.hid (HH.keep (S := S) h (Kept.of_below (F := fun _ => False) HB3.out) (fun _ _ => id))
  have HA3 : Hid (ActF (fun k => k < w.heap.size ∧ ¬ F k) (((w.alloc (.cells #[.int .i64 4, .int .i64 zone, .int .i64 page, vb, vk, vt] 39)).alloc (.cells #[.int .i64 0, .int .i64 0, .slice none 0 0] 41)).alloc (.cells #[.int .i64 0, .int .i64 0, .slice none 0 0] 41)) vb vk vt ⟨4, zone, page, B, keep, tear⟩) := Lib.hid (ha.up HB3.out)
  have HS3 : Hid (((((w.alloc (.cells #[.int .i64 4, .int .i64 zone, .int .i64 page, vb, vk, vt] 39)).alloc (.cells #[.int .i64 0, .int .i64 0, .slice none 0 0] 41)).alloc (.cells #[.int .i64 0, .int .i64 0, .slice none 0 0] 41))).heap.size = w.heap.size + 3) := Lib.hid (by rw [World.size_alloc, World.size_alloc, World.size_alloc])
  have HZ1 : Hid (Blk (((w.alloc (.cells #[.int .i64 4, .int .i64 zone, .int .i64 page, vb, vk, vt] 39)).alloc (.cells #[.int .i64 0, .int .i64 0, .slice none 0 0] 41)).alloc (.cells #[.int .i64 0, .int .i64 0, .slice none 0 0] 41)) (w.heap.size + 1) 41 [.int .i64 0, .int .i64 0, .slice none 0 0]) := Lib.hid (by
    have h1 := heap_alloc_new (w.alloc (.cells #[.int .i64 4, .int .i64 zone, .int .i64 page, vb, vk, vt] 39)) (.cells #[.int .i64 0, .int .i64 0, .slice none 0 0] 41)
    rw [World.size_alloc] at h1
    exact Blk.up h1 (Below.alloc (Below.refl _ _) (Nat.le_refl _) _) (by rw [World.size_alloc, World.size_alloc]; omega))
  have HZ2 : Hid (Blk (((w.alloc (.cells #[.int .i64 4, .int .i64 zone, .int .i64 page, vb, vk, vt] 39)).alloc (.cells #[.int .i64 0, .int .i64 0, .slice none 0 0] 41)).alloc (.cells #[.int .i64 0, .int .i64 0, .slice none 0 0] 41)) (w.heap.size + 2) 41 [.int .i64 0, .int .i64 0, .slice none 0 0]) := Lib.hid (by
    have h1 := heap_alloc_new ((w.alloc (.cells #[.int .i64 4, .int .i64 zone, .int .i64 page, vb, vk, vt] 39)).alloc (.cells #[.int .i64 0, .int .i64 0, .slice none 0 0] 41)) (.cells #[.int .i64 0, .int .i64 0, .slice none 0 0] 41)
    rw [World.size_alloc, World.size_alloc] at h1
    exact h1)
  have HX := Lib.hid hx
  have HM := Lib.hid hsm
  have HD := Lib.hid hd
  obtain ⟨A1, c1, A2, c2, A3, c3, rfl, rfl, rfl⟩ := ha.form
  clear h ha hx hsm hd
  go_enter Tryd.func15, Tryd.ntmps15
  go_wp2_with fail
  obtain ⟨zb, cap, zs, hr⟩ := HR3.out
  refine (rflush_at hr HD.out).mono ?_
  rintro r w4 ⟨rfl, h4, k4⟩
  have H4 := Lib.hid h4
  have K4 := Lib.hid k4
  clear h4 k4
  have HT1 : Hid (Blk w4 (w.heap.size + 1) 41 [.int .i64 0, .int .i64 0, .slice none 0 0]) := Lib.hid (K4.out.blk HZ1.out (fun e => by have := HF.out _ e; omega))
  have HT2 : Hid (Blk w4 (w.heap.size + 2) 41 [.int .i64 0, .int .i64 0, .slice none 0 0]) := Lib.hid (K4.out.blk HZ2.out (fun e => by have := HF.out _ e; omega))
  have a0 : w4.cell? ⟨w.heap.size + 1, 0, none⟩ = some (.int .i64 0) := HT1.out.cell 0 (by simp)
  have a1 : w4.cell? ⟨w.heap.size + 1, 1, none⟩ = some (.int .i64 0) := HT1.out.cell 1 (by simp)
  have a2 : w4.cell? ⟨w.heap.size + 1, 2, none⟩ = some (.slice none 0 0) := HT1.out.cell 2 (by simp)
  have b0 : w4.cell? ⟨w.heap.size + 2, 0, none⟩ = some (.int .i64 0) := HT2.out.cell 0 (by simp)
  have b1 : w4.cell? ⟨w.heap.size + 2, 1, none⟩ = some (.int .i64 0) := HT2.out.cell 1 (by simp)
  have b2 : w4.cell? ⟨w.heap.size + 2, 2, none⟩ = some (.slice none 0 0) := HT2.out.cell 2 (by simp)
  have fa0 := HT1.out.free 0
  have fa1 := HT1.out.free 1
  have fa2 := HT1.out.free 2
  have fb0 := HT2.out.free 0
  have fb1 := HT2.out.free 1
  have fb2 := HT2.out.free 2
  obtain ⟨ee, hee⟩ : ∃ ee, S.mayE 0 = ee := ⟨_, rfl⟩
  have HEE := Lib.hid hee
  rw [hee]
  clear hee
  have HB5 : Hid (Blk (w4.setCell ⟨w.heap.size + 1 + 1, 1, none⟩ (.int .i64 ee)) (w.heap.size + 1) 41 [.int .i64 0, .int .i64 0, .slice none 0 0]) := Lib.hid ((kept_put w4 (w.heap.size + 1 + 1) 1 (.int .i64 ee)).blk HT1.out (by omega))
  have d0 : ((w4.setCell ⟨w.heap.size + 1 + 1, 1, none⟩ (.int .i64 ee)).setCell ⟨w.heap.size + 1, 0, none⟩ (.int .i64 0)).cell? ⟨w.heap.size + 1, 0, none⟩ = some (.int .i64 0) := (HB5.out.put 0 _).cell 0 (by simp)
  have d1 : (((w4.setCell ⟨w.heap.size + 1 + 1, 1, none⟩ (.int .i64 ee)).setCell ⟨w.heap.size + 1, 0, none⟩ (.int .i64 0)).setCell ⟨w.heap.size + 1, 1, none⟩ (.int .i64 ee)).cell? ⟨w.heap.size + 1, 1, none⟩ = some (.int .i64 ee) := ((HB5.out.put 0 _).put 1 _).cell 1 (by simp)
  have d2 : ((((w4.setCell ⟨w.heap.size + 1 + 1, 1, none⟩ (.int .i64 ee)).setCell ⟨w.heap.size + 1, 0, none⟩ (.int .i64 0)).setCell ⟨w.heap.size + 1, 1, none⟩ (.int .i64 ee)).setCell ⟨w.heap.size + 1, 2, none⟩ (.slice none 0 0)).cell? ⟨w.heap.size + 1, 2, none⟩ = some (.slice none 0 0) := (((HB5.out.put 0 _).put 1 _).put 2 _).cell 2 (by simp)
  go_wp2_with fail
  refine bodyPost_ret (v := .agg #[.int .i64 0, .int .i64 ee, .slice none 0 0]) (by simp [results, Tryd.results15, go_sem, d0, d1, d2]) rfl ?_
  rw [(act_four rfl).1, (act_four rfl).2]
  simp only [← HEE.out]
  refine told_end HH HB3.out H4.out K4.out HF.out (BytN.nil _ _) ?_
  rw [HS3.out]
  repeat (refine Kept.put ?_ (.inl ⟨by omega, by omega⟩) _ _)
  exact Kept.refl _ _

theorem own_5 {F : Nat → Prop} {w : World} {rb : Nat} {S : DevS} (vb vk vt : Value) (zone page : Int) (B keep : List Int) (tear : List Bool) (h : RDev F w rb S) (hd : S.done ≤ 1000000) (ha : ActF (fun k => k < w.heap.size ∧ ¬ F k) w vb vk vt ⟨5, zone, page, B, keep, tear⟩) (hx : ActOk ⟨5, zone, page, B, keep, tear⟩) (hsm : B.length ≤ 100 ∧ keep.length ≤ 100 ∧ tear.length ≤ 100) :
    Calls Tryd.prog 15 #[.pointer (some ⟨rb, 0, none⟩), .agg #[.int .i64 5, .int .i64 zone, .int .i64 page, vb, vk, vt]] w (ToldIs (fun G u S' => RDev G u rb S') F (actS S ⟨5, zone, page, B, keep, tear⟩) (actT S ⟨5, zone, page, B, keep, tear⟩) w) := by
  have HH : Holds (fun G u S' => RDev G u rb S') := holds_r rb
  have HF : Hid (∀ k, F k → k < w.heap.size) := Lib.hid (HH.lt h)
  have HB3 : Hid (Below w.heap.size w (((w.alloc (.cells #[.int .i64 5, .int .i64 zone, .int .i64 page, vb, vk, vt] 39)).alloc (.cells #[.int .i64 0, .int .i64 0, .slice none 0 0] 41)).alloc (.cells #[.int .i64 0, .int .i64 0, .slice none 0 0] 41))) := Lib.hid below_three
  have HR3 : Hid (RDev F (((w.alloc (.cells #[.int .i64 5, .int .i64 zone, .int .i64 page, vb, vk, vt] 39)).alloc (.cells #[.int .i64 0, .int .i64 0, .slice none 0 0] 41)).alloc (.cells #[.int .i64 0, .int .i64 0, .slice none 0 0] 41)) rb S) := Lib.hid (HH.keep (S := S) h (Kept.of_below (F := fun _ => False) HB3.out) (fun _ _ => id))
  have HA3 : Hid (ActF (fun k => k < w.heap.size ∧ ¬ F k) (((w.alloc (.cells #[.int .i64 5, .int .i64 zone, .int .i64 page, vb, vk, vt] 39)).alloc (.cells #[.int .i64 0, .int .i64 0, .slice none 0 0] 41)).alloc (.cells #[.int .i64 0, .int .i64 0, .slice none 0 0] 41)) vb vk vt ⟨5, zone, page, B, keep, tear⟩) := Lib.hid (ha.up HB3.out)
  have HS3 : Hid (((((w.alloc (.cells #[.int .i64 5, .int .i64 zone, .int .i64 page, vb, vk, vt] 39)).alloc (.cells #[.int .i64 0, .int .i64 0, .slice none 0 0] 41)).alloc (.cells #[.int .i64 0, .int .i64 0, .slice none 0 0] 41))).heap.size = w.heap.size + 3) := Lib.hid (by rw [World.size_alloc, World.size_alloc, World.size_alloc])
  have HZ1 : Hid (Blk (((w.alloc (.cells #[.int .i64 5, .int .i64 zone, .int .i64 page, vb, vk, vt] 39)).alloc (.cells #[.int .i64 0, .int .i64 0, .slice none 0 0] 41)).alloc (.cells #[.int .i64 0, .int .i64 0, .slice none 0 0] 41)) (w.heap.size + 1) 41 [.int .i64 0, .int .i64 0, .slice none 0 0]) := Lib.hid (by
    have h1 := heap_alloc_new (w.alloc (.cells #[.int .i64 5, .int .i64 zone, .int .i64 page, vb, vk, vt] 39)) (.cells #[.int .i64 0, .int .i64 0, .slice none 0 0] 41)
    rw [World.size_alloc] at h1
    exact Blk.up h1 (Below.alloc (Below.refl _ _) (Nat.le_refl _) _) (by rw [World.size_alloc, World.size_alloc]; omega))
  have HZ2 : Hid (Blk (((w.alloc (.cells #[.int .i64 5, .int .i64 zone, .int .i64 page, vb, vk, vt] 39)).alloc (.cells #[.int .i64 0, .int .i64 0, .slice none 0 0] 41)).alloc (.cells #[.int .i64 0, .int .i64 0, .slice none 0 0] 41)) (w.heap.size + 2) 41 [.int .i64 0, .int .i64 0, .slice none 0 0]) := Lib.hid (by
    have h1 := heap_alloc_new ((w.alloc (.cells #[.int .i64 5, .int .i64 zone, .int .i64 page, vb, vk, vt] 39)).alloc (.cells #[.int .i64 0, .int .i64 0, .slice none 0 0] 41)) (.cells #[.int .i64 0, .int .i64 0, .slice none 0 0] 41)
    rw [World.size_alloc, World.size_alloc] at h1
    exact h1)
  have HX := Lib.hid hx
  have HM := Lib.hid hsm
  have HD := Lib.hid hd
  obtain ⟨A1, c1, A2, c2, A3, c3, rfl, rfl, rfl⟩ := ha.form
  clear h ha hx hsm hd
  go_enter Tryd.func15, Tryd.ntmps15
  go_wp2_with fail
  obtain ⟨zb, cap, zs, hr⟩ := HR3.out
  refine (rfuse_at page hr HX.out.1).mono ?_
  rintro r w4 ⟨rfl, h4, k4⟩
  have H4 := Lib.hid h4
  have K4 := Lib.hid k4
  clear h4 k4
  have HT1 : Hid (Blk w4 (w.heap.size + 1) 41 [.int .i64 0, .int .i64 0, .slice none 0 0]) := Lib.hid (K4.out.blk HZ1.out (fun e => by have := HF.out _ e; omega))
  have HT2 : Hid (Blk w4 (w.heap.size + 2) 41 [.int .i64 0, .int .i64 0, .slice none 0 0]) := Lib.hid (K4.out.blk HZ2.out (fun e => by have := HF.out _ e; omega))
  have a0 : w4.cell? ⟨w.heap.size + 1, 0, none⟩ = some (.int .i64 0) := HT1.out.cell 0 (by simp)
  have a1 : w4.cell? ⟨w.heap.size + 1, 1, none⟩ = some (.int .i64 0) := HT1.out.cell 1 (by simp)
  have a2 : w4.cell? ⟨w.heap.size + 1, 2, none⟩ = some (.slice none 0 0) := HT1.out.cell 2 (by simp)
  have b0 : w4.cell? ⟨w.heap.size + 2, 0, none⟩ = some (.int .i64 0) := HT2.out.cell 0 (by simp)
  have b1 : w4.cell? ⟨w.heap.size + 2, 1, none⟩ = some (.int .i64 0) := HT2.out.cell 1 (by simp)
  have b2 : w4.cell? ⟨w.heap.size + 2, 2, none⟩ = some (.slice none 0 0) := HT2.out.cell 2 (by simp)
  have fa0 := HT1.out.free 0
  have fa1 := HT1.out.free 1
  have fa2 := HT1.out.free 2
  have fb0 := HT2.out.free 0
  have fb1 := HT2.out.free 1
  have fb2 := HT2.out.free 2
  have HB5 : Hid (Blk w4 (w.heap.size + 1) 41 [.int .i64 0, .int .i64 0, .slice none 0 0]) := Lib.hid HT1.out
  have d0 : (w4.setCell ⟨w.heap.size + 1, 0, none⟩ (.int .i64 0)).cell? ⟨w.heap.size + 1, 0, none⟩ = some (.int .i64 0) := (HB5.out.put 0 _).cell 0 (by simp)
  have d1 : ((w4.setCell ⟨w.heap.size + 1, 0, none⟩ (.int .i64 0)).setCell ⟨w.heap.size + 1, 1, none⟩ (.int .i64 0)).cell? ⟨w.heap.size + 1, 1, none⟩ = some (.int .i64 0) := ((HB5.out.put 0 _).put 1 _).cell 1 (by simp)
  have d2 : (((w4.setCell ⟨w.heap.size + 1, 0, none⟩ (.int .i64 0)).setCell ⟨w.heap.size + 1, 1, none⟩ (.int .i64 0)).setCell ⟨w.heap.size + 1, 2, none⟩ (.slice none 0 0)).cell? ⟨w.heap.size + 1, 2, none⟩ = some (.slice none 0 0) := (((HB5.out.put 0 _).put 1 _).put 2 _).cell 2 (by simp)
  go_wp2_with fail
  refine bodyPost_ret (v := .agg #[.int .i64 0, .int .i64 0, .slice none 0 0]) (by simp [results, Tryd.results15, go_sem, d0, d1, d2]) rfl ?_
  rw [(act_five rfl).1, (act_five rfl).2]
  refine told_end HH HB3.out H4.out K4.out HF.out (BytN.nil _ _) ?_
  rw [HS3.out]
  repeat (refine Kept.put ?_ (.inl ⟨by omega, by omega⟩) _ _)
  exact Kept.refl _ _

theorem own_6 {F : Nat → Prop} {w : World} {rb : Nat} {S : DevS} (vb vk vt : Value) (zone page : Int) (B keep : List Int) (tear : List Bool) (h : RDev F w rb S) (hd : S.done ≤ 1000000) (ha : ActF (fun k => k < w.heap.size ∧ ¬ F k) w vb vk vt ⟨6, zone, page, B, keep, tear⟩) (hx : ActOk ⟨6, zone, page, B, keep, tear⟩) (hsm : B.length ≤ 100 ∧ keep.length ≤ 100 ∧ tear.length ≤ 100) :
    Calls Tryd.prog 15 #[.pointer (some ⟨rb, 0, none⟩), .agg #[.int .i64 6, .int .i64 zone, .int .i64 page, vb, vk, vt]] w (ToldIs (fun G u S' => RDev G u rb S') F (actS S ⟨6, zone, page, B, keep, tear⟩) (actT S ⟨6, zone, page, B, keep, tear⟩) w) := by
  have HH : Holds (fun G u S' => RDev G u rb S') := holds_r rb
  have HF : Hid (∀ k, F k → k < w.heap.size) := Lib.hid (HH.lt h)
  have HB3 : Hid (Below w.heap.size w (((w.alloc (.cells #[.int .i64 6, .int .i64 zone, .int .i64 page, vb, vk, vt] 39)).alloc (.cells #[.int .i64 0, .int .i64 0, .slice none 0 0] 41)).alloc (.cells #[.int .i64 0, .int .i64 0, .slice none 0 0] 41))) := Lib.hid below_three
  have HR3 : Hid (RDev F (((w.alloc (.cells #[.int .i64 6, .int .i64 zone, .int .i64 page, vb, vk, vt] 39)).alloc (.cells #[.int .i64 0, .int .i64 0, .slice none 0 0] 41)).alloc (.cells #[.int .i64 0, .int .i64 0, .slice none 0 0] 41)) rb S) := Lib.hid (HH.keep (S := S) h (Kept.of_below (F := fun _ => False) HB3.out) (fun _ _ => id))
  have HA3 : Hid (ActF (fun k => k < w.heap.size ∧ ¬ F k) (((w.alloc (.cells #[.int .i64 6, .int .i64 zone, .int .i64 page, vb, vk, vt] 39)).alloc (.cells #[.int .i64 0, .int .i64 0, .slice none 0 0] 41)).alloc (.cells #[.int .i64 0, .int .i64 0, .slice none 0 0] 41)) vb vk vt ⟨6, zone, page, B, keep, tear⟩) := Lib.hid (ha.up HB3.out)
  have HS3 : Hid (((((w.alloc (.cells #[.int .i64 6, .int .i64 zone, .int .i64 page, vb, vk, vt] 39)).alloc (.cells #[.int .i64 0, .int .i64 0, .slice none 0 0] 41)).alloc (.cells #[.int .i64 0, .int .i64 0, .slice none 0 0] 41))).heap.size = w.heap.size + 3) := Lib.hid (by rw [World.size_alloc, World.size_alloc, World.size_alloc])
  have HZ1 : Hid (Blk (((w.alloc (.cells #[.int .i64 6, .int .i64 zone, .int .i64 page, vb, vk, vt] 39)).alloc (.cells #[.int .i64 0, .int .i64 0, .slice none 0 0] 41)).alloc (.cells #[.int .i64 0, .int .i64 0, .slice none 0 0] 41)) (w.heap.size + 1) 41 [.int .i64 0, .int .i64 0, .slice none 0 0]) := Lib.hid (by
    have h1 := heap_alloc_new (w.alloc (.cells #[.int .i64 6, .int .i64 zone, .int .i64 page, vb, vk, vt] 39)) (.cells #[.int .i64 0, .int .i64 0, .slice none 0 0] 41)
    rw [World.size_alloc] at h1
    exact Blk.up h1 (Below.alloc (Below.refl _ _) (Nat.le_refl _) _) (by rw [World.size_alloc, World.size_alloc]; omega))
  have HZ2 : Hid (Blk (((w.alloc (.cells #[.int .i64 6, .int .i64 zone, .int .i64 page, vb, vk, vt] 39)).alloc (.cells #[.int .i64 0, .int .i64 0, .slice none 0 0] 41)).alloc (.cells #[.int .i64 0, .int .i64 0, .slice none 0 0] 41)) (w.heap.size + 2) 41 [.int .i64 0, .int .i64 0, .slice none 0 0]) := Lib.hid (by
    have h1 := heap_alloc_new ((w.alloc (.cells #[.int .i64 6, .int .i64 zone, .int .i64 page, vb, vk, vt] 39)).alloc (.cells #[.int .i64 0, .int .i64 0, .slice none 0 0] 41)) (.cells #[.int .i64 0, .int .i64 0, .slice none 0 0] 41)
    rw [World.size_alloc, World.size_alloc] at h1
    exact h1)
  have HX := Lib.hid hx
  have HM := Lib.hid hsm
  have HD := Lib.hid hd
  obtain ⟨A1, c1, A2, c2, A3, c3, rfl, rfl, rfl⟩ := ha.form
  clear h ha hx hsm hd
  go_enter Tryd.func15, Tryd.ntmps15
  go_wp2_with fail
  obtain ⟨zb, cap, zs, hr⟩ := HR3.out
  refine (rcrash_at keep tear A2 A3 keep.length c2 tear.length c3 hr HA3.out.2.1.parts.1 (HA3.out.2.1.parts.2.1.mono (fun k hk => hk.2)) rfl HA3.out.2.2.parts.1 (HA3.out.2.2.parts.2.1.mono (fun k hk => hk.2)) rfl).mono ?_
  rintro r w4 ⟨rfl, h4, k4⟩
  have H4 := Lib.hid h4
  have K4 := Lib.hid k4
  clear h4 k4
  have HT1 : Hid (Blk w4 (w.heap.size + 1) 41 [.int .i64 0, .int .i64 0, .slice none 0 0]) := Lib.hid (K4.out.blk HZ1.out (fun e => by have := HF.out _ e; omega))
  have HT2 : Hid (Blk w4 (w.heap.size + 2) 41 [.int .i64 0, .int .i64 0, .slice none 0 0]) := Lib.hid (K4.out.blk HZ2.out (fun e => by have := HF.out _ e; omega))
  have a0 : w4.cell? ⟨w.heap.size + 1, 0, none⟩ = some (.int .i64 0) := HT1.out.cell 0 (by simp)
  have a1 : w4.cell? ⟨w.heap.size + 1, 1, none⟩ = some (.int .i64 0) := HT1.out.cell 1 (by simp)
  have a2 : w4.cell? ⟨w.heap.size + 1, 2, none⟩ = some (.slice none 0 0) := HT1.out.cell 2 (by simp)
  have b0 : w4.cell? ⟨w.heap.size + 2, 0, none⟩ = some (.int .i64 0) := HT2.out.cell 0 (by simp)
  have b1 : w4.cell? ⟨w.heap.size + 2, 1, none⟩ = some (.int .i64 0) := HT2.out.cell 1 (by simp)
  have b2 : w4.cell? ⟨w.heap.size + 2, 2, none⟩ = some (.slice none 0 0) := HT2.out.cell 2 (by simp)
  have fa0 := HT1.out.free 0
  have fa1 := HT1.out.free 1
  have fa2 := HT1.out.free 2
  have fb0 := HT2.out.free 0
  have fb1 := HT2.out.free 1
  have fb2 := HT2.out.free 2
  have HB5 : Hid (Blk w4 (w.heap.size + 1) 41 [.int .i64 0, .int .i64 0, .slice none 0 0]) := Lib.hid HT1.out
  have d0 : (w4.setCell ⟨w.heap.size + 1, 0, none⟩ (.int .i64 0)).cell? ⟨w.heap.size + 1, 0, none⟩ = some (.int .i64 0) := (HB5.out.put 0 _).cell 0 (by simp)
  have d1 : ((w4.setCell ⟨w.heap.size + 1, 0, none⟩ (.int .i64 0)).setCell ⟨w.heap.size + 1, 1, none⟩ (.int .i64 0)).cell? ⟨w.heap.size + 1, 1, none⟩ = some (.int .i64 0) := ((HB5.out.put 0 _).put 1 _).cell 1 (by simp)
  have d2 : (((w4.setCell ⟨w.heap.size + 1, 0, none⟩ (.int .i64 0)).setCell ⟨w.heap.size + 1, 1, none⟩ (.int .i64 0)).setCell ⟨w.heap.size + 1, 2, none⟩ (.slice none 0 0)).cell? ⟨w.heap.size + 1, 2, none⟩ = some (.slice none 0 0) := (((HB5.out.put 0 _).put 1 _).put 2 _).cell 2 (by simp)
  go_wp2_with fail
  refine bodyPost_ret (v := .agg #[.int .i64 0, .int .i64 0, .slice none 0 0]) (by simp [results, Tryd.results15, go_sem, d0, d1, d2]) rfl ?_
  rw [(act_six rfl).1, (act_six rfl).2]
  refine told_end HH HB3.out H4.out K4.out HF.out (BytN.nil _ _) ?_
  rw [HS3.out]
  repeat (refine Kept.put ?_ (.inl ⟨by omega, by omega⟩) _ _)
  exact Kept.refl _ _

theorem own_else {F : Nat → Prop} {w : World} {rb : Nat} {S : DevS} (vb vk vt : Value) (Do zone page : Int) (B keep : List Int) (tear : List Bool) (h : RDev F w rb S) (_hd : S.done ≤ 1000000) (ha : ActF (fun k => k < w.heap.size ∧ ¬ F k) w vb vk vt ⟨Do, zone, page, B, keep, tear⟩) (_hx : ActOk ⟨Do, zone, page, B, keep, tear⟩) (_hsm : B.length ≤ 100 ∧ keep.length ≤ 100 ∧ tear.length ≤ 100) (h0 : Do ≠ 0) (h1 : Do ≠ 1) (h2 : Do ≠ 2) (h3 : Do ≠ 3) (h4 : Do ≠ 4) (h5 : Do ≠ 5) (h6 : Do ≠ 6) :
    Calls Tryd.prog 15 #[.pointer (some ⟨rb, 0, none⟩), .agg #[.int .i64 Do, .int .i64 zone, .int .i64 page, vb, vk, vt]] w (ToldIs (fun G u S' => RDev G u rb S') F (actS S ⟨Do, zone, page, B, keep, tear⟩) (actT S ⟨Do, zone, page, B, keep, tear⟩) w) := by
  have HH : Holds (fun G u S' => RDev G u rb S') := holds_r rb
  have HD := Lib.hid h
  have HE := Lib.hid (act_else (S := S) (x := ⟨Do, zone, page, B, keep, tear⟩) h0 h1 h2 h3 h4 h5 h6)
  obtain ⟨A1, c1, A2, c2, A3, c3, rfl, rfl, rfl⟩ := ha.form
  have q0 : (Do == 0) = false := by simpa using h0
  have q1 : (Do == 1) = false := by simpa using h1
  have q2 : (Do == 2) = false := by simpa using h2
  have q3 : (Do == 3) = false := by simpa using h3
  have q4 : (Do == 4) = false := by simpa using h4
  have q5 : (Do == 5) = false := by simpa using h5
  have q6 : (Do == 6) = false := by simpa using h6
  clear h ha h0 h1 h2 h3 h4 h5 h6
  go_enter Tryd.func15, Tryd.ntmps15
  go_wp2_with fail
  refine bodyPost_ret (v := .agg #[.int .i64 0, .int .i64 0, .slice none 0 0]) (by simp [results, Tryd.results15, go_sem]) rfl ?_
  rw [HE.out.1, HE.out.2]
  exact ⟨.slice none 0 0, rfl, told_none HH HD.out below_three, Kept.of_below below_three, BytN.nil _ _⟩
theorem own_at {F : Nat → Prop} {w : World} {rb : Nat} {S : DevS} (x : ActS) (vb vk vt : Value) (h : RDev F w rb S) (hd : S.done ≤ 1000000) (ha : ActF (fun k => k < w.heap.size ∧ ¬ F k) w vb vk vt x) (hx : ActOk x) (hsm : x.B.length ≤ 100 ∧ x.keep.length ≤ 100 ∧ x.tear.length ≤ 100) :
    Calls Tryd.prog 15 #[.pointer (some ⟨rb, 0, none⟩), actV x vb vk vt] w (ToldIs (fun G u S' => RDev G u rb S') F (actS S x) (actT S x) w) := by
  obtain ⟨Do, zone, page, B, keep, tear⟩ := x
  simp only at hsm
  by_cases h0 : Do = 0
  · subst h0
    exact own_0 vb vk vt zone page B keep tear h hd ha hx hsm
  by_cases h1 : Do = 1
  · subst h1
    exact own_1 vb vk vt zone page B keep tear h hd ha hx hsm
  by_cases h2 : Do = 2
  · subst h2
    exact own_2 vb vk vt zone page B keep tear h hd ha hx hsm
  by_cases h3 : Do = 3
  · subst h3
    exact own_3 vb vk vt zone page B keep tear h hd ha hx hsm
  by_cases h4 : Do = 4
  · subst h4
    exact own_4 vb vk vt zone page B keep tear h hd ha hx hsm
  by_cases h5 : Do = 5
  · subst h5
    exact own_5 vb vk vt zone page B keep tear h hd ha hx hsm
  by_cases h6 : Do = 6
  · subst h6
    exact own_6 vb vk vt zone page B keep tear h hd ha hx hsm
  exact own_else vb vk vt Do zone page B keep tear h hd ha hx hsm h0 h1 h2 h3 h4 h5 h6
end Go.Proofs.YtljpkngbhdplbaaDoor

/-
  The law's own: an act on a cache.
-/
import Derived.Test.YtajccmkdfmpapaaGreatDoorLcN
namespace Go.Proofs.YtajccmkdfmpapaaGreatDoor
open Go.RowKit

abbrev actC (d b : Int) (a : Nat) (y : Bool) : Value := .agg #[.int .i64 d, .int .i64 b, .int .u32 (a : Int), .bool y]
abbrev toldV (n : Nat) (is : Bool) (m : Nat) : Value := .agg #[.int .u32 (n : Int), .bool is, .int .i64 (m : Int)]
section
variable {w : World} {cb kb ib eb : Nat} {σ : Nat → Nat} {S : CaS}
theorem LcTo.fin {v : Value} {v' : Value} {w0 w5 wF : World} {S' : CaS} {r : Ending} (h : LcTo cb kb ib eb v S' w0 r w5) (hb : Below w.heap.size w w0) (hlt : cb < w.heap.size ∧ kb < ib ∧ ib < eb ∧ eb < cb) (hk : Kept (fun k => w.heap.size ≤ k) w5 wF) : LcTo cb kb ib eb v' S' w (.returned v') wF := by
  obtain ⟨_, ⟨s', hc⟩, hk0⟩ := h
  exact ⟨rfl, ⟨s', hc.keep hk (by omega) (by omega) (by omega) (by omega)⟩, ((Kept.of_below hb).and hk0).late hk (Nat.le_refl _)⟩
set_option maxHeartbeats 2000000 in
set_option maxRecDepth 100000 in
theorem lcdo_at (d b : Int) (a : Nat) (y : Bool) (h : LcC w cb kb ib eb σ S) : Calls Tryz.prog 8 #[.pointer (some ⟨cb, 0, none⟩), actC d b a y] w (LcTo cb kb ib eb (toldV (S.toldN d b) (S.toldB d b) (S.toldM d b)) (S.doS d b a y) w) := by
  obtain ⟨B, hB⟩ : ∃ B, w.heap.size = B := ⟨_, rfl⟩
  obtain ⟨w0, hw0⟩ : ∃ w0, ((w.alloc (.cells #[.int .i64 d, .int .i64 b, .int .u32 (a : Int), .bool y] 36)).alloc (.cells #[.int .u32 0, .bool false, .int .i64 0] 38)).alloc (.cells #[.int .u32 0, .bool false, .int .i64 0] 38) = w0 := ⟨_, rfl⟩
  have hb0 : Below w.heap.size w w0 := by
    rw [← hw0]
    exact (((Below.refl w.heap.size w).alloc (Nat.le_refl _) _).alloc (by rw [World.size_alloc]; omega) _).alloc (by rw [World.size_alloc, World.size_alloc]; omega) _
  have hx0 : Blk w0 B 36 [.int .i64 d, .int .i64 b, .int .u32 (a : Int), .bool y] := by
    rw [← hw0, ← hB]
    exact Blk.up (Blk.up (heap_alloc_new w _) (Below.refl (w.heap.size + 1) _ |>.alloc (by rw [World.size_alloc]; omega) _) (by omega)) (Below.refl (w.heap.size + 1) _ |>.alloc (by rw [World.size_alloc, World.size_alloc]; omega) _) (by omega)
  have hr0 : Blk w0 (B + 1) 38 [.int .u32 0, .bool false, .int .i64 0] := by
    have := heap_alloc_new (w.alloc (.cells #[.int .i64 d, .int .i64 b, .int .u32 (a : Int), .bool y] 36)) (.cells #[.int .u32 0, .bool false, .int .i64 0] 38)
    rw [World.size_alloc, hB] at this
    rw [← hw0]
    exact Blk.up (T := 38) (cs := [.int .u32 0, .bool false, .int .i64 0]) this (Below.refl (B + 1 + 1) _ |>.alloc (by rw [World.size_alloc, World.size_alloc, hB]; omega) _) (by omega)
  have ht0 : Blk w0 (B + 1 + 1) 38 [.int .u32 0, .bool false, .int .i64 0] := by
    have := heap_alloc_new ((w.alloc (.cells #[.int .i64 d, .int .i64 b, .int .u32 (a : Int), .bool y] 36)).alloc (.cells #[.int .u32 0, .bool false, .int .i64 0] 38)) (.cells #[.int .u32 0, .bool false, .int .i64 0] 38)
    rw [World.size_alloc, World.size_alloc, hB] at this
    rw [← hw0]
    exact this
  have HB0 := Lib.hid hb0
  have HLT : Hid (cb < w.heap.size ∧ kb < ib ∧ ib < eb ∧ eb < cb) := Lib.hid ⟨h.lt, h.ne⟩
  have HR0 := Lib.hid hr0
  have HT0 := Lib.hid ht0
  have HBE := Lib.hid hB
  have HM := Lib.hid (h.up hb0)
  have HS : Hid (∀ w5, Kept (fun k => k < B) w0 w5 → w5.cell? ⟨B + 1, 0, none⟩ = some (.int .u32 0) ∧ w5.cell? ⟨B + 1, 1, none⟩ = some (.bool false) ∧ w5.cell? ⟨B + 1, 2, none⟩ = some (.int .i64 0) ∧ w5.frozen? ⟨B + 1, 0, none⟩ = false ∧ w5.frozen? ⟨B + 1, 1, none⟩ = false ∧ w5.frozen? ⟨B + 1, 2, none⟩ = false ∧ w5.cell? ⟨B + 1 + 1, 0, none⟩ = some (.int .u32 0) ∧ w5.cell? ⟨B + 1 + 1, 1, none⟩ = some (.bool false) ∧ w5.cell? ⟨B + 1 + 1, 2, none⟩ = some (.int .i64 0) ∧ w5.frozen? ⟨B + 1 + 1, 0, none⟩ = false ∧ w5.frozen? ⟨B + 1 + 1, 1, none⟩ = false ∧ w5.frozen? ⟨B + 1 + 1, 2, none⟩ = false ∧ Blk w5 (B + 1) 38 [.int .u32 0, .bool false, .int .i64 0]) := Lib.hid (fun w5 hk => by
    have h1 := hk.blk hr0 (by omega)
    have h2 := hk.blk ht0 (by omega)
    exact ⟨h1.cell 0 (by simp), h1.cell 1 (by simp), h1.cell 2 (by simp), h1.free 0, h1.free 1, h1.free 2, h2.cell 0 (by simp), h2.cell 1 (by simp), h2.cell 2 (by simp), h2.free 0, h2.free 1, h2.free 2, h1⟩)
  have x0 := hx0.cell 0 (by simp)
  have x1 := hx0.cell 1 (by simp)
  have x2 := hx0.cell 2 (by simp)
  have x3 := hx0.cell 3 (by simp)
  simp only [List.getElem_cons_zero, List.getElem_cons_succ] at x0 x1 x2 x3
  have hs0 : w0.heap.size = B + 3 := by rw [← hw0]; simp [hB]
  clear h hb0 hx0 hr0 ht0
  by_cases h0 : d = 0
  · have q0 : (d == 0) = true := by simpa using h0
    have HD : Hid (S.doS d b a y = S.useS b ∧ toldV (S.toldN d b) (S.toldB d b) (S.toldM d b) = toldV (S.addr b) (S.has b) 0) := Lib.hid (by subst h0; exact ⟨rfl, rfl⟩)
    rw [HD.out.1, HD.out.2]
    clear HD h0
    go_enter Tryz.func8, Tryz.ntmps8
    go_wp2_with fail
    refine (lcget_at b HM.out).mono ?_
    rintro r w5 h5
    have H5 := Lib.hid h5
    have hke : Kept (fun k => k < B) w0 w5 := h5.2.2.mono (fun k _ e => by have := HLT.out; have := HBE.out; unfold lcF at e; omega)
    obtain ⟨a0, a1, a2, f0, f1, f2, b0, b1, b2, g0, g1, g2, hr5⟩ := HS.out w5 hke
    have HR5 := Lib.hid hr5
    clear hr5
    obtain rfl := h5.1
    clear h5 hke HS
    obtain ⟨n1, hn1⟩ : ∃ n, S.addr b = n := ⟨_, rfl⟩
    obtain ⟨i1, hi1⟩ : ∃ n, S.has b = n := ⟨_, rfl⟩
    unfold LPeekV at H5 ⊢
    have HN1 := Lib.hid hn1
    have HI1 := Lib.hid hi1
    rw [hn1, hi1] at H5 ⊢
    
    have HB5 : Hid (Blk ((w5.setCell ⟨B + 1 + 1, 0, none⟩ (.int .u32 (n1 : Int))).setCell ⟨B + 1 + 1, 1, none⟩ (.bool i1)) (B + 1) 38 [.int .u32 0, .bool false, .int .i64 0]) := Lib.hid ((kept_put _ (B + 1 + 1) 1 (.bool i1)).blk ((kept_put _ (B + 1 + 1) 0 (.int .u32 (n1 : Int))).blk (HR5.out) (by omega)) (by omega))
    have d0 : (((w5.setCell ⟨B + 1 + 1, 0, none⟩ (.int .u32 (n1 : Int))).setCell ⟨B + 1 + 1, 1, none⟩ (.bool i1)).setCell ⟨B + 1, 0, none⟩ (.int .u32 (n1 : Int))).cell? ⟨B + 1, 0, none⟩ = some (.int .u32 (n1 : Int)) := (HB5.out.put 0 _).cell 0 (by simp)
    have d1 : ((((w5.setCell ⟨B + 1 + 1, 0, none⟩ (.int .u32 (n1 : Int))).setCell ⟨B + 1 + 1, 1, none⟩ (.bool i1)).setCell ⟨B + 1, 0, none⟩ (.int .u32 (n1 : Int))).setCell ⟨B + 1, 1, none⟩ (.bool i1)).cell? ⟨B + 1, 1, none⟩ = some (.bool i1) := ((HB5.out.put 0 _).put 1 _).cell 1 (by simp)
    have d2 : (((((w5.setCell ⟨B + 1 + 1, 0, none⟩ (.int .u32 (n1 : Int))).setCell ⟨B + 1 + 1, 1, none⟩ (.bool i1)).setCell ⟨B + 1, 0, none⟩ (.int .u32 (n1 : Int))).setCell ⟨B + 1, 1, none⟩ (.bool i1)).setCell ⟨B + 1, 2, none⟩ (.int .i64 0)).cell? ⟨B + 1, 2, none⟩ = some (.int .i64 0) := (((HB5.out.put 0 _).put 1 _).put 2 _).cell 2 (by simp)
    go_wp2_with fail
    refine bodyPost_ret (v := toldV n1 i1 0) (by simp [results, Tryz.results8, go_sem, d0, d1, d2]) rfl ?_
    try rw [HN1.out]
    try rw [HI1.out]
    try rw [HM1.out]
    try rw [HEB.out]
    refine H5.out.fin HB0.out HLT.out ?_
    have hBE := HBE.out
    repeat (first | exact Kept.refl _ _ | refine Kept.put ?_ (.inl (by show w.heap.size ≤ _; omega)) _ _ | exact HKB.out)
  · have q0 : (d == 0) = false := by simpa using h0
    by_cases h1 : d = 1
    · have q1 : (d == 1) = true := by simpa using h1
      have HD : Hid (S.doS d b a y = S.putS b a y ∧ toldV (S.toldN d b) (S.toldB d b) (S.toldM d b) = toldV 0 (S.putB b) 0) := Lib.hid (by subst h1; exact ⟨rfl, rfl⟩)
      rw [HD.out.1, HD.out.2]
      clear HD h1
      go_enter Tryz.func8, Tryz.ntmps8
      go_wp2_with fail
      refine (lcput_at b a y HM.out).mono ?_
      rintro r w5 h5
      have H5 := Lib.hid h5
      have hke : Kept (fun k => k < B) w0 w5 := h5.2.2.mono (fun k _ e => by have := HLT.out; have := HBE.out; unfold lcF at e; omega)
      obtain ⟨a0, a1, a2, f0, f1, f2, b0, b1, b2, g0, g1, g2, hr5⟩ := HS.out w5 hke
      have HR5 := Lib.hid hr5
      clear hr5
      obtain rfl := h5.1
      clear h5 hke HS
      obtain ⟨i1, hi1⟩ : ∃ n, S.putB b = n := ⟨_, rfl⟩
      have HI1 := Lib.hid hi1
      rw [hi1] at H5 ⊢
      have HB5 : Hid (Blk (w5.setCell ⟨B + 1 + 1, 1, none⟩ (.bool i1)) (B + 1) 38 [.int .u32 0, .bool false, .int .i64 0]) := Lib.hid ((kept_put _ (B + 1 + 1) 1 (.bool i1)).blk (HR5.out) (by omega))
      have d0 : ((w5.setCell ⟨B + 1 + 1, 1, none⟩ (.bool i1)).setCell ⟨B + 1, 0, none⟩ (.int .u32 0)).cell? ⟨B + 1, 0, none⟩ = some (.int .u32 0) := (HB5.out.put 0 _).cell 0 (by simp)
      have d1 : (((w5.setCell ⟨B + 1 + 1, 1, none⟩ (.bool i1)).setCell ⟨B + 1, 0, none⟩ (.int .u32 0)).setCell ⟨B + 1, 1, none⟩ (.bool i1)).cell? ⟨B + 1, 1, none⟩ = some (.bool i1) := ((HB5.out.put 0 _).put 1 _).cell 1 (by simp)
      have d2 : ((((w5.setCell ⟨B + 1 + 1, 1, none⟩ (.bool i1)).setCell ⟨B + 1, 0, none⟩ (.int .u32 0)).setCell ⟨B + 1, 1, none⟩ (.bool i1)).setCell ⟨B + 1, 2, none⟩ (.int .i64 0)).cell? ⟨B + 1, 2, none⟩ = some (.int .i64 0) := (((HB5.out.put 0 _).put 1 _).put 2 _).cell 2 (by simp)
      go_wp2_with fail
      refine bodyPost_ret (v := toldV 0 i1 0) (by simp [results, Tryz.results8, go_sem, d0, d1, d2]) rfl ?_
      try rw [HN1.out]
      try rw [HI1.out]
      try rw [HM1.out]
      try rw [HEB.out]
      refine H5.out.fin HB0.out HLT.out ?_
      have hBE := HBE.out
      repeat (first | exact Kept.refl _ _ | refine Kept.put ?_ (.inl (by show w.heap.size ≤ _; omega)) _ _ | exact HKB.out)
    · have q1 : (d == 1) = false := by simpa using h1
      by_cases h2 : d = 2
      · have q2 : (d == 2) = true := by simpa using h2
        have HD : Hid (S.doS d b a y = S.moveS b a ∧ toldV (S.toldN d b) (S.toldB d b) (S.toldM d b) = toldV 0 (S.has b) 0) := Lib.hid (by subst h2; exact ⟨rfl, rfl⟩)
        rw [HD.out.1, HD.out.2]
        clear HD h2
        go_enter Tryz.func8, Tryz.ntmps8
        go_wp2_with fail
        refine (lcmove_at b a HM.out).mono ?_
        rintro r w5 h5
        have H5 := Lib.hid h5
        have hke : Kept (fun k => k < B) w0 w5 := h5.2.2.mono (fun k _ e => by have := HLT.out; have := HBE.out; unfold lcF at e; omega)
        obtain ⟨a0, a1, a2, f0, f1, f2, b0, b1, b2, g0, g1, g2, hr5⟩ := HS.out w5 hke
        have HR5 := Lib.hid hr5
        clear hr5
        obtain rfl := h5.1
        clear h5 hke HS
        obtain ⟨i1, hi1⟩ : ∃ n, S.has b = n := ⟨_, rfl⟩
        have HI1 := Lib.hid hi1
        rw [hi1] at H5 ⊢
        have HB5 : Hid (Blk (w5.setCell ⟨B + 1 + 1, 1, none⟩ (.bool i1)) (B + 1) 38 [.int .u32 0, .bool false, .int .i64 0]) := Lib.hid ((kept_put _ (B + 1 + 1) 1 (.bool i1)).blk (HR5.out) (by omega))
        have d0 : ((w5.setCell ⟨B + 1 + 1, 1, none⟩ (.bool i1)).setCell ⟨B + 1, 0, none⟩ (.int .u32 0)).cell? ⟨B + 1, 0, none⟩ = some (.int .u32 0) := (HB5.out.put 0 _).cell 0 (by simp)
        have d1 : (((w5.setCell ⟨B + 1 + 1, 1, none⟩ (.bool i1)).setCell ⟨B + 1, 0, none⟩ (.int .u32 0)).setCell ⟨B + 1, 1, none⟩ (.bool i1)).cell? ⟨B + 1, 1, none⟩ = some (.bool i1) := ((HB5.out.put 0 _).put 1 _).cell 1 (by simp)
        have d2 : ((((w5.setCell ⟨B + 1 + 1, 1, none⟩ (.bool i1)).setCell ⟨B + 1, 0, none⟩ (.int .u32 0)).setCell ⟨B + 1, 1, none⟩ (.bool i1)).setCell ⟨B + 1, 2, none⟩ (.int .i64 0)).cell? ⟨B + 1, 2, none⟩ = some (.int .i64 0) := (((HB5.out.put 0 _).put 1 _).put 2 _).cell 2 (by simp)
        go_wp2_with fail
        refine bodyPost_ret (v := toldV 0 i1 0) (by simp [results, Tryz.results8, go_sem, d0, d1, d2]) rfl ?_
        try rw [HN1.out]
        try rw [HI1.out]
        try rw [HM1.out]
        try rw [HEB.out]
        refine H5.out.fin HB0.out HLT.out ?_
        have hBE := HBE.out
        repeat (first | exact Kept.refl _ _ | refine Kept.put ?_ (.inl (by show w.heap.size ≤ _; omega)) _ _ | exact HKB.out)
      · have q2 : (d == 2) = false := by simpa using h2
        by_cases h3 : d = 3
        · have q3 : (d == 3) = true := by simpa using h3
          have HD : Hid (S.doS d b a y = S.dropS b ∧ toldV (S.toldN d b) (S.toldB d b) (S.toldM d b) = toldV 0 (S.has b) 0) := Lib.hid (by subst h3; exact ⟨rfl, rfl⟩)
          rw [HD.out.1, HD.out.2]
          clear HD h3
          go_enter Tryz.func8, Tryz.ntmps8
          go_wp2_with fail
          refine (lcdrop_at b HM.out).mono ?_
          rintro r w5 h5
          have H5 := Lib.hid h5
          have hke : Kept (fun k => k < B) w0 w5 := h5.2.2.mono (fun k _ e => by have := HLT.out; have := HBE.out; unfold lcF at e; omega)
          obtain ⟨a0, a1, a2, f0, f1, f2, b0, b1, b2, g0, g1, g2, hr5⟩ := HS.out w5 hke
          have HR5 := Lib.hid hr5
          clear hr5
          obtain rfl := h5.1
          clear h5 hke HS
          obtain ⟨i1, hi1⟩ : ∃ n, S.has b = n := ⟨_, rfl⟩
          have HI1 := Lib.hid hi1
          rw [hi1] at H5 ⊢
          have HB5 : Hid (Blk (w5.setCell ⟨B + 1 + 1, 1, none⟩ (.bool i1)) (B + 1) 38 [.int .u32 0, .bool false, .int .i64 0]) := Lib.hid ((kept_put _ (B + 1 + 1) 1 (.bool i1)).blk (HR5.out) (by omega))
          have d0 : ((w5.setCell ⟨B + 1 + 1, 1, none⟩ (.bool i1)).setCell ⟨B + 1, 0, none⟩ (.int .u32 0)).cell? ⟨B + 1, 0, none⟩ = some (.int .u32 0) := (HB5.out.put 0 _).cell 0 (by simp)
          have d1 : (((w5.setCell ⟨B + 1 + 1, 1, none⟩ (.bool i1)).setCell ⟨B + 1, 0, none⟩ (.int .u32 0)).setCell ⟨B + 1, 1, none⟩ (.bool i1)).cell? ⟨B + 1, 1, none⟩ = some (.bool i1) := ((HB5.out.put 0 _).put 1 _).cell 1 (by simp)
          have d2 : ((((w5.setCell ⟨B + 1 + 1, 1, none⟩ (.bool i1)).setCell ⟨B + 1, 0, none⟩ (.int .u32 0)).setCell ⟨B + 1, 1, none⟩ (.bool i1)).setCell ⟨B + 1, 2, none⟩ (.int .i64 0)).cell? ⟨B + 1, 2, none⟩ = some (.int .i64 0) := (((HB5.out.put 0 _).put 1 _).put 2 _).cell 2 (by simp)
          go_wp2_with fail
          refine bodyPost_ret (v := toldV 0 i1 0) (by simp [results, Tryz.results8, go_sem, d0, d1, d2]) rfl ?_
          try rw [HN1.out]
          try rw [HI1.out]
          try rw [HM1.out]
          try rw [HEB.out]
          refine H5.out.fin HB0.out HLT.out ?_
          have hBE := HBE.out
          repeat (first | exact Kept.refl _ _ | refine Kept.put ?_ (.inl (by show w.heap.size ≤ _; omega)) _ _ | exact HKB.out)
        · have q3 : (d == 3) = false := by simpa using h3
          by_cases h4 : d = 4
          · have q4 : (d == 4) = true := by simpa using h4
            have HD : Hid (S.doS d b a y = S.cleanS b ∧ toldV (S.toldN d b) (S.toldB d b) (S.toldM d b) = toldV 0 false (S.dirtyL b).length) := Lib.hid (by subst h4; exact ⟨rfl, rfl⟩)
            rw [HD.out.1, HD.out.2]
            clear HD h4
            go_enter Tryz.func8, Tryz.ntmps8
            go_wp2_with fail
            refine (lcclean_at b HM.out).mono ?_
            rintro r w5 h5
            have H5 := Lib.hid h5
            have hke : Kept (fun k => k < B) w0 w5 := h5.2.2.mono (fun k _ e => by have := HLT.out; have := HBE.out; unfold lcF at e; omega)
            obtain ⟨a0, a1, a2, f0, f1, f2, b0, b1, b2, g0, g1, g2, hr5⟩ := HS.out w5 hke
            have HR5 := Lib.hid hr5
            clear hr5
            obtain rfl := h5.1
            clear h5 hke HS
            obtain ⟨m1, hm1⟩ : ∃ n, (S.dirtyL b).length = n := ⟨_, rfl⟩
            have HM1 := Lib.hid hm1
            rw [hm1] at H5 ⊢
            have HB5 : Hid (Blk (w5.setCell ⟨B + 1 + 1, 2, none⟩ (.int .i64 (m1 : Int))) (B + 1) 38 [.int .u32 0, .bool false, .int .i64 0]) := Lib.hid ((kept_put _ (B + 1 + 1) 2 (.int .i64 (m1 : Int))).blk (HR5.out) (by omega))
            have d0 : ((w5.setCell ⟨B + 1 + 1, 2, none⟩ (.int .i64 (m1 : Int))).setCell ⟨B + 1, 0, none⟩ (.int .u32 0)).cell? ⟨B + 1, 0, none⟩ = some (.int .u32 0) := (HB5.out.put 0 _).cell 0 (by simp)
            have d1 : (((w5.setCell ⟨B + 1 + 1, 2, none⟩ (.int .i64 (m1 : Int))).setCell ⟨B + 1, 0, none⟩ (.int .u32 0)).setCell ⟨B + 1, 1, none⟩ (.bool false)).cell? ⟨B + 1, 1, none⟩ = some (.bool false) := ((HB5.out.put 0 _).put 1 _).cell 1 (by simp)
            have d2 : ((((w5.setCell ⟨B + 1 + 1, 2, none⟩ (.int .i64 (m1 : Int))).setCell ⟨B + 1, 0, none⟩ (.int .u32 0)).setCell ⟨B + 1, 1, none⟩ (.bool false)).setCell ⟨B + 1, 2, none⟩ (.int .i64 (m1 : Int))).cell? ⟨B + 1, 2, none⟩ = some (.int .i64 (m1 : Int)) := (((HB5.out.put 0 _).put 1 _).put 2 _).cell 2 (by simp)
            go_wp2_with fail
            refine bodyPost_ret (v := toldV 0 false m1) (by simp [results, Tryz.results8, go_sem, d0, d1, d2]) rfl ?_
            try rw [HN1.out]
            try rw [HI1.out]
            try rw [HM1.out]
            try rw [HEB.out]
            refine H5.out.fin HB0.out HLT.out ?_
            have hBE := HBE.out
            repeat (first | exact Kept.refl _ _ | refine Kept.put ?_ (.inl (by show w.heap.size ≤ _; omega)) _ _ | exact HKB.out)
          · have q4 : (d == 4) = false := by simpa using h4
            by_cases h5 : d = 5
            · have q5 : (d == 5) = true := by simpa using h5
              have HD : Hid (S.doS d b a y = S.vicD ∧ toldV (S.toldN d b) (S.toldB d b) (S.toldM d b) = toldV 0 S.vicE.isSome 0) := Lib.hid (by subst h5; exact ⟨rfl, rfl⟩)
              rw [HD.out.1, HD.out.2]
              clear HD h5 h4 h3 h2 h1 h0
              cases hv : S.vicE with
              | none =>
                have HVD : Hid (S.vicD = S) := Lib.hid (by unfold CaS.vicD; rw [hv])
                rw [HVD.out]
                have HVC := Lib.hid (lcvictim_at HM.out)
                unfold LVicIs at HVC
                rw [show S.vicE.isSome = false by rw [hv]; rfl] at HVC
                have HVN := Lib.hid hv
                clear hv HVD
                go_enter Tryz.func8, Tryz.ntmps8
                go_wp2_with fail
                refine HVC.out.mono ?_
                rintro r w5 h5
                obtain ⟨rfl, hb5⟩ := h5
                have H5 := Lib.hid (show LcTo cb kb ib eb (.bool false) S w0 (.returned (.bool false)) w5 from ⟨rfl, ⟨σ, HM.out.up hb5⟩, Kept.of_below hb5⟩)
                have hke : Kept (fun k => k < B) w0 w5 := Kept.of_below hb5
                have hb5b : Below w5.heap.size w5 (w5.alloc (.cells #[.int .i64 0, .int .u32 0, .bool false] 56)) := (Below.refl _ _).alloc (Nat.le_refl _) _
                have HKB : Hid (Kept (fun k => w.heap.size ≤ k) w5 (w5.alloc (.cells #[.int .i64 0, .int .u32 0, .bool false] 56))) := Lib.hid (Kept.of_below hb5b)
                obtain ⟨a0, a1, a2, f0, f1, f2, b0, b1, b2, g0, g1, g2, hr5⟩ := HS.out _ (hke.and (Kept.of_below hb5b))
                have HR5 := Lib.hid hr5
                rw [show vicF S = ⟨0, 0, false⟩ by unfold vicF; rw [HVN.out]; rfl]
                unfold ceV
                clear hb5 hke HS HVC hb5b hr5
                have HB5 : Hid (Blk (w5.alloc (.cells #[.int .i64 0, .int .u32 0, .bool false] 56)) (B + 1) 38 [.int .u32 0, .bool false, .int .i64 0]) := Lib.hid (HR5.out)
                have d0 : ((w5.alloc (.cells #[.int .i64 0, .int .u32 0, .bool false] 56)).setCell ⟨B + 1, 0, none⟩ (.int .u32 0)).cell? ⟨B + 1, 0, none⟩ = some (.int .u32 0) := (HB5.out.put 0 _).cell 0 (by simp)
                have d1 : (((w5.alloc (.cells #[.int .i64 0, .int .u32 0, .bool false] 56)).setCell ⟨B + 1, 0, none⟩ (.int .u32 0)).setCell ⟨B + 1, 1, none⟩ (.bool false)).cell? ⟨B + 1, 1, none⟩ = some (.bool false) := ((HB5.out.put 0 _).put 1 _).cell 1 (by simp)
                have d2 : ((((w5.alloc (.cells #[.int .i64 0, .int .u32 0, .bool false] 56)).setCell ⟨B + 1, 0, none⟩ (.int .u32 0)).setCell ⟨B + 1, 1, none⟩ (.bool false)).setCell ⟨B + 1, 2, none⟩ (.int .i64 0)).cell? ⟨B + 1, 2, none⟩ = some (.int .i64 0) := (((HB5.out.put 0 _).put 1 _).put 2 _).cell 2 (by simp)
                go_wp2_with fail
                refine bodyPost_ret (v := toldV 0 false 0) (by simp [results, Tryz.results8, go_sem, d0, d1, d2]) rfl ?_
                try rw [HN1.out]
                try rw [HI1.out]
                try rw [HM1.out]
                try rw [HEB.out]
                refine H5.out.fin HB0.out HLT.out ?_
                have hBE := HBE.out
                repeat (first | exact Kept.refl _ _ | refine Kept.put ?_ (.inl (by show w.heap.size ≤ _; omega)) _ _ | exact HKB.out)
              | some e =>
                have HVD : Hid (S.vicD = S.dropS (e.b : Int) ∧ S.has (e.b : Int) = true) := Lib.hid ⟨by unfold CaS.vicD; rw [hv], (CaS.vicE_mem hv).2.2⟩
                rw [HVD.out.1]
                have HVC := Lib.hid (lcvictim_at HM.out)
                unfold LVicIs at HVC
                rw [show S.vicE.isSome = true by rw [hv]; rfl] at HVC
                have HVE : Hid (vicF S = e) := Lib.hid (by unfold vicF; rw [hv]; rfl)
                clear hv
                go_enter Tryz.func8, Tryz.ntmps8
                go_wp2_with fail
                refine HVC.out.mono ?_
                rintro r w4 h4
                obtain ⟨rfl, hb4⟩ := h4
                rw [HVE.out]
                unfold ceV
                obtain ⟨eb', heb⟩ : ∃ z, e.b = z := ⟨_, rfl⟩
                obtain ⟨ea', hea⟩ : ∃ z, e.a = z := ⟨_, rfl⟩
                obtain ⟨ed', hed⟩ : ∃ z, e.d = z := ⟨_, rfl⟩
                obtain ⟨w4b, hw4b⟩ : ∃ u, w4.alloc (.cells #[.int .i64 (eb' : Int), .int .u32 (ea' : Int), .bool ed'] 56) = u := ⟨_, rfl⟩
                have hb4b : Below w4.heap.size w4 w4b := by rw [← hw4b]; exact (Below.refl _ _).alloc (Nat.le_refl _) _
                have hq4 : w4b.cell? ⟨w4.heap.size, 0, none⟩ = some (.int .i64 (eb' : Int)) := by
                  rw [← hw4b]
                  exact Blk.cell (T := 56) (cs := [.int .i64 (eb' : Int), .int .u32 (ea' : Int), .bool ed']) (heap_alloc_new w4 _) 0 (by simp)
                have hb04 := below_all hb4 hb4b
                have HB04 := Lib.hid hb04
                have HEB := Lib.hid heb
                have HDR := Lib.hid (lcdrop_at (e.b : Int) (HM.out.up hb04))
                rw [heb] at HVD HDR ⊢
                rw [hea, hed]
                rw [HVD.out.2] at HDR
                clear heb hea hed hb4 hb4b hb04 HVC HVE HVD
                go_wp2_with fail
                refine HDR.out.mono ?_
                rintro r w5 h5
                have H5 := Lib.hid h5
                have hke : Kept (fun k => k < B) w0 w5 := (Kept.of_below HB04.out).and (h5.2.2.mono (fun k _ e => by have := HLT.out; have := HBE.out; unfold lcF at e; omega))
                obtain ⟨a0, a1, a2, f0, f1, f2, b0, b1, b2, g0, g1, g2, hr5⟩ := HS.out w5 hke
                have HR5 := Lib.hid hr5
                obtain rfl := h5.1
                clear h5 hke HS HDR hr5
                have HB5 : Hid (Blk (w5.setCell ⟨B + 1 + 1, 1, none⟩ (.bool true)) (B + 1) 38 [.int .u32 0, .bool false, .int .i64 0]) := Lib.hid ((kept_put _ (B + 1 + 1) 1 (.bool true)).blk (HR5.out) (by omega))
                have d0 : ((w5.setCell ⟨B + 1 + 1, 1, none⟩ (.bool true)).setCell ⟨B + 1, 0, none⟩ (.int .u32 0)).cell? ⟨B + 1, 0, none⟩ = some (.int .u32 0) := (HB5.out.put 0 _).cell 0 (by simp)
                have d1 : (((w5.setCell ⟨B + 1 + 1, 1, none⟩ (.bool true)).setCell ⟨B + 1, 0, none⟩ (.int .u32 0)).setCell ⟨B + 1, 1, none⟩ (.bool true)).cell? ⟨B + 1, 1, none⟩ = some (.bool true) := ((HB5.out.put 0 _).put 1 _).cell 1 (by simp)
                have d2 : ((((w5.setCell ⟨B + 1 + 1, 1, none⟩ (.bool true)).setCell ⟨B + 1, 0, none⟩ (.int .u32 0)).setCell ⟨B + 1, 1, none⟩ (.bool true)).setCell ⟨B + 1, 2, none⟩ (.int .i64 0)).cell? ⟨B + 1, 2, none⟩ = some (.int .i64 0) := (((HB5.out.put 0 _).put 1 _).put 2 _).cell 2 (by simp)
                go_wp2_with fail
                refine bodyPost_ret (v := toldV 0 true 0) (by simp [results, Tryz.results8, go_sem, d0, d1, d2]) rfl ?_
                try rw [HN1.out]
                try rw [HI1.out]
                try rw [HM1.out]
                try rw [HEB.out]
                refine H5.out.fin (below_all HB0.out HB04.out) HLT.out ?_
                have hBE := HBE.out
                repeat (first | exact Kept.refl _ _ | refine Kept.put ?_ (.inl (by show w.heap.size ≤ _; omega)) _ _ | exact HKB.out)
            · have q5 : (d == 5) = false := by simpa using h5
              have HD : Hid (S.doS d b a y = S ∧ toldV (S.toldN d b) (S.toldB d b) (S.toldM d b) = toldV (S.addr b) (S.has b) 0) := Lib.hid (by
                have hr : ¬ (1 ≤ d ∧ d ≤ 5) := by omega
                unfold CaS.doS CaS.toldN CaS.toldB CaS.toldM
                rw [if_neg h0, if_neg h1, if_neg h2, if_neg h3, if_neg h4, if_neg h5, if_neg hr, if_neg h1, if_neg h4, if_neg h5, if_neg h4]
                exact ⟨rfl, rfl⟩)
              rw [HD.out.1, HD.out.2]
              have HPC := Lib.hid (lcpeek_at b HM.out)
              clear HD h5 h4 h3 h2 h1 h0
              obtain ⟨n1, hn1⟩ : ∃ n, S.addr b = n := ⟨_, rfl⟩
              obtain ⟨i1, hi1⟩ : ∃ n, S.has b = n := ⟨_, rfl⟩
              unfold LPeekIs LPeekV at HPC
              rw [hn1, hi1] at HPC ⊢
              clear hn1 hi1
              go_enter Tryz.func8, Tryz.ntmps8
              go_wp2_with fail
              refine HPC.out.mono ?_
              rintro r w5 h5
              obtain ⟨rfl, hb5⟩ := h5
              have H5 := Lib.hid (show LcTo cb kb ib eb (.bool false) S w0 (.returned (.bool false)) w5 from ⟨rfl, ⟨σ, HM.out.up hb5⟩, Kept.of_below hb5⟩)
              have hke : Kept (fun k => k < B) w0 w5 := Kept.of_below hb5
              obtain ⟨a0, a1, a2, f0, f1, f2, b0, b1, b2, g0, g1, g2, hr5⟩ := HS.out w5 hke
              have HR5 := Lib.hid hr5
              clear hb5 hke HS HPC hr5
              have HB5 : Hid (Blk ((w5.setCell ⟨B + 1 + 1, 0, none⟩ (.int .u32 (n1 : Int))).setCell ⟨B + 1 + 1, 1, none⟩ (.bool i1)) (B + 1) 38 [.int .u32 0, .bool false, .int .i64 0]) := Lib.hid ((kept_put _ (B + 1 + 1) 1 (.bool i1)).blk ((kept_put _ (B + 1 + 1) 0 (.int .u32 (n1 : Int))).blk (HR5.out) (by omega)) (by omega))
              have d0 : (((w5.setCell ⟨B + 1 + 1, 0, none⟩ (.int .u32 (n1 : Int))).setCell ⟨B + 1 + 1, 1, none⟩ (.bool i1)).setCell ⟨B + 1, 0, none⟩ (.int .u32 (n1 : Int))).cell? ⟨B + 1, 0, none⟩ = some (.int .u32 (n1 : Int)) := (HB5.out.put 0 _).cell 0 (by simp)
              have d1 : ((((w5.setCell ⟨B + 1 + 1, 0, none⟩ (.int .u32 (n1 : Int))).setCell ⟨B + 1 + 1, 1, none⟩ (.bool i1)).setCell ⟨B + 1, 0, none⟩ (.int .u32 (n1 : Int))).setCell ⟨B + 1, 1, none⟩ (.bool i1)).cell? ⟨B + 1, 1, none⟩ = some (.bool i1) := ((HB5.out.put 0 _).put 1 _).cell 1 (by simp)
              have d2 : (((((w5.setCell ⟨B + 1 + 1, 0, none⟩ (.int .u32 (n1 : Int))).setCell ⟨B + 1 + 1, 1, none⟩ (.bool i1)).setCell ⟨B + 1, 0, none⟩ (.int .u32 (n1 : Int))).setCell ⟨B + 1, 1, none⟩ (.bool i1)).setCell ⟨B + 1, 2, none⟩ (.int .i64 0)).cell? ⟨B + 1, 2, none⟩ = some (.int .i64 0) := (((HB5.out.put 0 _).put 1 _).put 2 _).cell 2 (by simp)
              go_wp2_with fail
              refine bodyPost_ret (v := toldV n1 i1 0) (by simp [results, Tryz.results8, go_sem, d0, d1, d2]) rfl ?_
              try rw [HN1.out]
              try rw [HI1.out]
              try rw [HM1.out]
              try rw [HEB.out]
              refine H5.out.fin HB0.out HLT.out ?_
              have hBE := HBE.out
              repeat (first | exact Kept.refl _ _ | refine Kept.put ?_ (.inl (by show w.heap.size ≤ _; omega)) _ _ | exact HKB.out)
end
end Go.Proofs.YtajccmkdfmpapaaGreatDoor

/-
  What lies outside a device while it is changed; the law's awake: fixed calls of the landed slots.
-/
import Derived.Test.YthmpimjmajoimaaGreatDoorSw23
import Derived.Test.YthmpimjmajoimaaGreatDoorSw32
namespace Go.Proofs.YthmpimjmajoimaaGreatDoor
open Go.RowKit

theorem wbelow {a b c : World} (h : Below a.heap.size a b) (k : Below b.heap.size b c) : Below a.heap.size a c := h.trans (k.mono h.size)
/-- G lies outside of F, and is there. -/
def Out (F : Nat → Prop) (w : World) (G : Nat → Prop) : Prop := ∀ k, G k → k < w.heap.size ∧ ¬ F k
theorem Out.up {F G : Nat → Prop} {w w' : World} (h : Out F w G) (hb : w.heap.size ≤ w'.heap.size) : Out F w' G := fun k hk => ⟨Nat.lt_of_lt_of_le (h k hk).1 hb, (h k hk).2⟩
theorem Out.done {F F' G : Nat → Prop} {w w' : World} (h : Out F w G) (hk : w.heap.size ≤ w'.heap.size) (hf : ∀ k, F' k → grow F w w' k) : Out F' w' G := fun k hg => ⟨Nat.lt_of_lt_of_le (h k hg).1 hk, fun e => by
  rcases hf k e with e | e
  · exact (h k hg).2 e
  · have := (h k hg).1
    omega⟩
theorem Out.new {Z : ZBas} {F : Nat → Prop} {w w' : World} {db : Nat} {S : DevS} (h : Z.D F w db S) : Out F w' (newB w w') := fun k hk => ⟨hk.2, fun e => by have := Z.lt h k e; have := hk.1; omega⟩
/-- A block that is a checkpoint. -/
def BoxC (G : Nat → Prop) (w : World) (b : Nat) (c : ChkS) (sv : Value) : Prop := Blk w b 40 (ckC c sv) ∧ RowF G w sv (u32s c.dir) ∧ G b
theorem BoxC.keep {F G : Nat → Prop} {w w' : World} {b : Nat} {c : ChkS} {sv : Value} (h : BoxC G w b c sv) (hk : Kept F w w') (ho : Out F w G) : BoxC G w' b c sv := ⟨hk.blk h.1 (ho b h.2.2).2, h.2.1.keep hk (fun k hg => (ho k hg).2), h.2.2⟩
theorem BoxC.up {G : Nat → Prop} {w w' : World} {b : Nat} {c : ChkS} {sv : Value} (h : BoxC G w b c sv) (hb : Below w.heap.size w w') : BoxC G w' b c sv := ⟨h.1.up hb (lt_of_block h.1), h.2.1.up hb, h.2.2⟩
theorem BoxC.cells {G : Nat → Prop} {w : World} {b : Nat} {c : ChkS} {sv : Value} (h : BoxC G w b c sv) : w.cell? ⟨b, 0, none⟩ = some (.int .u32 c.nu) ∧ w.cell? ⟨b, 1, none⟩ = some (.int .u32 c.se) ∧ w.cell? ⟨b, 2, none⟩ = some (.int .u32 c.sq) ∧ w.cell? ⟨b, 3, none⟩ = some (.int .i64 c.z) ∧ w.cell? ⟨b, 4, none⟩ = some (.int .i64 c.p) ∧ w.cell? ⟨b, 5, none⟩ = some (.int .i64 c.b) ∧ w.cell? ⟨b, 6, none⟩ = some sv :=
  ⟨h.1.cell 0 (by simp [ckC]), h.1.cell 1 (by simp [ckC]), h.1.cell 2 (by simp [ckC]), h.1.cell 3 (by simp [ckC]), h.1.cell 4 (by simp [ckC]), h.1.cell 5 (by simp [ckC]), h.1.cell 6 (by simp [ckC])⟩
/-- What is told, in a block that is made behind it. -/
theorem BoxC.told {w w' w2 : World} {c : ChkS} {sv : Value} (h : RowF (newB w w') w' sv (u32s c.dir)) (hw : w'.alloc (.cells #[.int .u32 c.nu, .int .u32 c.se, .int .u32 c.sq, .int .i64 c.z, .int .i64 c.p, .int .i64 c.b, sv] 40) = w2) (hs : w.heap.size ≤ w'.heap.size) : BoxC (newB w w2) w2 w'.heap.size c sv ∧ Below w'.heap.size w' w2 := by
  have hb : Below w'.heap.size w' w2 := by rw [← hw]; exact (Below.refl _ _).alloc (Nat.le_refl _) _
  have hz : w2.heap.size = w'.heap.size + 1 := by rw [← hw]; simp
  refine ⟨⟨?_, (h.mono (fun k hk => ⟨hk.1, by have := hk.2; omega⟩)).up hb, ⟨hs, by omega⟩⟩, hb⟩
  rw [← hw]
  exact heap_alloc_new w' _
/-- The device, and what lies outside of it: the checkpoint that is written. -/
structure SAw (Z : ZBas) (w0 w : World) (F : Nat → Prop) (db : Nat) (S : DevS) (cb sb : Nat) (nu : Int) : Prop where
  d : Z.D F w db S
  c : BoxC (fun k => k = cb ∨ k = sb) w cb (awC nu) (.slice (some ⟨sb, 0, none⟩) 2 2)
  o : Out F w (fun k => k = cb ∨ k = sb)
  lo : ∀ k, F k → w0.heap.size ≤ k
  lc : w0.heap.size ≤ cb
  old : Below w0.heap.size w0 w
theorem SAw.up {Z : ZBas} {w0 w w' : World} {F : Nat → Prop} {db cb sb : Nat} {S : DevS} {nu : Int} (h : SAw Z w0 w F db S cb sb nu) (hb : Below w.heap.size w w') : SAw Z w0 w' F db S cb sb nu :=
  ⟨Z.up h.d hb, h.c.up hb, h.o.up hb.size, h.lo, h.lc, wbelow h.old hb⟩
theorem SAw.done {Z : ZBas} {w0 w w' : World} {F F' : Nat → Prop} {db cb sb : Nat} {S S' : DevS} {nu : Int} (h : SAw Z w0 w F db S cb sb nu) (hd : Z.D F' w' db S') (hk : Kept F w w') (hf : ∀ k, F' k → grow F w w' k) : SAw Z w0 w' F' db S' cb sb nu :=
  ⟨hd, h.c.keep hk h.o, h.o.done hk.size hf, fun k e => (hf k e).elim (h.lo k) (fun e => Nat.le_trans h.old.size e.1), h.lc, h.old.trans (hk.below h.old.size h.lo)⟩
theorem SAw.five {Z : ZBas} {w0 w : World} {F : Nat → Prop} {db cb sb : Nat} {S : DevS} (h : SAw Z w0 w F db S cb sb 4) : SAw Z w0 (w.setCell ⟨cb, 0, none⟩ (.int .u32 5)) F db S cb sb 5 ∧ Kept (fun k => k = cb) w (w.setCell ⟨cb, 0, none⟩ (.int .u32 5)) := by
  have hk : Kept (fun k => k = cb) w (w.setCell ⟨cb, 0, none⟩ (.int .u32 5)) := (Kept.refl (fun k => k = cb) w).put (.inl rfl) 0 _
  have hsz : (w.setCell ⟨cb, 0, none⟩ (.int .u32 5)).heap.size = w.heap.size := by simp [World.setCell]
  refine ⟨⟨Z.keep h.d hk (fun k hf e => (h.o cb (.inl rfl)).2 (e ▸ hf)), ⟨?_, ?_, .inl rfl⟩, fun k hk => ⟨by rw [hsz]; exact (h.o k hk).1, (h.o k hk).2⟩, h.lo, h.lc, h.old.trans (hk.below h.old.size (fun k e => by rw [e]; exact h.lc))⟩, hk⟩
  · have := h.c.1.put 0 (.int .u32 5)
    exact this
  · obtain ⟨A, c, e, h1, h2, h3, h4⟩ := h.c.2.1
    have e' := e
    injection e' with eA en ec
    by_cases hs : sb = cb
    · subst hs
      obtain ⟨b, o, eb, _, hc⟩ := h2 (by simp [awC, u32s])
      rw [← eA] at eb
      have eb := Option.some.inj eb
      injection eb with e1 e2
      subst e1 e2
      have h6 := hc 1 (by simp [awC, u32s])
      have h7 := h.c.cells.2.1
      rw [Nat.zero_add] at h6
      rw [h6] at h7
      simp [awC, u32s] at h7
    · have hr : RowF (fun k => k = sb) w (.slice (some ⟨sb, 0, none⟩) 2 2) (u32s (awC 4).dir) := ⟨A, c, e, h1, h2, fun hp => by rw [← eA]; exact InF.one rfl, h4⟩
      exact (hr.keep hk (fun k e1 e2 => hs (e1.symm.trans e2))).mono (fun k e => .inr e)
/-- What is kept beside the device lies outside of it, from B on. -/
def Far (F : Nat → Prop) (w : World) (B : Nat) (G : Nat → Prop) : Prop := Out F w G ∧ ∀ k, G k → B ≤ k
theorem Far.up {F G : Nat → Prop} {w w' : World} {B : Nat} (h : Far F w B G) (hb : w.heap.size ≤ w'.heap.size) : Far F w' B G := ⟨h.1.up hb, h.2⟩
theorem Far.done {F F' G : Nat → Prop} {w w' : World} {B : Nat} (h : Far F w B G) (hk : w.heap.size ≤ w'.heap.size) (hf : ∀ k, F' k → grow F w w' k) : Far F' w' B G := ⟨h.1.done hk hf, h.2⟩
theorem BoxC.keepF {F G : Nat → Prop} {w w' : World} {b : Nat} {c : ChkS} {sv : Value} (h : BoxC G w b c sv) (hk : Kept F w w') (ho : ∀ k, G k → ¬ F k) : BoxC G w' b c sv := ⟨hk.blk h.1 (ho b h.2.2), h.2.1.keep hk ho, h.2.2⟩
theorem Far.new {Z : ZBas} {F : Nat → Prop} {w w' : World} {db B : Nat} {S : DevS} (h : Z.D F w db S) (hB : B ≤ w.heap.size) : Far F w' B (newB w w') := ⟨Out.new h, fun _ hk => Nat.le_trans hB hk.1⟩
theorem Far.of {Z : ZBas} {F F' G : Nat → Prop} {w w' : World} {db B : Nat} {S : DevS} (_h : Z.D F w db S) (hB : B ≤ w.heap.size) (hg : ∀ k, G k → newB w w' k ∧ ¬ F' k) : Far F' w' B G := ⟨fun k hk => ⟨(hg k hk).1.2, (hg k hk).2⟩, fun k hk => Nat.le_trans hB (hg k hk).1.1⟩
set_option maxHeartbeats 16000000 in
set_option maxRecDepth 100000 in
theorem sawake_true {Z : ZBas} {X : EOps} (O : SlOps Z X) {w0 : World} (hg : Gl w0) : Calls Tryz.prog 7 #[] w0 (BoolB true w0) := by
  have HG := Lib.hid hg
  clear hg
  go_enter Tryz.func7, Tryz.ntmps7
  go_wp2_with fail
  refine (Z.new 11 4).mono ?_
  rw [show newD 11 4 = some (DevS.new 11 4) from rfl]
  rintro r w1 ⟨db, rfl, hd, hb⟩
  obtain ⟨w2, hw2⟩ : ∃ u, w1.alloc (.cells #[.int .u32 4, .int .u32 0] 35) = u := ⟨_, rfl⟩
  obtain ⟨w3, hw3⟩ : ∃ u, w2.alloc (.cells #[.int .u32 4, .int .u32 2, .int .u32 3, .int .i64 11, .int .i64 4, .int .i64 6, .slice (some ⟨w1.heap.size, 0, none⟩) 2 2] 40) = u := ⟨_, rfl⟩
  have H3 : Hid (SAw Z w0 w3 (newB w0 w1) db (DevS.new 11 4) w2.heap.size w1.heap.size 4 ∧ w2.heap.size < w3.heap.size) := Lib.hid (by
    have hb2 : Below w1.heap.size w1 w2 := by rw [← hw2]; exact (Below.refl _ _).alloc (Nat.le_refl _) _
    have hb3 : Below w2.heap.size w2 w3 := by rw [← hw3]; exact (Below.refl _ _).alloc (Nat.le_refl _) _
    have z2 : w2.heap.size = w1.heap.size + 1 := by rw [← hw2]; simp
    have z3 : w3.heap.size = w2.heap.size + 1 := by rw [← hw3]; simp
    have hs : Blk w2 w1.heap.size 35 (u32s [4, 0]) := by rw [← hw2]; exact heap_alloc_new w1 _
    have hr : RowF (fun k => k = w2.heap.size ∨ k = w1.heap.size) w2 (.slice (some ⟨w1.heap.size, 0, none⟩) 2 2) (u32s [4, 0]) :=
      ⟨_, _, rfl, by decide, fun _ => ⟨w1.heap.size, 0, rfl, by omega, fun i hi => by rw [Nat.zero_add]; exact hs.cell i hi⟩, (InF.one (.inr rfl)).n, fun e => by cases e⟩
    refine ⟨⟨Z.up hd (wbelow hb2 hb3), ⟨by rw [← hw3]; exact heap_alloc_new w2 _, hr.up hb3, .inl rfl⟩, fun k hk => ?_, fun k hk => hk.1, by have := hb.size; omega, wbelow hb (wbelow hb2 hb3)⟩, by omega⟩
    rcases hk with rfl | rfl
    · exact ⟨by omega, fun e => by have := e.2; omega⟩
    · exact ⟨by omega, fun e => by have := e.2; omega⟩)
  obtain ⟨cb, hcb⟩ : ∃ x, w2.heap.size = x := ⟨_, rfl⟩
  obtain ⟨sb, hsb⟩ : ∃ x, w1.heap.size = x := ⟨_, rfl⟩
  have HCB : Hid (cb < w3.heap.size) := Lib.hid (by rw [← hcb]; exact H3.out.2)
  have HSZ : Hid (w3.heap.size ≤ w3.heap.size) := Lib.hid (Nat.le_refl _)
  have HS := Lib.hid H3.out.1
  rw [hcb, hsb] at HS
  rw [hsb] at hw3
  clear hd hb H3
  go_wp2_with fail
  clear hw2 hw3 hsb hcb
  refine (O.newest HS.out.d).mono ?_
  rw [aw_new.1, aw_new.2]
  rintro r w4 ⟨sw4, vw4, rfl, hr, he, hb⟩
  obtain ⟨Aw4, cw4, rfl, _, _⟩ := hr.numR
  obtain ⟨nw4, hnw4⟩ : ∃ x, ChkS.zero.dir.length = x := ⟨_, rfl⟩
  rw [hnw4] at hr
  obtain ⟨Tw4, xw4, rfl⟩ := X.some he (by decide)
  obtain ⟨w5, hw5⟩ : ∃ u, w4.alloc (.cells #[.int .u32 ChkS.zero.nu, .int .u32 ChkS.zero.se, .int .u32 ChkS.zero.sq, .int .i64 ChkS.zero.z, .int .i64 ChkS.zero.p, .int .i64 ChkS.zero.b, .slice Aw4 nw4 cw4] 40) = u := ⟨_, rfl⟩
  have hbx := BoxC.told hr hw5 hb.size
  have hb2 := wbelow hb hbx.2
  have HNw5 : Hid (BoxC (newB w3 w5) w5 w4.heap.size ChkS.zero (.slice Aw4 nw4 cw4) ∧ Far (newB w0 w1) w5 w3.heap.size (newB w3 w5)) := Lib.hid ⟨hbx.1, Far.new HS.out.d HSZ.out⟩
  have HEw5 : Hid (X.E (newB w3 w4) w5 10 (.iface Tw4 xw4) ∧ Far (newB w0 w1) w5 w3.heap.size (newB w3 w4)) := Lib.hid ⟨X.up he hbx.2, (Far.new HS.out.d HSZ.out).up hbx.2.size⟩
  have HS2 := Lib.hid (HS.out.up hb2)
  clear HS
  have HS := HS2
  clear HS2
  have HSZ2 : Hid (w3.heap.size ≤ w5.heap.size) := Lib.hid (Nat.le_trans HSZ.out hb2.size)
  clear HSZ
  have HSZ := HSZ2
  clear HSZ2
  obtain ⟨bxw4, hbxw4⟩ : ∃ x, w4.heap.size = x := ⟨_, rfl⟩
  rw [hbxw4] at HNw5
  try clear y0 y1 y2 y3 y4 y5 y6
  obtain ⟨y0, y1, y2, y3, y4, y5, y6⟩ := HS.out.c.cells
  clear hr he hb hbx hb2
  go_wp2_with fail
  clear hw5 hnw4 hbxw4
  refine (O.write (awC 4) _ HS.out.d (by decide) (awC_fit (by decide) (by decide)).w ⟨by decide, by decide⟩ ⟨by decide, by decide⟩ ⟨by decide, by decide⟩ (by decide) (HS.out.c.2.1.mono (fun k hk => (HS.out.o k hk).2))).mono ?_
  rintro r w6 ⟨vw6, Fw6, Gw6, rfl, he, hd, hk, hf, hg⟩
  rw [aw_one.1] at he
  rw [show ((DevS.new 11 4).wr (awC 4)).1 = awS1 from rfl] at hd
  obtain rfl := X.none he
  have HS2 := Lib.hid (HS.out.done hd hk hf)
  have HSZ2 : Hid (w3.heap.size ≤ w6.heap.size) := Lib.hid (Nat.le_trans HSZ.out hk.size)
  have HNw5x := Lib.hid (And.intro (HNw5.out.1.keep hk HNw5.out.2.1) (HNw5.out.2.done hk.size hf))
  clear HNw5
  have HNw5 := HNw5x
  clear HNw5x
  have HEw5x := Lib.hid (And.intro (X.keep HEw5.out.1 hk (fun j hj => (HEw5.out.2.1 j hj).2)) (HEw5.out.2.done hk.size hf))
  clear HEw5
  have HEw5 := HEw5x
  clear HEw5x
  clear HS
  have HS := HS2
  clear HS2 HSZ
  have HSZ := HSZ2
  clear HSZ2 he hd hk hf hg
  clear y0 y1 y2 y3 y4 y5 y6
  obtain ⟨y0, y1, y2, y3, y4, y5, y6⟩ := HS.out.c.cells
  go_wp2_with fail
  refine (O.newest HS.out.d).mono ?_
  rw [(aw_one.2.now (by decide) (by decide)).1, (aw_one.2.now (by decide) (by decide)).2]
  rintro r w7 ⟨sw7, vw7, rfl, hr, he, hb⟩
  obtain ⟨Aw7, cw7, rfl, _, _⟩ := hr.numR
  obtain ⟨nw7, hnw7⟩ : ∃ x, (awC 4).dir.length = x := ⟨_, rfl⟩
  rw [hnw7] at hr
  obtain rfl := X.none he
  obtain ⟨w8, hw8⟩ : ∃ u, w7.alloc (.cells #[.int .u32 (awC 4).nu, .int .u32 (awC 4).se, .int .u32 (awC 4).sq, .int .i64 (awC 4).z, .int .i64 (awC 4).p, .int .i64 (awC 4).b, .slice Aw7 nw7 cw7] 40) = u := ⟨_, rfl⟩
  have hbx := BoxC.told hr hw8 hb.size
  have hb2 := wbelow hb hbx.2
  have HNw8 : Hid (BoxC (newB w6 w8) w8 w7.heap.size (awC 4) (.slice Aw7 nw7 cw7) ∧ Far Fw6 w8 w3.heap.size (newB w6 w8)) := Lib.hid ⟨hbx.1, Far.new HS.out.d HSZ.out⟩
  have HS2 := Lib.hid (HS.out.up hb2)
  clear HS
  have HS := HS2
  clear HS2
  have HSZ2 : Hid (w3.heap.size ≤ w8.heap.size) := Lib.hid (Nat.le_trans HSZ.out hb2.size)
  clear HSZ
  have HSZ := HSZ2
  clear HSZ2
  have HNw5x := Lib.hid (And.intro (HNw5.out.1.up hb2) (HNw5.out.2.up hb2.size))
  clear HNw5
  have HNw5 := HNw5x
  clear HNw5x
  have HEw5x := Lib.hid (And.intro (X.up HEw5.out.1 hb2) (HEw5.out.2.up hb2.size))
  clear HEw5
  have HEw5 := HEw5x
  clear HEw5x
  obtain ⟨bxw7, hbxw7⟩ : ∃ x, w7.heap.size = x := ⟨_, rfl⟩
  rw [hbxw7] at HNw8
  try clear y0 y1 y2 y3 y4 y5 y6
  obtain ⟨y0, y1, y2, y3, y4, y5, y6⟩ := HS.out.c.cells
  clear hr he hb hbx hb2
  go_wp2_with fail
  clear hw8 hnw7 hbxw7
  refine (O.read 9 HS.out.d).mono ?_
  rw [aw_read.1, aw_read.2]
  rintro r w9 ⟨sw9, vw9, rfl, hr, he, hb⟩
  obtain ⟨Aw9, cw9, rfl, _, _⟩ := hr.numR
  obtain ⟨nw9, hnw9⟩ : ∃ x, (awC 4).dir.length = x := ⟨_, rfl⟩
  rw [hnw9] at hr
  obtain rfl := X.none he
  obtain ⟨w10, hw10⟩ : ∃ u, w9.alloc (.cells #[.int .u32 (awC 4).nu, .int .u32 (awC 4).se, .int .u32 (awC 4).sq, .int .i64 (awC 4).z, .int .i64 (awC 4).p, .int .i64 (awC 4).b, .slice Aw9 nw9 cw9] 40) = u := ⟨_, rfl⟩
  have hbx := BoxC.told hr hw10 hb.size
  have hb2 := wbelow hb hbx.2
  have HNw10 : Hid (BoxC (newB w8 w10) w10 w9.heap.size (awC 4) (.slice Aw9 nw9 cw9) ∧ Far Fw6 w10 w3.heap.size (newB w8 w10)) := Lib.hid ⟨hbx.1, Far.new HS.out.d HSZ.out⟩
  have HS2 := Lib.hid (HS.out.up hb2)
  clear HS
  have HS := HS2
  clear HS2
  have HSZ2 : Hid (w3.heap.size ≤ w10.heap.size) := Lib.hid (Nat.le_trans HSZ.out hb2.size)
  clear HSZ
  have HSZ := HSZ2
  clear HSZ2
  have HNw5x := Lib.hid (And.intro (HNw5.out.1.up hb2) (HNw5.out.2.up hb2.size))
  clear HNw5
  have HNw5 := HNw5x
  clear HNw5x
  have HEw5x := Lib.hid (And.intro (X.up HEw5.out.1 hb2) (HEw5.out.2.up hb2.size))
  clear HEw5
  have HEw5 := HEw5x
  clear HEw5x
  have HNw8x := Lib.hid (And.intro (HNw8.out.1.up hb2) (HNw8.out.2.up hb2.size))
  clear HNw8
  have HNw8 := HNw8x
  clear HNw8x
  obtain ⟨bxw9, hbxw9⟩ : ∃ x, w9.heap.size = x := ⟨_, rfl⟩
  rw [hbxw9] at HNw10
  try clear y0 y1 y2 y3 y4 y5 y6
  obtain ⟨y0, y1, y2, y3, y4, y5, y6⟩ := HS.out.c.cells
  clear hr he hb hbx hb2
  have hfv := HS.out.five
  obtain ⟨w11, hw11⟩ : ∃ u, w10.setCell ⟨cb, 0, none⟩ (.int .u32 5) = u := ⟨_, rfl⟩
  rw [hw11] at hfv
  have yf := HS.out.c.1.free 0
  have HS2 := Lib.hid hfv.1
  have HSZ2 : Hid (w3.heap.size ≤ w11.heap.size) := Lib.hid (Nat.le_trans HSZ.out hfv.2.size)
  have HNw5x := Lib.hid (And.intro (BoxC.keepF HNw5.out.1 hfv.2 (fun j hj e => by have := HNw5.out.2.2 j hj; have := HCB.out; omega)) (HNw5.out.2.up hfv.2.size))
  clear HNw5
  have HNw5 := HNw5x
  clear HNw5x
  have HEw5x := Lib.hid (And.intro (X.keep HEw5.out.1 hfv.2 (fun j hj e => by have := HEw5.out.2.2 j hj; have := HCB.out; omega)) (HEw5.out.2.up hfv.2.size))
  clear HEw5
  have HEw5 := HEw5x
  clear HEw5x
  have HNw8x := Lib.hid (And.intro (BoxC.keepF HNw8.out.1 hfv.2 (fun j hj e => by have := HNw8.out.2.2 j hj; have := HCB.out; omega)) (HNw8.out.2.up hfv.2.size))
  clear HNw8
  have HNw8 := HNw8x
  clear HNw8x
  have HNw10x := Lib.hid (And.intro (BoxC.keepF HNw10.out.1 hfv.2 (fun j hj e => by have := HNw10.out.2.2 j hj; have := HCB.out; omega)) (HNw10.out.2.up hfv.2.size))
  clear HNw10
  have HNw10 := HNw10x
  clear HNw10x
  clear HS
  have HS := HS2
  clear HS2 HSZ
  have HSZ := HSZ2
  clear HSZ2 hfv
  obtain ⟨z0, z1, z2, z3, z4, z5, z6⟩ := HS.out.c.cells
  go_wp2_with fail
  clear hw10 hnw9 hbxw9 hw11 y0 y1 y2 y3 y4 y5 y6 yf z0 z1 z2 z3 z4 z5 z6
  obtain ⟨y0, y1, y2, y3, y4, y5, y6⟩ := HS.out.c.cells
  refine (O.write (awC 5) _ HS.out.d ((Nat.le_trans (DevS.wr_done _ _) (by decide))) (awC_fit (by decide) (by decide)).w ⟨by decide, by decide⟩ ⟨by decide, by decide⟩ ⟨by decide, by decide⟩ (by decide) (HS.out.c.2.1.mono (fun k hk => (HS.out.o k hk).2))).mono ?_
  rintro r w12 ⟨vw12, Fw12, Gw12, rfl, he, hd, hk, hf, hg⟩
  rw [aw_two.1] at he
  rw [show (awS1.wr (awC 5)).1 = awS2 from rfl] at hd
  obtain rfl := X.none he
  have HS2 := Lib.hid (HS.out.done hd hk hf)
  have HSZ2 : Hid (w3.heap.size ≤ w12.heap.size) := Lib.hid (Nat.le_trans HSZ.out hk.size)
  have HNw5x := Lib.hid (And.intro (HNw5.out.1.keep hk HNw5.out.2.1) (HNw5.out.2.done hk.size hf))
  clear HNw5
  have HNw5 := HNw5x
  clear HNw5x
  have HEw5x := Lib.hid (And.intro (X.keep HEw5.out.1 hk (fun j hj => (HEw5.out.2.1 j hj).2)) (HEw5.out.2.done hk.size hf))
  clear HEw5
  have HEw5 := HEw5x
  clear HEw5x
  have HNw8x := Lib.hid (And.intro (HNw8.out.1.keep hk HNw8.out.2.1) (HNw8.out.2.done hk.size hf))
  clear HNw8
  have HNw8 := HNw8x
  clear HNw8x
  have HNw10x := Lib.hid (And.intro (HNw10.out.1.keep hk HNw10.out.2.1) (HNw10.out.2.done hk.size hf))
  clear HNw10
  have HNw10 := HNw10x
  clear HNw10x
  clear HS
  have HS := HS2
  clear HS2 HSZ
  have HSZ := HSZ2
  clear HSZ2 he hd hk hf hg
  clear y0 y1 y2 y3 y4 y5 y6
  obtain ⟨y0, y1, y2, y3, y4, y5, y6⟩ := HS.out.c.cells
  go_wp2_with fail
  refine (O.newest HS.out.d).mono ?_
  rw [(aw_two.2.now (by decide) (by decide)).1, (aw_two.2.now (by decide) (by decide)).2]
  rintro r w13 ⟨sw13, vw13, rfl, hr, he, hb⟩
  obtain ⟨Aw13, cw13, rfl, _, _⟩ := hr.numR
  obtain ⟨nw13, hnw13⟩ : ∃ x, (awC 5).dir.length = x := ⟨_, rfl⟩
  rw [hnw13] at hr
  obtain rfl := X.none he
  obtain ⟨w14, hw14⟩ : ∃ u, w13.alloc (.cells #[.int .u32 (awC 5).nu, .int .u32 (awC 5).se, .int .u32 (awC 5).sq, .int .i64 (awC 5).z, .int .i64 (awC 5).p, .int .i64 (awC 5).b, .slice Aw13 nw13 cw13] 40) = u := ⟨_, rfl⟩
  have hbx := BoxC.told hr hw14 hb.size
  have hb2 := wbelow hb hbx.2
  have HNw14 : Hid (BoxC (newB w12 w14) w14 w13.heap.size (awC 5) (.slice Aw13 nw13 cw13) ∧ Far Fw12 w14 w3.heap.size (newB w12 w14)) := Lib.hid ⟨hbx.1, Far.new HS.out.d HSZ.out⟩
  have HS2 := Lib.hid (HS.out.up hb2)
  clear HS
  have HS := HS2
  clear HS2
  have HSZ2 : Hid (w3.heap.size ≤ w14.heap.size) := Lib.hid (Nat.le_trans HSZ.out hb2.size)
  clear HSZ
  have HSZ := HSZ2
  clear HSZ2
  have HNw5x := Lib.hid (And.intro (HNw5.out.1.up hb2) (HNw5.out.2.up hb2.size))
  clear HNw5
  have HNw5 := HNw5x
  clear HNw5x
  have HEw5x := Lib.hid (And.intro (X.up HEw5.out.1 hb2) (HEw5.out.2.up hb2.size))
  clear HEw5
  have HEw5 := HEw5x
  clear HEw5x
  have HNw8x := Lib.hid (And.intro (HNw8.out.1.up hb2) (HNw8.out.2.up hb2.size))
  clear HNw8
  have HNw8 := HNw8x
  clear HNw8x
  have HNw10x := Lib.hid (And.intro (HNw10.out.1.up hb2) (HNw10.out.2.up hb2.size))
  clear HNw10
  have HNw10 := HNw10x
  clear HNw10x
  obtain ⟨bxw13, hbxw13⟩ : ∃ x, w13.heap.size = x := ⟨_, rfl⟩
  rw [hbxw13] at HNw14
  try clear y0 y1 y2 y3 y4 y5 y6
  obtain ⟨y0, y1, y2, y3, y4, y5, y6⟩ := HS.out.c.cells
  clear hr he hb hbx hb2
  go_wp2_with fail
  clear hw14 hnw13 hbxw13
  refine (O.read 8 HS.out.d).mono ?_
  rw [aw_no.1, aw_no.2]
  rintro r w15 ⟨sw15, vw15, rfl, hr, he, hb⟩
  obtain ⟨Aw15, cw15, rfl, _, _⟩ := hr.numR
  obtain ⟨nw15, hnw15⟩ : ∃ x, ChkS.zero.dir.length = x := ⟨_, rfl⟩
  rw [hnw15] at hr
  obtain ⟨Tw15, xw15, rfl⟩ := X.some he (by decide)
  obtain ⟨w16, hw16⟩ : ∃ u, w15.alloc (.cells #[.int .u32 ChkS.zero.nu, .int .u32 ChkS.zero.se, .int .u32 ChkS.zero.sq, .int .i64 ChkS.zero.z, .int .i64 ChkS.zero.p, .int .i64 ChkS.zero.b, .slice Aw15 nw15 cw15] 40) = u := ⟨_, rfl⟩
  have hbx := BoxC.told hr hw16 hb.size
  have hb2 := wbelow hb hbx.2
  have HNw16 : Hid (BoxC (newB w14 w16) w16 w15.heap.size ChkS.zero (.slice Aw15 nw15 cw15) ∧ Far Fw12 w16 w3.heap.size (newB w14 w16)) := Lib.hid ⟨hbx.1, Far.new HS.out.d HSZ.out⟩
  have HEw16 : Hid (X.E (newB w14 w15) w16 1 (.iface Tw15 xw15) ∧ Far Fw12 w16 w3.heap.size (newB w14 w15)) := Lib.hid ⟨X.up he hbx.2, (Far.new HS.out.d HSZ.out).up hbx.2.size⟩
  have HS2 := Lib.hid (HS.out.up hb2)
  clear HS
  have HS := HS2
  clear HS2
  have HSZ2 : Hid (w3.heap.size ≤ w16.heap.size) := Lib.hid (Nat.le_trans HSZ.out hb2.size)
  clear HSZ
  have HSZ := HSZ2
  clear HSZ2
  have HNw5x := Lib.hid (And.intro (HNw5.out.1.up hb2) (HNw5.out.2.up hb2.size))
  clear HNw5
  have HNw5 := HNw5x
  clear HNw5x
  have HEw5x := Lib.hid (And.intro (X.up HEw5.out.1 hb2) (HEw5.out.2.up hb2.size))
  clear HEw5
  have HEw5 := HEw5x
  clear HEw5x
  have HNw8x := Lib.hid (And.intro (HNw8.out.1.up hb2) (HNw8.out.2.up hb2.size))
  clear HNw8
  have HNw8 := HNw8x
  clear HNw8x
  have HNw10x := Lib.hid (And.intro (HNw10.out.1.up hb2) (HNw10.out.2.up hb2.size))
  clear HNw10
  have HNw10 := HNw10x
  clear HNw10x
  have HNw14x := Lib.hid (And.intro (HNw14.out.1.up hb2) (HNw14.out.2.up hb2.size))
  clear HNw14
  have HNw14 := HNw14x
  clear HNw14x
  obtain ⟨bxw15, hbxw15⟩ : ∃ x, w15.heap.size = x := ⟨_, rfl⟩
  rw [hbxw15] at HNw16
  try clear y0 y1 y2 y3 y4 y5 y6
  obtain ⟨y0, y1, y2, y3, y4, y5, y6⟩ := HS.out.c.cells
  clear hr he hb hbx hb2
  go_wp2_with fail
  clear hw16 hnw15 hbxw15
  clear y0 y1 y2 y3 y4 y5 y6
  refine (X.code HEw5.out.1 (HG.out.below HS.out.old)).mono ?_
  rintro r w17 ⟨rfl, hb⟩
  have HS2 := Lib.hid (HS.out.up hb)
  clear HS
  have HS := HS2
  clear HS2
  have HSZ2 : Hid (w3.heap.size ≤ w17.heap.size) := Lib.hid (Nat.le_trans HSZ.out hb.size)
  clear HSZ
  have HSZ := HSZ2
  clear HSZ2
  have HNw5x := Lib.hid (And.intro (HNw5.out.1.up hb) (HNw5.out.2.up hb.size))
  clear HNw5
  have HNw5 := HNw5x
  clear HNw5x
  have HEw5x := Lib.hid (And.intro (X.up HEw5.out.1 hb) (HEw5.out.2.up hb.size))
  clear HEw5
  have HEw5 := HEw5x
  clear HEw5x
  have HNw8x := Lib.hid (And.intro (HNw8.out.1.up hb) (HNw8.out.2.up hb.size))
  clear HNw8
  have HNw8 := HNw8x
  clear HNw8x
  have HNw10x := Lib.hid (And.intro (HNw10.out.1.up hb) (HNw10.out.2.up hb.size))
  clear HNw10
  have HNw10 := HNw10x
  clear HNw10x
  have HNw14x := Lib.hid (And.intro (HNw14.out.1.up hb) (HNw14.out.2.up hb.size))
  clear HNw14
  have HNw14 := HNw14x
  clear HNw14x
  have HNw16x := Lib.hid (And.intro (HNw16.out.1.up hb) (HNw16.out.2.up hb.size))
  clear HNw16
  have HNw16 := HNw16x
  clear HNw16x
  have HEw16x := Lib.hid (And.intro (X.up HEw16.out.1 hb) (HEw16.out.2.up hb.size))
  clear HEw16
  have HEw16 := HEw16x
  clear HEw16x
  clear hb
  obtain ⟨a0, a1, a2, a3, a4, a5, a6⟩ := HNw8.out.1.cells
  obtain ⟨b0, b1, b2, b3, b4, b5, b6⟩ := HNw10.out.1.cells
  have q4 : ((awC 4).nu == 4) = true := by decide
  go_wp2_with fail
  clear a0 a1 a2 a3 a4 a5 a6 b0 b1 b2 b3 b4 b5 b6 q4
  refine (csame_at (awC 4) (awC 4) HNw8.out.1.2.1 HNw10.out.1.2.1 (by decide) (by decide)).mono ?_
  rw [sameS_self]
  rintro r w18 ⟨rfl, hb⟩
  have HS2 := Lib.hid (HS.out.up hb)
  clear HS
  have HS := HS2
  clear HS2
  have HSZ2 : Hid (w3.heap.size ≤ w18.heap.size) := Lib.hid (Nat.le_trans HSZ.out hb.size)
  clear HSZ
  have HSZ := HSZ2
  clear HSZ2
  have HNw5x := Lib.hid (And.intro (HNw5.out.1.up hb) (HNw5.out.2.up hb.size))
  clear HNw5
  have HNw5 := HNw5x
  clear HNw5x
  have HEw5x := Lib.hid (And.intro (X.up HEw5.out.1 hb) (HEw5.out.2.up hb.size))
  clear HEw5
  have HEw5 := HEw5x
  clear HEw5x
  have HNw8x := Lib.hid (And.intro (HNw8.out.1.up hb) (HNw8.out.2.up hb.size))
  clear HNw8
  have HNw8 := HNw8x
  clear HNw8x
  have HNw10x := Lib.hid (And.intro (HNw10.out.1.up hb) (HNw10.out.2.up hb.size))
  clear HNw10
  have HNw10 := HNw10x
  clear HNw10x
  have HNw14x := Lib.hid (And.intro (HNw14.out.1.up hb) (HNw14.out.2.up hb.size))
  clear HNw14
  have HNw14 := HNw14x
  clear HNw14x
  have HNw16x := Lib.hid (And.intro (HNw16.out.1.up hb) (HNw16.out.2.up hb.size))
  clear HNw16
  have HNw16 := HNw16x
  clear HNw16x
  have HEw16x := Lib.hid (And.intro (X.up HEw16.out.1 hb) (HEw16.out.2.up hb.size))
  clear HEw16
  have HEw16 := HEw16x
  clear HEw16x
  clear hb
  go_wp2_with fail
  refine (O.place 5 HS.out.d (by rw [aw_two.2.len]; decide) (by decide) (by decide)).mono ?_
  rw [show whereN awS2.zones.length 5 = 10 from by rw [aw_two.2.len]; decide]
  rintro r w19 ⟨rfl, hb⟩
  have HS2 := Lib.hid (HS.out.up hb)
  clear HS
  have HS := HS2
  clear HS2
  have HSZ2 : Hid (w3.heap.size ≤ w19.heap.size) := Lib.hid (Nat.le_trans HSZ.out hb.size)
  clear HSZ
  have HSZ := HSZ2
  clear HSZ2
  have HNw5x := Lib.hid (And.intro (HNw5.out.1.up hb) (HNw5.out.2.up hb.size))
  clear HNw5
  have HNw5 := HNw5x
  clear HNw5x
  have HEw5x := Lib.hid (And.intro (X.up HEw5.out.1 hb) (HEw5.out.2.up hb.size))
  clear HEw5
  have HEw5 := HEw5x
  clear HEw5x
  have HNw8x := Lib.hid (And.intro (HNw8.out.1.up hb) (HNw8.out.2.up hb.size))
  clear HNw8
  have HNw8 := HNw8x
  clear HNw8x
  have HNw10x := Lib.hid (And.intro (HNw10.out.1.up hb) (HNw10.out.2.up hb.size))
  clear HNw10
  have HNw10 := HNw10x
  clear HNw10x
  have HNw14x := Lib.hid (And.intro (HNw14.out.1.up hb) (HNw14.out.2.up hb.size))
  clear HNw14
  have HNw14 := HNw14x
  clear HNw14x
  have HNw16x := Lib.hid (And.intro (HNw16.out.1.up hb) (HNw16.out.2.up hb.size))
  clear HNw16
  have HNw16 := HNw16x
  clear HNw16x
  have HEw16x := Lib.hid (And.intro (X.up HEw16.out.1 hb) (HEw16.out.2.up hb.size))
  clear HEw16
  have HEw16 := HEw16x
  clear HEw16x
  clear hb
  obtain ⟨a0, a1, a2, a3, a4, a5, a6⟩ := HNw14.out.1.cells
  obtain ⟨y0, y1, y2, y3, y4, y5, y6⟩ := HS.out.c.cells
  go_wp2_with fail
  clear a0 a1 a2 a3 a4 a5 a6 y0 y1 y2 y3 y4 y5 y6
  refine (csame_at (awC 5) (awC 5) HNw14.out.1.2.1 HS.out.c.2.1 (by decide) (by decide)).mono ?_
  rw [sameS_self]
  rintro r w20 ⟨rfl, hb⟩
  have HS2 := Lib.hid (HS.out.up hb)
  clear HS
  have HS := HS2
  clear HS2
  have HSZ2 : Hid (w3.heap.size ≤ w20.heap.size) := Lib.hid (Nat.le_trans HSZ.out hb.size)
  clear HSZ
  have HSZ := HSZ2
  clear HSZ2
  have HNw5x := Lib.hid (And.intro (HNw5.out.1.up hb) (HNw5.out.2.up hb.size))
  clear HNw5
  have HNw5 := HNw5x
  clear HNw5x
  have HEw5x := Lib.hid (And.intro (X.up HEw5.out.1 hb) (HEw5.out.2.up hb.size))
  clear HEw5
  have HEw5 := HEw5x
  clear HEw5x
  have HNw8x := Lib.hid (And.intro (HNw8.out.1.up hb) (HNw8.out.2.up hb.size))
  clear HNw8
  have HNw8 := HNw8x
  clear HNw8x
  have HNw10x := Lib.hid (And.intro (HNw10.out.1.up hb) (HNw10.out.2.up hb.size))
  clear HNw10
  have HNw10 := HNw10x
  clear HNw10x
  have HNw14x := Lib.hid (And.intro (HNw14.out.1.up hb) (HNw14.out.2.up hb.size))
  clear HNw14
  have HNw14 := HNw14x
  clear HNw14x
  have HNw16x := Lib.hid (And.intro (HNw16.out.1.up hb) (HNw16.out.2.up hb.size))
  clear HNw16
  have HNw16 := HNw16x
  clear HNw16x
  have HEw16x := Lib.hid (And.intro (X.up HEw16.out.1 hb) (HEw16.out.2.up hb.size))
  clear HEw16
  have HEw16 := HEw16x
  clear HEw16x
  clear hb
  go_wp2_with fail
  refine (X.code HEw16.out.1 (HG.out.below HS.out.old)).mono ?_
  rintro r w21 ⟨rfl, hb⟩
  have HS2 := Lib.hid (HS.out.up hb)
  clear HS
  have HS := HS2
  clear HS2
  have HSZ2 : Hid (w3.heap.size ≤ w21.heap.size) := Lib.hid (Nat.le_trans HSZ.out hb.size)
  clear HSZ
  have HSZ := HSZ2
  clear HSZ2
  have HNw5x := Lib.hid (And.intro (HNw5.out.1.up hb) (HNw5.out.2.up hb.size))
  clear HNw5
  have HNw5 := HNw5x
  clear HNw5x
  have HEw5x := Lib.hid (And.intro (X.up HEw5.out.1 hb) (HEw5.out.2.up hb.size))
  clear HEw5
  have HEw5 := HEw5x
  clear HEw5x
  have HNw8x := Lib.hid (And.intro (HNw8.out.1.up hb) (HNw8.out.2.up hb.size))
  clear HNw8
  have HNw8 := HNw8x
  clear HNw8x
  have HNw10x := Lib.hid (And.intro (HNw10.out.1.up hb) (HNw10.out.2.up hb.size))
  clear HNw10
  have HNw10 := HNw10x
  clear HNw10x
  have HNw14x := Lib.hid (And.intro (HNw14.out.1.up hb) (HNw14.out.2.up hb.size))
  clear HNw14
  have HNw14 := HNw14x
  clear HNw14x
  have HNw16x := Lib.hid (And.intro (HNw16.out.1.up hb) (HNw16.out.2.up hb.size))
  clear HNw16
  have HNw16 := HNw16x
  clear HNw16x
  have HEw16x := Lib.hid (And.intro (X.up HEw16.out.1 hb) (HEw16.out.2.up hb.size))
  clear HEw16
  have HEw16 := HEw16x
  clear HEw16x
  clear hb
  go_wp2_with fail
  go_ret
  exact ⟨rfl, HS.out.old⟩
end Go.Proofs.YthmpimjmajoimaaGreatDoor

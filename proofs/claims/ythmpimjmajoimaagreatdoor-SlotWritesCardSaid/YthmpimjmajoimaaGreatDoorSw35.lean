/-
  The landed slots' gather: the walk.
-/
import Derived.Test.YthmpimjmajoimaaGreatDoorSw34
import Derived.Shelf.Abstract
import Derived.TacticsInMore
namespace Go.Proofs.YthmpimjmajoimaaGreatDoor
open Go.RowKit
attribute [local go_sem] Oper.semAt_some

/-- What gather tells. -/
def GatherIs (l : List (List Int)) (w : World) (r : Ending) (w' : World) : Prop :=
  (pagesOk l = true ∧ ∃ A c vs base, r = .returned (.tuple #[hV (topK l l.length) (topN l l.length 1) 0 (topN l l.length 9), .slice A l.length c, .bool true]) ∧ GAcc base w' l l.length (.slice A l.length c) vs ∧ w.heap.size ≤ base ∧ Below w.heap.size w w') ∨
  (pagesOk l = false ∧ r = .returned (.tuple #[hV 0 0 0 0, .slice none 0 0, .bool false]) ∧ Below w.heap.size w w')
/-- What is read of each page is the page. -/
def Bridge (S : DevS) (zi : Int) (l : List (List Int)) : Prop := ∀ i (h : i < l.length), (pageE S zi (i : Int) = 0 → S.readB zi (i : Int) = l[i] ∧ pgE l[i] = 0) ∧ (pageE S zi (i : Int) ≠ 0 → pgE l[i] ≠ 0)
/-- A page's cells. -/
def pcL (x : PgX) : List Value := if x.e = 0 then [.int .u8 (x.ps.getD 0 0), .int .u32 (bk x.ps 1), .int .u32 (bk x.ps 5), .int .u32 (bk x.ps 9), .slice (some ⟨x.g, 0, none⟩) 16 x.cap] else pList
theorem others_below {W W' : World} (h : Below W.heap.size W W') : KeepsOthers W W' := ⟨h.size, fun k _ hk _ => (h.block k (Array.getElem?_eq_some_iff.1 hk).1).trans hk⟩
theorem KeepsFrom.others {B : Nat} {W W' : World} (h : KeepsOthers W W') : KeepsFrom B W W' := ⟨h.size, fun k o _ hk hc => h.same k o hk hc⟩
/-- Zeros are stored where zeros lie. -/
def stopW (u : World) (R : Nat) : World := (((((u.setCell ⟨R, 0, none⟩ (.int .u8 0)).setCell ⟨R, 1, none⟩ (.int .u32 0)).setCell ⟨R, 2, none⟩ (.int .u32 0)).setCell ⟨R, 3, none⟩ (.int .u32 0)).setCell ⟨R + 1, 0, none⟩ (.slice none 0 0)).setCell ⟨R + 2, 0, none⟩ (.bool false)
theorem stop_at {w0 : World} {R N0 i : Nat} {t0 t1 t2 t3 : Int} {l : List (List Int)} {u : World} (h : GathT w0 R N0 l i t0 t1 t2 t3 u) (hR : w0.heap.size ≤ R) (hbad : pagesOk l = false) : GStop w0 R N0 l (stopW u R) ∧ KeepsOthers u (stopW u R) := by
  have k : KeepsOthers u (stopW u R) := (((((KeepsOthers.setCell u ⟨R, 0, none⟩ _).trans (KeepsOthers.setCell _ ⟨R, 1, none⟩ _)).trans (KeepsOthers.setCell _ ⟨R, 2, none⟩ _)).trans (KeepsOthers.setCell _ ⟨R, 3, none⟩ _)).trans (KeepsOthers.setCell _ ⟨R + 1, 0, none⟩ _)).trans (KeepsOthers.setCell _ ⟨R + 2, 0, none⟩ _)
  refine ⟨⟨?_, Nat.le_trans h.size k.size, ?_, ?_, ?_, hbad⟩, k⟩
  · exact (((((h.old.setCell (p := ⟨R, 0, none⟩) hR _).setCell (p := ⟨R, 1, none⟩) hR _).setCell (p := ⟨R, 2, none⟩) hR _).setCell (p := ⟨R, 3, none⟩) hR _).setCell (p := ⟨R + 1, 0, none⟩) (by simp; omega) _).setCell (p := ⟨R + 2, 0, none⟩) (by simp; omega) _
  · have hb := ((((h.r0.put 0 (.int .u8 0)).put 1 (.int .u32 0)).put 2 (.int .u32 0)).put 3 (.int .u32 0))
    exact (kept_put _ (R + 2) 0 _).blk ((kept_put _ (R + 1) 0 _).blk hb (by omega)) (by omega)
  · have hb : Boxed ((((u.setCell ⟨R, 0, none⟩ (.int .u8 0)).setCell ⟨R, 1, none⟩ (.int .u32 0)).setCell ⟨R, 2, none⟩ (.int .u32 0)).setCell ⟨R, 3, none⟩ (.int .u32 0)) (R + 1) 60 (.slice none 0 0) :=
      (kept_put _ R 3 _).blk ((kept_put _ R 2 _).blk ((kept_put _ R 1 _).blk ((kept_put _ R 0 _).blk h.r1 (by omega)) (by omega)) (by omega)) (by omega)
    exact (kept_put _ (R + 2) 0 _).blk (hb.set (.slice none 0 0)) (by omega)
  · have hb : Boxed (((((u.setCell ⟨R, 0, none⟩ (.int .u8 0)).setCell ⟨R, 1, none⟩ (.int .u32 0)).setCell ⟨R, 2, none⟩ (.int .u32 0)).setCell ⟨R, 3, none⟩ (.int .u32 0)).setCell ⟨R + 1, 0, none⟩ (.slice none 0 0)) (R + 2) 4 (.bool false) :=
      (kept_put _ (R + 1) 0 _).blk ((kept_put _ R 3 _).blk ((kept_put _ R 2 _).blk ((kept_put _ R 1 _).blk ((kept_put _ R 0 _).blk h.r2 (by omega)) (by omega)) (by omega)) (by omega)) (by omega)
    exact hb.set (.bool false)
/-- The answers are put. -/
def finW (u : World) (R : Nat) (t0 t1 t3 : Int) (v : Value) : World := (((((u.setCell ⟨R, 0, none⟩ (.int .u8 t0)).setCell ⟨R, 1, none⟩ (.int .u32 t1)).setCell ⟨R, 2, none⟩ (.int .u32 0)).setCell ⟨R, 3, none⟩ (.int .u32 t3)).setCell ⟨R + 1, 0, none⟩ v).setCell ⟨R + 2, 0, none⟩ (.bool true)
theorem fin_at {w0 : World} {R N0 i : Nat} {s0 s1 s2 s3 : Int} {l : List (List Int)} {u : World} (h : GathT w0 R N0 l i s0 s1 s2 s3 u) (hR : w0.heap.size ≤ R) (hN : R + 7 ≤ N0) (t0 t1 t3 : Int) (v : Value) :
    Below w0.heap.size w0 (finW u R t0 t1 t3 v) ∧ Blk (finW u R t0 t1 t3 v) R 159 [.int .u8 t0, .int .u32 t1, .int .u32 0, .int .u32 t3] ∧ Boxed (finW u R t0 t1 t3 v) (R + 1) 60 v ∧ Boxed (finW u R t0 t1 t3 v) (R + 2) 4 (.bool true) ∧ KeepsOthers u (finW u R t0 t1 t3 v) ∧ ∀ {v' : Value} {vs : List Value}, GAcc N0 u l i v' vs → GAcc N0 (finW u R t0 t1 t3 v) l i v' vs := by
  have k : KeepsOthers u (finW u R t0 t1 t3 v) := (((((KeepsOthers.setCell u ⟨R, 0, none⟩ _).trans (KeepsOthers.setCell _ ⟨R, 1, none⟩ _)).trans (KeepsOthers.setCell _ ⟨R, 2, none⟩ _)).trans (KeepsOthers.setCell _ ⟨R, 3, none⟩ _)).trans (KeepsOthers.setCell _ ⟨R + 1, 0, none⟩ _)).trans (KeepsOthers.setCell _ ⟨R + 2, 0, none⟩ _)
  refine ⟨?_, ?_, ?_, ?_, k, ?_⟩
  · exact (((((h.old.setCell (p := ⟨R, 0, none⟩) hR _).setCell (p := ⟨R, 1, none⟩) hR _).setCell (p := ⟨R, 2, none⟩) hR _).setCell (p := ⟨R, 3, none⟩) hR _).setCell (p := ⟨R + 1, 0, none⟩) (by simp; omega) _).setCell (p := ⟨R + 2, 0, none⟩) (by simp; omega) _
  · have hb := ((((h.r0.put 0 (.int .u8 t0)).put 1 (.int .u32 t1)).put 2 (.int .u32 0)).put 3 (.int .u32 t3))
    exact (kept_put _ (R + 2) 0 _).blk ((kept_put _ (R + 1) 0 _).blk hb (by omega)) (by omega)
  · have hb : Boxed ((((u.setCell ⟨R, 0, none⟩ (.int .u8 t0)).setCell ⟨R, 1, none⟩ (.int .u32 t1)).setCell ⟨R, 2, none⟩ (.int .u32 0)).setCell ⟨R, 3, none⟩ (.int .u32 t3)) (R + 1) 60 (.slice none 0 0) :=
      (kept_put _ R 3 _).blk ((kept_put _ R 2 _).blk ((kept_put _ R 1 _).blk ((kept_put _ R 0 _).blk h.r1 (by omega)) (by omega)) (by omega)) (by omega)
    exact (kept_put _ (R + 2) 0 _).blk (hb.set v) (by omega)
  · have hb : Boxed (((((u.setCell ⟨R, 0, none⟩ (.int .u8 t0)).setCell ⟨R, 1, none⟩ (.int .u32 t1)).setCell ⟨R, 2, none⟩ (.int .u32 0)).setCell ⟨R, 3, none⟩ (.int .u32 t3)).setCell ⟨R + 1, 0, none⟩ v) (R + 2) 4 (.bool false) :=
      (kept_put _ (R + 1) 0 _).blk ((kept_put _ R 3 _).blk ((kept_put _ R 2 _).blk ((kept_put _ R 1 _).blk ((kept_put _ R 0 _).blk h.r2 (by omega)) (by omega)) (by omega)) (by omega)) (by omega)
    exact hb.set (.bool true)
  · intro v' vs hc
    have h1 := hc.kept (grown_put (grown_put (grown_put (grown_put (World.grownBy.refl u (some R)) 0 (.int .u8 t0)) 1 (.int .u32 t1)) 2 (.int .u32 0)) 3 (.int .u32 t3)) (fun r e => .inl (by have := Option.some.inj e; omega))
    have h2 := h1.kept (grownBy_setCell' _ (R + 1) v) (fun r e => .inl (by have := Option.some.inj e; omega))
    exact h2.kept (grownBy_setCell' _ (R + 2) (.bool true)) (fun r e => .inl (by have := Option.some.inj e; omega))
set_option maxHeartbeats 8000000 in
set_option maxRecDepth 100000 in
theorem slgather_at (Z : ZBas) {F : Nat → Prop} {w : World} {db m : Nat} {S : DevS} {zi : Int} {l : List (List Int)} (h : Z.D F w db S) (hp : S.point zi = m) (hl : l.length = m) (hm : m ≤ 1000) (hbr : Bridge S zi l) :
    Calls Tryz.prog 88 #[.pointer (some ⟨db, 0, none⟩), .int .i64 zi] w (GatherIs l w) := by
  have HH := Lib.hid h
  have HP := Lib.hid hp
  have HL := Lib.hid hl
  have HBR := Lib.hid hbr
  clear h hp hl hbr
  obtain ⟨R, hR⟩ : ∃ R, w.heap.size = R := ⟨_, rfl⟩
  refine (callsIn_wide (n := 6)).1 ?_
  refine callsIn_of_wp_marks Tryz.func88 rfl trivial ?_ rfl
  simp only [Tryz.ntmps88, List.size_toArray, List.length_cons, List.length_nil, Nat.reduceAdd, Nat.reduceSub, Array.replicate_succ, Array.replicate_zero, List.push_toArray, List.append_toArray, List.nil_append, List.cons_append]
  refine wpIn_wide.2 ?_
  go_wp2_with fail
  refine (slwritten_at _ db zi).mono ?_
  rintro r w1 ⟨rfl, rfl⟩
  go_wp2_with fail
  obtain ⟨W0, hW0⟩ : ∃ W0 : World, W0 = (((((((w.alloc (.cells #[.int .u8 0, .int .u32 0, .int .u32 0, .int .u32 0] 159)).alloc (.cells #[.slice none 0 0] 60)).alloc (.cells #[.bool false] 4)).alloc (.cells #[.int .u8 0, .int .u32 0, .int .u32 0, .int .u32 0] 159)).alloc (.cells #[.slice none 0 0] 60)).alloc (.cells #[.pointer (some ⟨db, 0, none⟩)] 25)).alloc (.cells #[.int .i64 zi] 3)) := ⟨_, rfl⟩
  rw [← hW0]
  have hs0 : W0.heap.size = R + 7 := by rw [hW0]; simp [hR]
  have HB0 : Hid (Below w.heap.size w W0) := Lib.hid (by
    rw [hW0]
    exact (((((((Below.refl _ w).alloc (Nat.le_refl _) _).alloc (by simp) _).alloc (by simp; omega) _).alloc (by simp; omega) _).alloc (by simp; omega) _).alloc (by simp; omega) _).alloc (by simp; omega) _)
  have HD0 := Lib.hid (Z.up HH.out HB0.out)
  have HGX : Hid (Blk W0 (R + 0) 159 [.int .u8 0, .int .u32 0, .int .u32 0, .int .u32 0] ∧ Blk W0 (R + 1) 60 [.slice none 0 0] ∧ Blk W0 (R + 2) 4 [.bool false] ∧ Blk W0 (R + 3) 159 [.int .u8 0, .int .u32 0, .int .u32 0, .int .u32 0] ∧ Blk W0 (R + 4) 60 [.slice none 0 0] ∧ Blk W0 (R + 5) 25 [.pointer (some ⟨db, 0, none⟩)] ∧ Blk W0 (R + 6) 3 [.int .i64 zi]) := Lib.hid (by
    obtain ⟨w1, e1⟩ : ∃ u, w.alloc (.cells #[.int .u8 0, .int .u32 0, .int .u32 0, .int .u32 0] 159) = u := ⟨_, rfl⟩
    rw [e1] at hW0
    have z1 : w1.heap.size = R + 1 := by rw [← e1, World.size_alloc]; omega
    have s : Below w.heap.size w w1 := by rw [← e1]; exact (Below.refl _ _).alloc (Nat.le_refl _) _
    have x0 : Blk w1 (R + 0) 159 [.int .u8 0, .int .u32 0, .int .u32 0, .int .u32 0] := by
      have hz : w.heap.size = R + 0 := by omega
      rw [← e1, ← hz]
      exact heap_alloc_new _ _
    clear s
    obtain ⟨w2, e2⟩ : ∃ u, w1.alloc (.cells #[.slice none 0 0] 60) = u := ⟨_, rfl⟩
    rw [e2] at hW0
    have z2 : w2.heap.size = R + 2 := by rw [← e2, World.size_alloc]; omega
    have s : Below w1.heap.size w1 w2 := by rw [← e2]; exact (Below.refl _ _).alloc (Nat.le_refl _) _
    have x0 := x0.up s (by omega)
    have x1 : Blk w2 (R + 1) 60 [.slice none 0 0] := by
      have hz : w1.heap.size = R + 1 := by omega
      rw [← e2, ← hz]
      exact heap_alloc_new _ _
    clear s
    obtain ⟨w3, e3⟩ : ∃ u, w2.alloc (.cells #[.bool false] 4) = u := ⟨_, rfl⟩
    rw [e3] at hW0
    have z3 : w3.heap.size = R + 3 := by rw [← e3, World.size_alloc]; omega
    have s : Below w2.heap.size w2 w3 := by rw [← e3]; exact (Below.refl _ _).alloc (Nat.le_refl _) _
    have x0 := x0.up s (by omega)
    have x1 := x1.up s (by omega)
    have x2 : Blk w3 (R + 2) 4 [.bool false] := by
      have hz : w2.heap.size = R + 2 := by omega
      rw [← e3, ← hz]
      exact heap_alloc_new _ _
    clear s
    obtain ⟨w4, e4⟩ : ∃ u, w3.alloc (.cells #[.int .u8 0, .int .u32 0, .int .u32 0, .int .u32 0] 159) = u := ⟨_, rfl⟩
    rw [e4] at hW0
    have z4 : w4.heap.size = R + 4 := by rw [← e4, World.size_alloc]; omega
    have s : Below w3.heap.size w3 w4 := by rw [← e4]; exact (Below.refl _ _).alloc (Nat.le_refl _) _
    have x0 := x0.up s (by omega)
    have x1 := x1.up s (by omega)
    have x2 := x2.up s (by omega)
    have x3 : Blk w4 (R + 3) 159 [.int .u8 0, .int .u32 0, .int .u32 0, .int .u32 0] := by
      have hz : w3.heap.size = R + 3 := by omega
      rw [← e4, ← hz]
      exact heap_alloc_new _ _
    clear s
    obtain ⟨w5, e5⟩ : ∃ u, w4.alloc (.cells #[.slice none 0 0] 60) = u := ⟨_, rfl⟩
    rw [e5] at hW0
    have z5 : w5.heap.size = R + 5 := by rw [← e5, World.size_alloc]; omega
    have s : Below w4.heap.size w4 w5 := by rw [← e5]; exact (Below.refl _ _).alloc (Nat.le_refl _) _
    have x0 := x0.up s (by omega)
    have x1 := x1.up s (by omega)
    have x2 := x2.up s (by omega)
    have x3 := x3.up s (by omega)
    have x4 : Blk w5 (R + 4) 60 [.slice none 0 0] := by
      have hz : w4.heap.size = R + 4 := by omega
      rw [← e5, ← hz]
      exact heap_alloc_new _ _
    clear s
    obtain ⟨w6, e6⟩ : ∃ u, w5.alloc (.cells #[.pointer (some ⟨db, 0, none⟩)] 25) = u := ⟨_, rfl⟩
    rw [e6] at hW0
    have z6 : w6.heap.size = R + 6 := by rw [← e6, World.size_alloc]; omega
    have s : Below w5.heap.size w5 w6 := by rw [← e6]; exact (Below.refl _ _).alloc (Nat.le_refl _) _
    have x0 := x0.up s (by omega)
    have x1 := x1.up s (by omega)
    have x2 := x2.up s (by omega)
    have x3 := x3.up s (by omega)
    have x4 := x4.up s (by omega)
    have x5 : Blk w6 (R + 5) 25 [.pointer (some ⟨db, 0, none⟩)] := by
      have hz : w5.heap.size = R + 5 := by omega
      rw [← e6, ← hz]
      exact heap_alloc_new _ _
    clear s
    obtain ⟨w7, e7⟩ : ∃ u, w6.alloc (.cells #[.int .i64 zi] 3) = u := ⟨_, rfl⟩
    rw [e7] at hW0
    have z7 : w7.heap.size = R + 7 := by rw [← e7, World.size_alloc]; omega
    have s : Below w6.heap.size w6 w7 := by rw [← e7]; exact (Below.refl _ _).alloc (Nat.le_refl _) _
    have x0 := x0.up s (by omega)
    have x1 := x1.up s (by omega)
    have x2 := x2.up s (by omega)
    have x3 := x3.up s (by omega)
    have x4 := x4.up s (by omega)
    have x5 := x5.up s (by omega)
    have x6 : Blk w7 (R + 6) 3 [.int .i64 zi] := by
      have hz : w6.heap.size = R + 6 := by omega
      rw [← e7, ← hz]
      exact heap_alloc_new _ _
    clear s
    rw [hW0]
    exact ⟨x0, x1, x2, x3, x4, x5, x6⟩
  )
  have HG0 : Hid (Gath w R (R + 7) l 0 W0) := Lib.hid (by
    obtain ⟨x0, x1, x2, x3, x4, _, _⟩ := HGX.out
    exact ⟨HB0.out, by omega, x0, x1, x2, x3, .slice none 0 0, [], x4, World.ownsRow_nil _ _ _ _, rfl, fun j h _ => absurd h (by simp), fun j _ h => absurd h (by omega)⟩)
  clear hW0
  have HF : Hid (∀ k, F k → k < R) := Lib.hid (fun k hk => by have := Z.lt HH.out k hk; omega)
  refine (wpIn_wide (n := 3)).1 ?_
  refine range_seenS (α := PgX) (gf := 128) (lb := #[.pointer (some ⟨R + 5, 0, none⟩), .pointer (some ⟨R + 6, 0, none⟩)]) rfl (by omega) rfl trivial (enters_of Tryz.func128 (by kernel_rfl) rfl) (encs := encX) (Kp := Kept (fun k => (k = R + 3 ∨ k = R + 4) ∨ R + 7 ≤ k)) (G := NextX S zi (R + 7)) (S := fun xs => xs.length = m) ?seq
    (fun h k => h.and k) (fun W l o o' hl2 ho hc => (Kept.refl _ W).grown (grownBy_putObj' W l o') (fun k e => .inl (.inr (by cases e; omega)))) (fun A B _ hb => Kept.of_below hb) (fun _ => rfl)
    (fun pre W => Gath w R (R + 7) l pre.length W) (fun _ W => GStop w R (R + 7) l W) (fun s W W' row hs hg hr => hs.kept (by omega) (Nat.le_refl _) hg (fun r e => by have := hr r e; exact ⟨by omega, this.2⟩)) (fun s W W' row hs hg hr => hs.kept (by omega) (Nat.le_refl _) hg (fun r e => by have := hr r e; exact ⟨by omega, this.2⟩))
    HG0.out (fun pre x a1 W => ∃ pb, a1 = { tmps := #[.pointer (some ⟨db, 0, none⟩), .int .i64 zi, undef, undef, .pointer (some ⟨R, 0, none⟩), .pointer (some ⟨R + 1, 0, none⟩), .pointer (some ⟨R + 2, 0, none⟩), .pointer (some ⟨R + 3, 0, none⟩), .pointer (some ⟨R + 4, 0, none⟩), .pointer (some ⟨pb, 0, none⟩), errV x.e, .pointer (some ⟨db, 0, none⟩), .int .i64 zi, .func (Fn.func 128) #[] #[.pointer (some ⟨R + 5, 0, none⟩), .pointer (some ⟨R + 6, 0, none⟩)], x.v, errV x.e, undef, undef, undef, undef, undef, undef, undef, undef, undef, undef, undef, undef, undef, undef, undef, undef, undef, undef, undef, undef, undef, undef, undef, undef, undef, undef], defers := [] } ∧ Blk W pb 188 (pcL x) ∧ R + 7 ≤ pb ∧ NextX S zi (R + 7) pre x W) ?pa ?assign ?body ?done ?stop
  case seq =>
    intro lp J Jx W hbW hJ _ hY h0
    refine callsIn_wide.2 ?_
    exact written_in Z (base := R + 7) HP.out hm (fun k hk hn => by have := HF.out k hk; omega) (by omega) (by omega) lp J Jx W (by have := hbW.size; omega) hJ hY h0 (Z.up HD0.out hbW) ((hbW.block (R + 5) (by omega)).trans HGX.out.2.2.2.2.2.1) ((hbW.block (R + 6) (by omega)).trans HGX.out.2.2.2.2.2.2)
  case pa =>
    rintro pre x a1 s W W' row ⟨pb, ha, hb, hN, hn⟩ hg hr
    have hf : Far2 (R + 7) W row := fun r e => .inr (hr r e).2
    refine ⟨pb, ha, (hg.block pb (lt_of_block hb) (hf.ne hN hb rfl)).trans hb, hN, hn.1, hn.2.1, hn.2.2.1, fun e => ?_⟩
    have ho := hn.2.2.2 e
    obtain ⟨hb2, o, hx, hc⟩ := own_cells (own8_row ho) x.g rfl
    exact ho.kept hg (hf.ne hb2 hx hc)
  case assign =>
    rintro lp pre ⟨e, ps, g, cap⟩ W K hI hnx hsz hK
    by_cases he : e = 0
    · subst he
      rw [encX_ok]
      have HNX := Lib.hid hnx
      have HHK := Lib.hid hK
      clear hnx hK hI
      gi_wp2
      refine HHK.out _ _ ((Below.refl _ _).alloc (Nat.le_refl _) _) ⟨W.heap.size, ?_, heap_alloc_new W _, by omega, HNX.out.1, HNX.out.2.1, HNX.out.2.2.1, fun e => (HNX.out.2.2.2 e).rise ((Below.refl _ _).alloc (Nat.le_refl _) _)⟩
      rfl
    · rw [encX_no e ps g cap he]
      have HNX := Lib.hid hnx
      have HHK := Lib.hid hK
      have HE := Lib.hid he
      clear hnx hK hI he
      gi_wp2
      refine HHK.out _ _ ((Below.refl _ _).alloc (Nat.le_refl _) _) ⟨W.heap.size, ?_, ?_, by omega, HNX.out.1, HNX.out.2.1, HNX.out.2.2.1, fun e => absurd e HE.out⟩
      · rw [show errV (PgX.mk e ps g cap).e = .iface 31 (.int .i64 e) from if_neg HE.out, show (PgX.mk e ps g cap).v = pV 0 0 0 0 (.slice none 0 0) from if_neg HE.out]
      · rw [show pcL (PgX.mk e ps g cap) = pList from if_neg HE.out]
        exact heap_alloc_new W _
  case body =>
    rintro lp pre ⟨e, ps, g, cap⟩ a1 W hI ⟨pb, rfl, hpb, hpN, hnx⟩ hsz
    have HI := Lib.hid hI
    have HPB := Lib.hid hpb
    have HN := Lib.hid hnx
    clear hI hpb hnx
    by_cases he : e = 0
    · subst he
      rw [show errV (PgX.mk 0 ps g cap).e = .nilIface from if_pos rfl]
      have HB5 : Hid (Blk W pb 188 [.int .u8 (ps.getD 0 0), .int .u32 (bk ps 1), .int .u32 (bk ps 5), .int .u32 (bk ps 9), .slice (some ⟨g, 0, none⟩) 16 cap]) := Lib.hid HPB.out
      obtain ⟨i, hi⟩ : ∃ i, pre.length = i := ⟨_, rfl⟩
      have hlt : i < l.length := by have := HN.out.1; rw [HP.out, hi] at this; rw [HL.out]; exact this
      have HPG : Hid (ps = l[i] ∧ pgE l[i] = 0) := Lib.hid (by
        have h1 := (HBR.out i hlt).1 (by rw [← hi, ← HN.out.2.1])
        exact ⟨by rw [← h1.1, ← hi]; exact HN.out.2.2.1, h1.2⟩)
      have HOW : Hid (Own8 W (R + 7) g cap (l[i].drop 17)) := Lib.hid (by rw [← HPG.out.1]; exact HN.out.2.2.2 rfl)
      rw [hi] at HI
      obtain ⟨k0, hk0⟩ : ∃ x, ps.getD 0 0 = x := ⟨_, rfl⟩
      obtain ⟨k1, hk1⟩ : ∃ x, bk ps 1 = x := ⟨_, rfl⟩
      obtain ⟨k2, hk2⟩ : ∃ x, bk ps 5 = x := ⟨_, rfl⟩
      obtain ⟨k3, hk3⟩ : ∃ x, bk ps 9 = x := ⟨_, rfl⟩
      rw [hk0, hk1, hk2, hk3] at HB5
      have HKS : Hid (l[i].getD 0 0 = k0 ∧ bk l[i] 1 = k1 ∧ bk l[i] 5 = k2 ∧ bk l[i] 9 = k3) := Lib.hid (by rw [← HPG.out.1]; exact ⟨hk0, hk1, hk2, hk3⟩)
      obtain ⟨v, vs, hv, hc⟩ := HI.out.row
      obtain ⟨A, c, rfl, hcc, _⟩ := hc.row.out
      rw [hc.len] at hv hc hcc
      have HV := Lib.hid (And.intro hv hc)
      have p0 := HB5.out.cell 0 (by simp)
      have p1 := HB5.out.cell 1 (by simp)
      have p2 := HB5.out.cell 2 (by simp)
      have p3 := HB5.out.cell 3 (by simp)
      have p4 := HB5.out.cell 4 (by simp)
      have t0 := HI.out.top.cell 0 (by simp)
      have t1 := HI.out.top.cell 1 (by simp)
      have t2 := HI.out.top.cell 2 (by simp)
      have t3 := HI.out.top.cell 3 (by simp)
      have tf := fun k => HI.out.top.free k
      have bx := hv.cell
      simp only [List.getElem_cons_zero, List.getElem_cons_succ] at p0 p1 p2 p3 p4 t0 t1 t2 t3
      have HI2 := Lib.hid hi
      clear hk0 hk1 hk2 hk3 hi hv hc HPB
      by_cases hi0 : i = 0
      · have q0 : ((i : Int) == 0) = true := by simp [hi0]
        have HI0 := Lib.hid hi0
        clear hi0
        gi_wp2
        have GT : Hid (GathT w R (R + 7) l i k0 k1 k2 k3 (topW W (R + 3) k0 k1 k2 k3)) := Lib.hid (HI.out.head (by omega) (Nat.le_refl _) k0 k1 k2 k3)
        have GP : Hid (Blk (topW W (R + 3) k0 k1 k2 k3) pb 188 [.int .u8 k0, .int .u32 k1, .int .u32 k2, .int .u32 k3, .slice (some ⟨g, 0, none⟩) 16 cap]) := Lib.hid ((topW_kept W (R + 3) k0 k1 k2 k3).1.blk HB5.out (by omega))
        have GV : Hid (Boxed (topW W (R + 3) k0 k1 k2 k3) (R + 4) 60 (.slice A i c) ∧ GAcc (R + 7) (topW W (R + 3) k0 k1 k2 k3) l i (.slice A i c) vs) := Lib.hid ⟨(topW_kept W (R + 3) k0 k1 k2 k3).1.blk HV.out.1 (by omega), HV.out.2.kept (kept_grown (topW_kept W (R + 3) k0 k1 k2 k3).1) (fun r e => .inl (by have := Option.some.inj e; omega))⟩
        have HOT : Hid (Own8 (topW W (R + 3) k0 k1 k2 k3) (R + 7) g cap (l[i].drop 17)) := Lib.hid (HOW.out.kept (kept_grown (topW_kept W (R + 3) k0 k1 k2 k3).1) (fun e => by have := Option.some.inj e; have := HOW.out.mem.1; omega))
        have HKW : Hid (KeepsOthers W (topW W (R + 3) k0 k1 k2 k3) ∧ Kept (fun k => (k = R + 3 ∨ k = R + 4) ∨ R + 7 ≤ k) W (topW W (R + 3) k0 k1 k2 k3)) := Lib.hid ⟨(topW_kept W (R + 3) k0 k1 k2 k3).2, (topW_kept W (R + 3) k0 k1 k2 k3).1.mono (fun k _ e => .inl (.inl e))⟩
        have HTT : Hid (k1 = bk (l.getD 0 []) 1 ∧ k3 = bk (l.getD 0 []) 9) := Lib.hid (by
          have hi0 := HI0.out
          subst hi0
          rw [List.getD_eq_getElem?_getD, List.getElem?_eq_getElem hlt, Option.getD_some]
          exact ⟨HKS.out.2.1.symm, HKS.out.2.2.2.symm⟩)
        have HTOP : Hid (k0 = 5 ∧ k1 = k1 ∧ k2 = (i : Int) ∧ k3 = k3 → k0 = topK l (i + 1) ∧ k1 = topN l (i + 1) 1 ∧ k2 = 0 ∧ k3 = topN l (i + 1) 9) := Lib.hid (fun h => by
          unfold topK topN
          rw [if_neg (by omega), if_neg (by omega), if_neg (by omega)]
          exact ⟨h.1, HTT.out.1, by rw [h.2.2.1, HI0.out]; rfl, HTT.out.2⟩)
        clear p0 p1 p2 p3 p4 t0 t1 t2 t3 tf bx q0
        have oD := fun q : In (fun u => Below (topW W (R + 3) k0 k1 k2 k3).heap.size (topW W (R + 3) k0 k1 k2 k3) u) => slof_at k1 k3 (i : Int) q.w (by omega) (by have := HL.out; omega)
        have gp0 := GP.out.cell 0 (by simp)
        have gp1 := GP.out.cell 1 (by simp)
        have gp2 := GP.out.cell 2 (by simp)
        have gp3 := GP.out.cell 3 (by simp)
        have gt1 := GT.out.top.cell 1 (by simp)
        have gt3 := GT.out.top.cell 3 (by simp)
        have gbx := GV.out.1.cell
        simp only [List.getElem_cons_zero, List.getElem_cons_succ] at gp0 gp1 gp2 gp3 gt1 gt3
        have lp := lt_of_block GP.out
        have lt := lt_of_block GT.out.top
        have lb := GV.out.1.lt
        obtain ⟨B, hB⟩ : ∃ B, (!(decide (k0 = 5) && decide (k1 = k1) && decide (k2 = (i : Int)) && decide (k3 = k3))) = B := ⟨_, rfl⟩
        have hneq := fun u : World => neq_head k0 k1 k2 k3 5 k1 (i : Int) k3 u
        rw [hB] at hneq
        have hgd := guard_head .neq (.inr rfl)
        refine wpIn_region_in (w := topW W (R + 3) k0 k1 k2 k3) (fun u => Below (topW W (R + 3) k0 k1 k2 k3).heap.size (topW W (R + 3) k0 k1 k2 k3) u) (Below.refl _ _).drew (by kernel_rfl) (by kernel_rfl) (by simp) ?hq (fun ne => ?_)
        case hq =>
          rintro ⟨_, _, h⟩
          obtain ⟨_, h | h⟩ := h
          · cases h.1
          · cases h.1
        have r0 := fun q : In (fun u => Below (topW W (R + 3) k0 k1 k2 k3).heap.size (topW W (R + 3) k0 k1 k2 k3) u) => (q.ok.cell (p := ⟨pb, 0, none⟩) lp).trans gp0
        have r1 := fun q : In (fun u => Below (topW W (R + 3) k0 k1 k2 k3).heap.size (topW W (R + 3) k0 k1 k2 k3) u) => (q.ok.cell (p := ⟨pb, 1, none⟩) lp).trans gp1
        have r2 := fun q : In (fun u => Below (topW W (R + 3) k0 k1 k2 k3).heap.size (topW W (R + 3) k0 k1 k2 k3) u) => (q.ok.cell (p := ⟨pb, 2, none⟩) lp).trans gp2
        have r3 := fun q : In (fun u => Below (topW W (R + 3) k0 k1 k2 k3).heap.size (topW W (R + 3) k0 k1 k2 k3) u) => (q.ok.cell (p := ⟨pb, 3, none⟩) lp).trans gp3
        have s1 := fun q : In (fun u => Below (topW W (R + 3) k0 k1 k2 k3).heap.size (topW W (R + 3) k0 k1 k2 k3) u) => (q.ok.cell (p := ⟨R + 3, 1, none⟩) lt).trans gt1
        have s3 := fun q : In (fun u => Below (topW W (R + 3) k0 k1 k2 k3).heap.size (topW W (R + 3) k0 k1 k2 k3) u) => (q.ok.cell (p := ⟨R + 3, 3, none⟩) lt).trans gt3
        have sb := fun q : In (fun u => Below (topW W (R + 3) k0 k1 k2 k3).heap.size (topW W (R + 3) k0 k1 k2 k3) u) => (q.ok.cell (p := ⟨R + 4, 0, none⟩) lb).trans gbx
        repeat (go_big_quiet_step (first
          | (go_at_call 90; with_reducible exact In.more (fun h1 h2 => below_all h1 h2) (oD _))))
        refine wpQuiet_nil ?_
        intro nq
        obtain ⟨Wn, hWn⟩ : ∃ x, nq.w = x := ⟨_, rfl⟩
        have HBN := Lib.hid nq.ok
        rw [hWn] at HBN ⊢
        have GN := Lib.hid (GT.out.rise (by omega) (Nat.le_refl _) HBN.out)
        have GVN : Hid (Boxed Wn (R + 4) 60 (.slice A i c) ∧ GAcc (R + 7) Wn l i (.slice A i c) vs) := Lib.hid ⟨(HBN.out.block _ lb).trans GV.out.1, GV.out.2.rise HBN.out⟩
        have HON := Lib.hid (HOT.out.rise HBN.out)
        have p4 : Wn.cell? ⟨pb, 4, none⟩ = some (.slice (some ⟨g, 0, none⟩) 16 cap) := (HBN.out.cell (p := ⟨pb, 4, none⟩) lp).trans (GP.out.cell 4 (by simp))
        clear r0 r1 r2 r3 s1 s3 sb oD gp0 gp1 gp2 gp3 gt1 gt3 gbx lp lt lb hneq hgd ne hWn nq
        by_cases hok : k0 = 5 ∧ k1 = k1 ∧ k2 = (i : Int) ∧ k3 = k3
        · obtain rfl : B = false := by rw [← hB]; simp [hok]
          have HOK := Lib.hid hok
          clear hok hB
          have HPGB : Hid (pgB (l.getD 0 []) i l[i] = true) := Lib.hid (pgB_iff.2 ⟨HPG.out.2, HKS.out.1.trans HOK.out.1, HKS.out.2.2.1.trans HOK.out.2.2.1, HKS.out.2.1.trans (HOK.out.2.1.trans HTT.out.1), HKS.out.2.2.2.trans (HOK.out.2.2.2.trans HTT.out.2)⟩)
          have hv := GVN.out.1
          have bx := hv.cell
          have hrow : Wn.ownsRow (R + 7) 61 1 (.slice A i c) i vs := by
            have := GVN.out.2.row
            unfold RowV at this
            rwa [GVN.out.2.len] at this
          have HZN := GN.out.size
          have hwR : w.heap.size ≤ R := by omega
          have hib : i ≤ 1000 := by have := HL.out; omega
          obtain ⟨i0, hinf, hz0, hz1, hz2⟩ := info_parts infoRow
          gi_wp2_with (gi_at_builtin; refine wpListIn_append_own _ rfl _ _ 60 rfl (R + 7) 61 i0 (.slice none 0 0) 1 24 Tryz.underlying60 hinf hz0 hz1 hz2 rfl (by decide) _ _ _ rfl (hrow.alloc _) ⟨Wn.heap.size, 0, none⟩ 1 1 [.slice (some ⟨g, 0, none⟩) 16 cap] rfl rfl (cell_one_new _ _ _) (by simp [Value.oneCell']) (by unfold maxLen; omega) (by omega) (by simp; omega) ?_; intro v' w1' hown' hgrow _; obtain ⟨g', cap', rfl⟩ := ownsRow_succ hown'; obtain ⟨hv1, hv2, hr2, hk2, hb2⟩ := hv.appended (by decide) (ownsRow_le hrow (base' := w.heap.size) (by omega)) (by omega) (by omega) (ownsRow_le hown' (by omega)) hgrow; have hc1 := hv1.cell; have hf1 := hv1.frozen)
          have kf : Kept (fun k => k = R + 4 ∨ R + 7 ≤ k) Wn (w1'.setCell ⟨R + 4, 0, none⟩ (.slice (some ⟨g', 0, none⟩) (i + 1) cap')) := (((Kept.refl _ Wn).alloc _).grown hgrow (fun k e => .inl (.inr (own_cells GVN.out.2.row k e).1))).put (g := R + 4) (.inl (.inl rfl)) 0 _
          have hvl : (vs ++ [Value.slice (some ⟨g, 0, none⟩) 16 cap]).length = i + 1 := by rw [List.length_append, GVN.out.2.len]; rfl
          refine ⟨KeepsFrom.others ((HKW.out.1.trans (others_below HBN.out)).trans hk2), .inl ⟨rfl, (HKW.out.2.and (Kept.of_below HBN.out)).and (kf.mono (fun k _ h => h.elim (fun e => .inl (.inr e)) .inr)), ?_⟩⟩
          show Gath w R (R + 7) l (pre ++ [_]).length _
          rw [List.length_append, HI2.out]
          show Gath w R (R + 7) l (i + 1) _
          obtain ⟨e0, e1, e2, e3⟩ := HTOP.out HOK.out
          refine ⟨GN.out.old.trans hb2, Nat.le_trans HZN hk2.size, kf.blk GN.out.r0 (by omega), kf.blk GN.out.r1 (by omega), kf.blk GN.out.r2 (by omega), ?_, _, vs ++ [Value.slice (some ⟨g, 0, none⟩) 16 cap], hv2, ?_⟩
          · have ht := kf.blk GN.out.top (by omega)
            rw [e0, e1, e2, e3] at ht
            exact ht
          · refine ((GVN.out.2.rise ((Below.refl _ _).alloc (Nat.le_refl _) _)).step (g := g) (cap := cap) (v4 := .slice (some ⟨g', 0, none⟩) (i + 1) cap') hlt hgrow ?_ (HON.out.rise ((Below.refl _ _).alloc (Nat.le_refl _) _)) HPGB.out).kept (grownBy_setCell' w1' (R + 4) _) (fun r e => .inl (by have := Option.some.inj e; omega))
            unfold RowV
            rw [hvl]
            exact hown'
        · obtain rfl : B = true := by
            have hf : (decide (k0 = 5) && decide (k1 = k1) && decide (k2 = (i : Int)) && decide (k3 = k3)) = false := by
              rw [Bool.eq_false_iff]
              intro h
              rw [Bool.and_eq_true, Bool.and_eq_true, Bool.and_eq_true, decide_eq_true_eq, decide_eq_true_eq, decide_eq_true_eq, decide_eq_true_eq] at h
              exact hok ⟨h.1.1.1, h.1.1.2, h.1.2, h.2⟩
            rw [← hB, hf]
            rfl
          have HBAD : Hid (pagesOk l = false) := Lib.hid (by
            refine okP_no hlt (k := i) ?_
            cases hq : pgB (l.getD 0 []) i l[i] with
            | true =>
              obtain ⟨_, h1, h2, h3, h4⟩ := pgB_iff.1 hq
              exact absurd ⟨HKS.out.1.symm.trans h1, HKS.out.2.1.symm.trans (h3.trans HTT.out.1.symm), HKS.out.2.2.1.symm.trans h2, HKS.out.2.2.2.symm.trans (h4.trans HTT.out.2.symm)⟩ hok
            | false => rfl)
          clear hok hB
          have a0 := GN.out.r0.cell 0 (by simp)
          have a1 := GN.out.r0.cell 1 (by simp)
          have a2 := GN.out.r0.cell 2 (by simp)
          have a3 := GN.out.r0.cell 3 (by simp)
          have af := fun k => GN.out.r0.free k
          have b0 := GN.out.r1.cell
          have bf := GN.out.r1.frozen
          have d0 := GN.out.r2.cell
          have df := GN.out.r2.frozen
          simp only [List.getElem_cons_zero, List.getElem_cons_succ] at a0 a1 a2 a3
          gi_wp2
          obtain ⟨h1, h2⟩ := stop_at GN.out (by omega) HBAD.out
          exact ⟨KeepsFrom.others ((HKW.out.1.trans (others_below HBN.out)).trans h2), .inr ⟨rfl, h1⟩⟩
      · have q0 : ((i : Int) == 0) = false := by simp [hi0]
        have HI0 := Lib.hid hi0
        clear hi0
        gi_wp2
        have GT : Hid (GathT w R (R + 7) l i (topK l i) (topN l i 1) 0 (topN l i 9) W) := Lib.hid HI.out
        have GP := Lib.hid HB5.out
        have GV := Lib.hid HV.out
        have HOT := Lib.hid HOW.out
        have HKW : Hid (KeepsOthers W W ∧ Kept (fun k => (k = R + 3 ∨ k = R + 4) ∨ R + 7 ≤ k) W W) := Lib.hid ⟨KeepsOthers.refl _, Kept.refl _ _⟩
        obtain ⟨T0, hT0⟩ : ∃ x, topK l i = x := ⟨_, rfl⟩
        obtain ⟨T1, hT1⟩ : ∃ x, topN l i 1 = x := ⟨_, rfl⟩
        obtain ⟨T3, hT3⟩ : ∃ x, topN l i 9 = x := ⟨_, rfl⟩
        rw [hT0, hT1, hT3] at GT
        have HTT : Hid (T1 = bk (l.getD 0 []) 1 ∧ T3 = bk (l.getD 0 []) 9) := Lib.hid ⟨by rw [← hT1]; exact if_neg HI0.out, by rw [← hT3]; exact if_neg HI0.out⟩
        have HTOP : Hid (k0 = 5 ∧ k1 = T1 ∧ k2 = (i : Int) ∧ k3 = T3 → T0 = topK l (i + 1) ∧ T1 = topN l (i + 1) 1 ∧ (0 : Int) = 0 ∧ T3 = topN l (i + 1) 9) := Lib.hid (fun _ => by
          rw [HTT.out.1, HTT.out.2, ← hT0]
          unfold topK topN
          rw [if_neg HI0.out, if_neg (by omega), if_neg (by omega), if_neg (by omega)]
          exact ⟨rfl, rfl, rfl, rfl⟩)
        clear p0 p1 p2 p3 p4 t0 t1 t2 t3 tf bx q0 hT0 hT1 hT3
        have oD := fun q : In (fun u => Below (W).heap.size (W) u) => slof_at T1 T3 (i : Int) q.w (by omega) (by have := HL.out; omega)
        have gp0 := GP.out.cell 0 (by simp)
        have gp1 := GP.out.cell 1 (by simp)
        have gp2 := GP.out.cell 2 (by simp)
        have gp3 := GP.out.cell 3 (by simp)
        have gt1 := GT.out.top.cell 1 (by simp)
        have gt3 := GT.out.top.cell 3 (by simp)
        have gbx := GV.out.1.cell
        simp only [List.getElem_cons_zero, List.getElem_cons_succ] at gp0 gp1 gp2 gp3 gt1 gt3
        have lp := lt_of_block GP.out
        have lt := lt_of_block GT.out.top
        have lb := GV.out.1.lt
        obtain ⟨B, hB⟩ : ∃ B, (!(decide (k0 = 5) && decide (k1 = T1) && decide (k2 = (i : Int)) && decide (k3 = T3))) = B := ⟨_, rfl⟩
        have hneq := fun u : World => neq_head k0 k1 k2 k3 5 T1 (i : Int) T3 u
        rw [hB] at hneq
        have hgd := guard_head .neq (.inr rfl)
        refine wpIn_region_in (w := W) (fun u => Below (W).heap.size (W) u) (Below.refl _ _).drew (by kernel_rfl) (by kernel_rfl) (by simp) ?hq (fun ne => ?_)
        case hq =>
          rintro ⟨_, _, h⟩
          obtain ⟨_, h | h⟩ := h
          · cases h.1
          · cases h.1
        have r0 := fun q : In (fun u => Below (W).heap.size (W) u) => (q.ok.cell (p := ⟨pb, 0, none⟩) lp).trans gp0
        have r1 := fun q : In (fun u => Below (W).heap.size (W) u) => (q.ok.cell (p := ⟨pb, 1, none⟩) lp).trans gp1
        have r2 := fun q : In (fun u => Below (W).heap.size (W) u) => (q.ok.cell (p := ⟨pb, 2, none⟩) lp).trans gp2
        have r3 := fun q : In (fun u => Below (W).heap.size (W) u) => (q.ok.cell (p := ⟨pb, 3, none⟩) lp).trans gp3
        have s1 := fun q : In (fun u => Below (W).heap.size (W) u) => (q.ok.cell (p := ⟨R + 3, 1, none⟩) lt).trans gt1
        have s3 := fun q : In (fun u => Below (W).heap.size (W) u) => (q.ok.cell (p := ⟨R + 3, 3, none⟩) lt).trans gt3
        have sb := fun q : In (fun u => Below (W).heap.size (W) u) => (q.ok.cell (p := ⟨R + 4, 0, none⟩) lb).trans gbx
        repeat (go_big_quiet_step (first
          | (go_at_call 90; with_reducible exact In.more (fun h1 h2 => below_all h1 h2) (oD _))))
        refine wpQuiet_nil ?_
        intro nq
        obtain ⟨Wn, hWn⟩ : ∃ x, nq.w = x := ⟨_, rfl⟩
        have HBN := Lib.hid nq.ok
        rw [hWn] at HBN ⊢
        have GN := Lib.hid (GT.out.rise (by omega) (Nat.le_refl _) HBN.out)
        have GVN : Hid (Boxed Wn (R + 4) 60 (.slice A i c) ∧ GAcc (R + 7) Wn l i (.slice A i c) vs) := Lib.hid ⟨(HBN.out.block _ lb).trans GV.out.1, GV.out.2.rise HBN.out⟩
        have HON := Lib.hid (HOT.out.rise HBN.out)
        have p4 : Wn.cell? ⟨pb, 4, none⟩ = some (.slice (some ⟨g, 0, none⟩) 16 cap) := (HBN.out.cell (p := ⟨pb, 4, none⟩) lp).trans (GP.out.cell 4 (by simp))
        clear r0 r1 r2 r3 s1 s3 sb oD gp0 gp1 gp2 gp3 gt1 gt3 gbx lp lt lb hneq hgd ne hWn nq
        by_cases hok : k0 = 5 ∧ k1 = T1 ∧ k2 = (i : Int) ∧ k3 = T3
        · obtain rfl : B = false := by rw [← hB]; simp [hok]
          have HOK := Lib.hid hok
          clear hok hB
          have HPGB : Hid (pgB (l.getD 0 []) i l[i] = true) := Lib.hid (pgB_iff.2 ⟨HPG.out.2, HKS.out.1.trans HOK.out.1, HKS.out.2.2.1.trans HOK.out.2.2.1, HKS.out.2.1.trans (HOK.out.2.1.trans HTT.out.1), HKS.out.2.2.2.trans (HOK.out.2.2.2.trans HTT.out.2)⟩)
          have hv := GVN.out.1
          have bx := hv.cell
          have hrow : Wn.ownsRow (R + 7) 61 1 (.slice A i c) i vs := by
            have := GVN.out.2.row
            unfold RowV at this
            rwa [GVN.out.2.len] at this
          have HZN := GN.out.size
          have hwR : w.heap.size ≤ R := by omega
          have hib : i ≤ 1000 := by have := HL.out; omega
          obtain ⟨i0, hinf, hz0, hz1, hz2⟩ := info_parts infoRow
          gi_wp2_with (gi_at_builtin; refine wpListIn_append_own _ rfl _ _ 60 rfl (R + 7) 61 i0 (.slice none 0 0) 1 24 Tryz.underlying60 hinf hz0 hz1 hz2 rfl (by decide) _ _ _ rfl (hrow.alloc _) ⟨Wn.heap.size, 0, none⟩ 1 1 [.slice (some ⟨g, 0, none⟩) 16 cap] rfl rfl (cell_one_new _ _ _) (by simp [Value.oneCell']) (by unfold maxLen; omega) (by omega) (by simp; omega) ?_; intro v' w1' hown' hgrow _; obtain ⟨g', cap', rfl⟩ := ownsRow_succ hown'; obtain ⟨hv1, hv2, hr2, hk2, hb2⟩ := hv.appended (by decide) (ownsRow_le hrow (base' := w.heap.size) (by omega)) (by omega) (by omega) (ownsRow_le hown' (by omega)) hgrow; have hc1 := hv1.cell; have hf1 := hv1.frozen)
          have kf : Kept (fun k => k = R + 4 ∨ R + 7 ≤ k) Wn (w1'.setCell ⟨R + 4, 0, none⟩ (.slice (some ⟨g', 0, none⟩) (i + 1) cap')) := (((Kept.refl _ Wn).alloc _).grown hgrow (fun k e => .inl (.inr (own_cells GVN.out.2.row k e).1))).put (g := R + 4) (.inl (.inl rfl)) 0 _
          have hvl : (vs ++ [Value.slice (some ⟨g, 0, none⟩) 16 cap]).length = i + 1 := by rw [List.length_append, GVN.out.2.len]; rfl
          refine ⟨KeepsFrom.others ((HKW.out.1.trans (others_below HBN.out)).trans hk2), .inl ⟨rfl, (HKW.out.2.and (Kept.of_below HBN.out)).and (kf.mono (fun k _ h => h.elim (fun e => .inl (.inr e)) .inr)), ?_⟩⟩
          show Gath w R (R + 7) l (pre ++ [_]).length _
          rw [List.length_append, HI2.out]
          show Gath w R (R + 7) l (i + 1) _
          obtain ⟨e0, e1, e2, e3⟩ := HTOP.out HOK.out
          refine ⟨GN.out.old.trans hb2, Nat.le_trans HZN hk2.size, kf.blk GN.out.r0 (by omega), kf.blk GN.out.r1 (by omega), kf.blk GN.out.r2 (by omega), ?_, _, vs ++ [Value.slice (some ⟨g, 0, none⟩) 16 cap], hv2, ?_⟩
          · have ht := kf.blk GN.out.top (by omega)
            rw [e0, e1, e3] at ht
            exact ht
          · refine ((GVN.out.2.rise ((Below.refl _ _).alloc (Nat.le_refl _) _)).step (g := g) (cap := cap) (v4 := .slice (some ⟨g', 0, none⟩) (i + 1) cap') hlt hgrow ?_ (HON.out.rise ((Below.refl _ _).alloc (Nat.le_refl _) _)) HPGB.out).kept (grownBy_setCell' w1' (R + 4) _) (fun r e => .inl (by have := Option.some.inj e; omega))
            unfold RowV
            rw [hvl]
            exact hown'
        · obtain rfl : B = true := by
            have hf : (decide (k0 = 5) && decide (k1 = T1) && decide (k2 = (i : Int)) && decide (k3 = T3)) = false := by
              rw [Bool.eq_false_iff]
              intro h
              rw [Bool.and_eq_true, Bool.and_eq_true, Bool.and_eq_true, decide_eq_true_eq, decide_eq_true_eq, decide_eq_true_eq, decide_eq_true_eq] at h
              exact hok ⟨h.1.1.1, h.1.1.2, h.1.2, h.2⟩
            rw [← hB, hf]
            rfl
          have HBAD : Hid (pagesOk l = false) := Lib.hid (by
            refine okP_no hlt (k := i) ?_
            cases hq : pgB (l.getD 0 []) i l[i] with
            | true =>
              obtain ⟨_, h1, h2, h3, h4⟩ := pgB_iff.1 hq
              exact absurd ⟨HKS.out.1.symm.trans h1, HKS.out.2.1.symm.trans (h3.trans HTT.out.1.symm), HKS.out.2.2.1.symm.trans h2, HKS.out.2.2.2.symm.trans (h4.trans HTT.out.2.symm)⟩ hok
            | false => rfl)
          clear hok hB
          have a0 := GN.out.r0.cell 0 (by simp)
          have a1 := GN.out.r0.cell 1 (by simp)
          have a2 := GN.out.r0.cell 2 (by simp)
          have a3 := GN.out.r0.cell 3 (by simp)
          have af := fun k => GN.out.r0.free k
          have b0 := GN.out.r1.cell
          have bf := GN.out.r1.frozen
          have d0 := GN.out.r2.cell
          have df := GN.out.r2.frozen
          simp only [List.getElem_cons_zero, List.getElem_cons_succ] at a0 a1 a2 a3
          gi_wp2
          obtain ⟨h1, h2⟩ := stop_at GN.out (by omega) HBAD.out
          exact ⟨KeepsFrom.others ((HKW.out.1.trans (others_below HBN.out)).trans h2), .inr ⟨rfl, h1⟩⟩
    · rw [show errV (PgX.mk e ps g cap).e = .iface 31 (.int .i64 e) from if_neg he]
      have HBAD : Hid (pagesOk l = false) := Lib.hid (by
        have hlt : pre.length < l.length := by have := HN.out.1; rw [HP.out] at this; rw [HL.out]; exact this
        refine okP_no hlt (k := pre.length) ?_
        have h1 := (HBR.out pre.length hlt).2 (by rw [← HN.out.2.1]; exact he)
        cases hq : pgB (l.getD 0 []) pre.length l[pre.length] with
        | true => exact absurd (pgB_iff.1 hq).1 h1
        | false => rfl)
      have a0 := HI.out.r0.cell 0 (by simp)
      have a1 := HI.out.r0.cell 1 (by simp)
      have a2 := HI.out.r0.cell 2 (by simp)
      have a3 := HI.out.r0.cell 3 (by simp)
      have af := fun k => HI.out.r0.free k
      have b0 := HI.out.r1.cell
      have bf := HI.out.r1.frozen
      have d0 := HI.out.r2.cell
      have df := HI.out.r2.frozen
      simp only [List.getElem_cons_zero, List.getElem_cons_succ] at a0 a1 a2 a3
      gi_wp2
      obtain ⟨h1, h2⟩ := stop_at HI.out (by omega) HBAD.out
      exact ⟨KeepsFrom.others h2, .inr ⟨rfl, h1⟩⟩
  case done =>
    rintro D xs W hD hS hI hK
    rw [hS] at hI
    have HI := Lib.hid hI
    have HKD := Lib.hid hK
    obtain ⟨v, vs, hv, hc⟩ := hI.row
    obtain ⟨A, c, rfl, hcc, _⟩ := hc.row.out
    rw [hc.len] at hv hc hcc
    have HV := Lib.hid (And.intro hv hc)
    have a0 := hI.r0.cell 0 (by simp)
    have a1 := hI.r0.cell 1 (by simp)
    have a2 := hI.r0.cell 2 (by simp)
    have a3 := hI.r0.cell 3 (by simp)
    have af := fun k => hI.r0.free k
    have b0 := hI.r1.cell
    have bf := hI.r1.frozen
    have d0 := hI.r2.cell
    have df := hI.r2.frozen
    have t0 := hI.top.cell 0 (by simp)
    have t1 := hI.top.cell 1 (by simp)
    have t2 := hI.top.cell 2 (by simp)
    have t3 := hI.top.cell 3 (by simp)
    have bx := hv.cell
    simp only [List.getElem_cons_zero, List.getElem_cons_succ] at a0 a1 a2 a3 t0 t1 t2 t3
    clear hI hK hv hc hS
    go_wp2_with fail
    go_region
    all_goals go_wp2_with fail
    obtain ⟨f1, f2, f3, f4, f6, f7⟩ := fin_at HI.out (by omega) (Nat.le_refl _) (topK l m) (topN l m 1) (topN l m 9) (.slice A m c)
    have f8 := f7 HV.out.2
    change bodyPostM _ _ _ _ _ _ _ (finW W R (topK l m) (topN l m 1) (topN l m 9) (.slice A m c)).drew
    obtain ⟨u, hu⟩ : ∃ u, finW W R (topK l m) (topN l m 1) (topN l m 9) (.slice A m c) = u := ⟨_, rfl⟩
    rw [hu] at f1 f2 f3 f4 f6 f8 ⊢
    clear f7 hu
    have hKu : u.drew.heap[D]? = some (.deferred (some [])) := f6.same D _ HKD.out rfl
    refine ⟨by simp, .inl ⟨_, _, rfl, run_takeDeferred hKu, ?_⟩⟩
    have g2 : Blk (u.drew.putObj D (.deferred none)) R 159 [.int .u8 (topK l m), .int .u32 (topN l m 1), .int .u32 0, .int .u32 (topN l m 9)] := (World.putObj_heap_other (by omega)).trans f2
    have g3 : Boxed (u.drew.putObj D (.deferred none)) (R + 1) 60 (.slice A m c) := (World.putObj_heap_other (by omega)).trans f3
    have g4 : Boxed (u.drew.putObj D (.deferred none)) (R + 2) 4 (.bool true) := (World.putObj_heap_other (by omega)).trans f4
    have e0 := g2.cell 0 (by simp)
    have e1 := g2.cell 1 (by simp)
    have e2 := g2.cell 2 (by simp)
    have e3 := g2.cell 3 (by simp)
    have e4 := g3.cell
    have e5 := g4.cell
    simp only [List.getElem_cons_zero, List.getElem_cons_succ] at e0 e1 e2 e3
    have hcF : GAcc (R + 7) (u.drew.putObj D (.deferred none)) l m (.slice A m c) vs := (f8.rise (Below.refl _ _).drew).kept (grownBy_putObj' _ D _) (fun r e => .inr ⟨_, by cases e; exact hKu, rfl⟩)
    have hbF : Below w.heap.size w (u.drew.putObj D (.deferred none)) := f1.drew.grown (grownBy_putObj' _ D _) f1.size (fun k e => by cases e; omega)
    refine ⟨.tuple #[hV (topK l m) (topN l m 1) 0 (topN l m 9), .slice A m c, .bool true], by simp [results, Tryz.results88, go_sem, e0, e1, e2, e3, e4, e5], .inl ?_⟩
    have hLm := HL.out
    subst hLm
    exact ⟨hcF.fin.1, A, c, vs, R + 7, rfl, hcF, by omega, hbF⟩
  case stop =>
    rintro D xs W hD hI hK
    refine wpIn_ret ?_
    refine ⟨by simp, .inl ⟨_, _, rfl, run_takeDeferred hK, ?_⟩⟩
    have hk := KeepsOthers.refl W
    have hP : W.grownBy (W.putObj D (.deferred none)) (some D) := grownBy_putObj' W D _
    have hD7 : R + 7 ≤ D := by omega
    have HI : Hid (GStop w R (R + 7) l (W.putObj D (.deferred none))) := Lib.hid (hI.kept (by omega) (Nat.le_refl _) hP (fun r e => by cases e; exact ⟨hD7, _, hK, rfl⟩))
    have a0 := HI.out.r0.cell 0 (by simp)
    have a1 := HI.out.r0.cell 1 (by simp)
    have a2 := HI.out.r0.cell 2 (by simp)
    have a3 := HI.out.r0.cell 3 (by simp)
    have b0 := HI.out.r1.cell
    have d0 := HI.out.r2.cell
    simp only [List.getElem_cons_zero, List.getElem_cons_succ] at a0 a1 a2 a3
    refine ⟨.tuple #[hV 0 0 0 0, .slice none 0 0, .bool false], by simp [results, Tryz.results88, go_sem, a0, a1, a2, a3, b0, d0], .inr ⟨HI.out.bad, rfl, HI.out.old⟩⟩
end Go.Proofs.YthmpimjmajoimaaGreatDoor

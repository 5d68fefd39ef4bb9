/-
  platelayerref01.Wrap: one step more, ahead of all others.
-/
import Derived.Test.YtppanjdhfecmpaaDoorFaultI
import Derived.RegionTactic
import Derived.BigRegion
import Derived.ChangeAlike
import Derived.Deep.RegionHeld3
import Derived.Deep.RegionLaw
import Derived.Laws.OwnMore
import Derived.Maps.AppendAt
namespace Go.Proofs.YtppanjdhfecmpaaDoor
open Go.RowKit Go.Extern.Stop Go.Stop Go.Extern

theorem stepInfo : (Tryd.prog.info? 55).map (fun i => (i.zero, i.size, i.bytes)) = some (some (.agg #[.string ByteArray.empty, .int .i64 0]), 2, 24) := by kernel_rfl

/-- The cells of steps. -/
def stepCells (l : List (ByteArray × Int)) : List Value := l.flatMap fun s => [.string s.1, .int .i64 s.2]
theorem stepCells_len (l : List (ByteArray × Int)) : (stepCells l).length = l.length * 2 := by
  induction l with
  | nil => rfl
  | cons s l ih => simp only [stepCells, List.flatMap_cons, List.length_append, List.length_cons] at ih ⊢; simp at ih ⊢; omega
theorem stepCells_at (l : List (ByteArray × Int)) : ∀ i (h : i < l.length), (stepCells l)[i * 2]? = some (.string l[i].1) ∧ (stepCells l)[i * 2 + 1]? = some (.int .i64 l[i].2) := by
  induction l with
  | nil => intro i h; simp at h
  | cons s l ih =>
    intro i h
    rcases i with _ | i
    · simp [stepCells]
    · have := ih i (by simpa using h)
      have e : stepCells (s :: l) = .string s.1 :: .int .i64 s.2 :: stepCells l := rfl
      rw [e, show (i + 1) * 2 = i * 2 + 1 + 1 from by omega]
      simpa using this
theorem stepCells_one (l : List (ByteArray × Int)) : ∀ u ∈ stepCells l, u.oneCell' = true := by
  intro u hu
  obtain ⟨s, _, h⟩ := List.mem_flatMap.1 hu
  simp at h
  rcases h with rfl | rfl <;> rfl
theorem stepCells_append (a b : List (ByteArray × Int)) : stepCells (a ++ b) = stepCells a ++ stepCells b := by simp [stepCells]
/-- A row of one's own that reads as steps. -/
theorem Steps.of_own {w : World} {base : Nat} {A : Option Addr} {n c : Nat} {l : List (ByteArray × Int)} (h : w.ownsRow base 55 2 (.slice A n c) n (stepCells l)) : Steps w w.heap.size A l ∧ n = l.length ∧ n ≤ c := by
  have hn : n = l.length := by have h1 := h.1; rw [stepCells_len] at h1; omega
  refine ⟨fun hp => ?_, hn, ?_⟩
  · rcases h.2 with ⟨h1, h0⟩ | ⟨g, cap, cur, h1, hb, hg, _⟩
    · omega
    · injection h1 with hA _ _
      subst hA
      refine ⟨g, 0, rfl, ?_, fun i hi => ?_⟩
      · rcases Nat.lt_or_ge g w.heap.size with hlt | hge
        · exact hlt
        · rw [Array.getElem?_eq_none hge] at hg; cases hg
      · have hc := h.cells (g := g) rfl
        obtain ⟨k0, k1⟩ := stepCells_at l i hi
        have c0 := hc _ _ k0
        have c1 := hc _ _ k1
        refine ⟨?_, ?_⟩
        · rcases i with _ | i
          · simpa [Addr.add] using c0
          · simpa [Addr.add] using c0
        · simpa [Addr.add] using c1
  · rcases h.2 with ⟨h1, h0⟩ | ⟨g, cap, cur, h1, hb, hg, hc, _⟩
    · omega
    · injection h1 with _ _ hc'
      omega
theorem Steps.cells {w : World} {B : Nat} {b o : Nat} {l : List (ByteArray × Int)} (h : ∀ i (h : i < l.length), w.cell? ⟨b, o + i * 2, none⟩ = some (.string l[i].1) ∧ w.cell? ⟨b, o + i * 2 + 1, none⟩ = some (.int .i64 l[i].2)) :
    ∀ j u, (stepCells l)[j]? = some u → w.cell? ((⟨b, o, none⟩ : Addr).add j) = some u := by
  intro j u hu
  have hadd : (⟨b, o, none⟩ : Addr).add j = ⟨b, o + j, none⟩ := by unfold Addr.add; split <;> simp_all
  rw [hadd]
  have hj : j < l.length * 2 := by
    rw [← stepCells_len]
    exact (List.getElem?_eq_some_iff.1 hu).1
  obtain ⟨k0, k1⟩ := stepCells_at l (j / 2) (by omega)
  obtain ⟨g0, g1⟩ := h (j / 2) (by omega)
  rcases Nat.mod_two_eq_zero_or_one j with hm | hm
  · have e : j = j / 2 * 2 := by omega
    rw [e] at hu ⊢
    rw [k0] at hu
    rw [g0, hu]
  · have e : j = j / 2 * 2 + 1 := by omega
    rw [e] at hu ⊢
    rw [k1] at hu
    rw [← Nat.add_assoc, g1, hu]

/-- Block g is a fault of the document's: a slice and a code. -/
def Rf (w : World) (g : Nat) (x y : Value) : Prop := w.heap[g]? = some (.cells #[x, y] 29 (0, 0))
section
variable {w w' : World} {g : Nat} {x y : Value}
theorem Rf.lt (h : Rf w g x y) : g < w.heap.size := by
  rcases Nat.lt_or_ge g w.heap.size with hlt | hge
  · exact hlt
  · unfold Rf at h; rw [Array.getElem?_eq_none hge] at h; cases h
theorem Rf.cell (h : Rf w g x y) (i : Nat) : w.cell? ⟨g, i, none⟩ = #[x, y][i]? := cell_of_row w g i #[x, y] 29 (0, 0) h
theorem Rf.frozen (h : Rf w g x y) (i : Nat) : w.frozen? ⟨g, i, none⟩ = false := by
  unfold Rf at h
  simp [World.frozen?, h]
theorem Rf.below {B : Nat} (h : Rf w g x y) (hb : Below B w w') (hg : g < B) : Rf w' g x y := (hb.block g hg).trans h
theorem Rf.set0 (h : Rf w g x y) (u : Value) : Rf (w.setCell ⟨g, 0, none⟩ u) g u y := by
  unfold Rf at h ⊢
  simp [World.setCell, Array.getElem?_modify, h]
theorem Rf.set1 (h : Rf w g x y) (u : Value) : Rf (w.setCell ⟨g, 1, none⟩ u) g x u := by
  unfold Rf at h ⊢
  simp [World.setCell, Array.getElem?_modify, h]
theorem Rf.grown {row : Option Nat} (h : Rf w g x y) (hg : w.grownBy w' row) (hne : some g ≠ row) : Rf w' g x y := (hg.block g h.lt hne).trans h
theorem Rf.alloc (h : Rf w g x y) (o : Obj) : Rf (w.alloc o) g x y := (Below.heap_alloc w o g h.lt).trans h
theorem Rf.new (w : World) (x y : Value) : Rf (w.alloc (.cells #[x, y] 29)) w.heap.size x y := heap_alloc_new w _
theorem Rf.far (h : Rf w g x y) {p : Addr} (hp : g ≠ p.block) (u : Value) : Rf (w.setCell p u) g x y := (Below.heap_setCell w p u g hp).trans h
end


def RWrapIs (w : World) (e : Int) (l : List (ByteArray × Int)) (r : Ending) (w' : World) : Prop :=
  ∃ (A : Option Addr) (c : Nat), r = .returned (.agg #[.slice A l.length c, .int .i64 e]) ∧ (l = [] → A = none ∧ c = 0) ∧ Steps w' w'.heap.size A l ∧ Below w.heap.size w w'

theorem rwrap_ok (op : ByteArray) (n : Int) (v : Value) (w : World) : Calls Tryd.prog 20 #[.string op, .int .i64 n, .agg #[v, .int .i64 0]] w (RWrapIs w 0 []) := by
  go_enter Tryd.func20, Tryd.ntmps20
  go_wp2
  exact bodyPost_ret (v := .agg #[.slice none 0 0, .int .i64 0]) (by simp [results, Tryd.results20, go_sem]) rfl ⟨none, 0, rfl, fun _ => ⟨rfl, rfl⟩, fun h => by simp at h, ((Below.refl _ _).alloc (Nat.le_refl _) _).alloc (by simp) _⟩

set_option maxHeartbeats 1000000 in
theorem rwrap_nil (op : ByteArray) (n e : Int) (w : World) (he : (e == 0) = false) : Calls Tryd.prog 20 #[.string op, .int .i64 n, .agg #[.slice none 0 0, .int .i64 e]] w (RWrapIs w e [(op, n)]) := by
  go_enter Tryd.func20, Tryd.ntmps20
  go_wp2_with fail
  go_region
  go_wp2
  refine bodyPost_ret (v := .agg #[.slice (some ⟨w.heap.size + 1 + 1, 0, none⟩) 1 1, .int .i64 e]) (by simp [results, Tryd.results20, go_sem]) rfl ⟨some ⟨w.heap.size + 1 + 1, 0, none⟩, 1, rfl, fun h => by simp at h, ?_, ?_⟩
  · intro _
    refine ⟨w.heap.size + 1 + 1, 0, rfl, by simp, fun i hi => ?_⟩
    obtain rfl : i = 0 := by simp at hi; omega
    have hc := fun k : Nat => cell_of_row (((w.alloc (.cells #[.slice none 0 0, .int .i64 e] 29)).alloc (.cells #[.slice (some ⟨w.heap.size + 1 + 1, 0, none⟩) 1 1, .int .i64 e] 29)).alloc (.cells #[.string op, .int .i64 n] 55)) (w.heap.size + 1 + 1) k #[.string op, .int .i64 n] 55 (0, 0) (by have := heap_alloc_new ((w.alloc (.cells #[.slice none 0 0, .int .i64 e] 29)).alloc (.cells #[.slice (some ⟨w.heap.size + 1 + 1, 0, none⟩) 1 1, .int .i64 e] 29)) (.cells #[.string op, .int .i64 n] 55); simpa using this)
    exact ⟨hc 0, hc 1⟩
  · exact ((((Below.refl _ _).alloc (Nat.le_refl _) _).alloc (by simp) _).alloc (by simp; omega) _).drew

theorem rwrap_close {w w1 : World} {op : ByteArray} {n e : Int} {l : List (ByteArray × Int)} {X : Obj} {Y : Obj} {Z : Obj} {gg cap : Nat} {u1 u2 : Value}
    (hown : w1.ownsRow (w.heap.size + 2) 55 2 (.slice (some ⟨gg, 0, none⟩) (1 + l.length) cap) (1 + l.length) ([.string op, .int .i64 n] ++ stepCells l))
    (hg : (((w.alloc X).alloc Y).alloc Z).drew.grownBy w1 (Value.slice (some ⟨w.heap.size + 1 + 1, 0, none⟩) 1 1).ownBlock) :
    RWrapIs w e ((op, n) :: l) (.returned (.agg #[.slice (some ⟨gg, 0, none⟩) (1 + l.length) cap, .int .i64 e])) ((w1.setCell ⟨w.heap.size + 1, 0, none⟩ u1).setCell ⟨w.heap.size + 1, 1, none⟩ u2) := by
  have h1 := ownsRow_setCell_below (ownsRow_setCell_below hown (a := ⟨w.heap.size + 1, 0, none⟩) (by simp) u1) (a := ⟨w.heap.size + 1, 1, none⟩) (by simp) u2
  have hst := (Steps.of_own (l := (op, n) :: l) h1).1
  refine ⟨_, cap, by rw [List.length_cons, Nat.add_comm 1], (fun h => by cases h), hst, ?_⟩
  exact ((((((Below.refl _ _).alloc (Nat.le_refl _) _).alloc (by simp) _).alloc (by simp; omega) _).drew.grown hg (by simp; omega) (fun k hk => by simp [Value.ownBlock] at hk; omega)).setCell (by simp) _).setCell (by simp) _

set_option maxHeartbeats 1000000 in
theorem rwrap_more (op : ByteArray) (n e : Int) (w : World) (he : (e == 0) = false) (A : Option Addr) (l : List (ByteArray × Int)) (c : Nat) (hn : 0 < l.length) (hl : l.length ≤ 1000) (hs : Steps w w.heap.size A l) :
    Calls Tryd.prog 20 #[.string op, .int .i64 n, .agg #[.slice A l.length c, .int .i64 e]] w (RWrapIs w e ((op, n) :: l)) := by
  obtain ⟨i0, hi, hz0, hz1, hz2⟩ := info_parts stepInfo
  have HI := Lib.hid hi
  have HZ0 := Lib.hid hz0
  have HZ1 := Lib.hid hz1
  have HZ2 := Lib.hid hz2
  clear hi hz0 hz1 hz2
  obtain ⟨b, o, rfl, hb, hc⟩ := hs hn
  have HC := Lib.hid hc
  clear hc
  have HO : Hid ((((w.alloc (.cells #[.slice (some ⟨b, o, none⟩) l.length c, .int .i64 e] 29)).alloc (.cells #[.slice none 0 0, .int .i64 0] 29)).alloc (.cells #[.string op, .int .i64 n] 55)).ownsRow (w.heap.size + 2) 55 2 (.slice (some ⟨w.heap.size + 1 + 1, 0, none⟩) 1 1) 1 [.string op, .int .i64 n]) := by
    have := World.ownsRow_lit (base := w.heap.size + 2) (e := 55) (size := 2) ((w.alloc (.cells #[.slice (some ⟨b, o, none⟩) l.length c, .int .i64 e] 29)).alloc (.cells #[.slice none 0 0, .int .i64 0] 29)) #[.string op, .int .i64 n] 1 (by simp) (by unfold maxLen; omega) rfl
    simpa using Lib.hid this
  have HC1 : Hid (∀ j u, (stepCells l)[j]? = some u → (((w.alloc (.cells #[.slice (some ⟨b, o, none⟩) l.length c, .int .i64 e] 29)).alloc (.cells #[.slice none 0 0, .int .i64 0] 29)).alloc (.cells #[.string op, .int .i64 n] 55)).drew.cell? ((⟨b, o, none⟩ : Addr).add j) = some u) := by
    have hbw : Below w.heap.size w (((w.alloc (.cells #[.slice (some ⟨b, o, none⟩) l.length c, .int .i64 e] 29)).alloc (.cells #[.slice none 0 0, .int .i64 0] 29)).alloc (.cells #[.string op, .int .i64 n] 55)).drew := ((((Below.refl _ _).alloc (Nat.le_refl _) _).alloc (by simp) _).alloc (by simp; omega) _).drew
    exact Lib.hid (Steps.cells (B := 0) fun i hi => ⟨(hbw.cell (p := ⟨b, o + i * 2, none⟩) hb).trans (HC.out i hi).1, (hbw.cell (p := ⟨b, o + i * 2 + 1, none⟩) hb).trans (HC.out i hi).2⟩)
  have HR0 : Hid (Rf (((w.alloc (.cells #[.slice (some ⟨b, o, none⟩) l.length c, .int .i64 e] 29)).alloc (.cells #[.slice none 0 0, .int .i64 0] 29)).alloc (.cells #[.string op, .int .i64 n] 55)).drew w.heap.size (.slice (some ⟨b, o, none⟩) l.length c) (.int .i64 e)) := Lib.hid (((Rf.new _ _ _).alloc _).alloc _)
  have HR1 : Hid (Rf (((w.alloc (.cells #[.slice (some ⟨b, o, none⟩) l.length c, .int .i64 e] 29)).alloc (.cells #[.slice none 0 0, .int .i64 0] 29)).alloc (.cells #[.string op, .int .i64 n] 55)).drew (w.heap.size + 1) (.slice none 0 0) (.int .i64 0)) := by
    have := (Rf.new (w.alloc (.cells #[.slice (some ⟨b, o, none⟩) l.length c, .int .i64 e] 29)) (.slice none 0 0) (.int .i64 0)).alloc (.cells #[.string op, .int .i64 n] 55)
    rw [World.size_alloc] at this
    exact Lib.hid this
  go_enter Tryd.func20, Tryd.ntmps20
  go_wp2_with fail
  go_region_law ((refine step_append_lies _ (by rfl) _ _ _ (by rfl) (w.heap.size + 2) 55 i0 _ 2 24 Tryd.underlying27 HI.out HZ0.out HZ1.out HZ2.out rfl (by omega) (.slice (some ⟨w.heap.size + 1 + 1, 0, none⟩) 1 1) 1 [.string op, .int .i64 n] (by rfl) (HO.out.drew) ⟨b, o, none⟩ l.length c (stepCells l) (by rfl) (stepCells_len l) HC1.out (stepCells_one l) hn (by unfold maxLen; omega) (by omega) (by simp) (w.heap.size + 3) (by simp) ?_; intro gg cap w1 hown1 hgrow hat hlt; have r0 := HR0.out.grown hgrow (by simp [Value.ownBlock]; omega); have r1 := HR1.out.grown hgrow (by simp [Value.ownBlock]); have q0 : w1.cell? ⟨w.heap.size, 1, none⟩ = some (.int .i64 e) := r0.cell 1; have q1 : w1.cell? ⟨w.heap.size + 1, 0, none⟩ = some (.slice none 0 0) := r1.cell 0; have q2 : w1.cell? ⟨w.heap.size + 1, 1, none⟩ = some (.int .i64 0) := r1.cell 1; have q3 := r1.frozen 0; have q4 := r1.frozen 1; have HR2 := Lib.hid r1; have HOW := Lib.hid hown1; have HGR := Lib.hid hgrow; clear r0 r1 hown1 hgrow hat))
  all_goals
    have HX := Lib.hid ((HR2.out.set0 (.slice (some ⟨gg, 0, none⟩) (1 + l.length) cap)).set1 (.int .i64 e))
    have x0 : ((w1.setCell ⟨w.heap.size + 1, 0, none⟩ (.slice (some ⟨gg, 0, none⟩) (1 + l.length) cap)).setCell ⟨w.heap.size + 1, 1, none⟩ (.int .i64 e)).cell? ⟨w.heap.size + 1, 0, none⟩ = some (.slice (some ⟨gg, 0, none⟩) (1 + l.length) cap) := HX.out.cell 0
    have x1 : ((w1.setCell ⟨w.heap.size + 1, 0, none⟩ (.slice (some ⟨gg, 0, none⟩) (1 + l.length) cap)).setCell ⟨w.heap.size + 1, 1, none⟩ (.int .i64 e)).cell? ⟨w.heap.size + 1, 1, none⟩ = some (.int .i64 e) := HX.out.cell 1
    go_wp2
    exact bodyPost_ret (v := .agg #[.slice (some ⟨gg, 0, none⟩) (1 + l.length) cap, .int .i64 e]) (by simp [results, Tryd.results20, go_sem, x0, x1]) rfl (rwrap_close HOW.out HGR.out)
end Go.Proofs.YtppanjdhfecmpaaDoor

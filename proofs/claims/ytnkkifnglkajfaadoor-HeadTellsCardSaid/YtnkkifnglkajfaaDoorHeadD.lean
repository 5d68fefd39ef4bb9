/-
  head.Bytes.
-/
import Derived.Test.YtnkkifnglkajfaaDoorHeadC
import Derived.Laws.CopyOwn
import Derived.Deep.RegionHeld3
namespace Go.Proofs.YtnkkifnglkajfaaDoor
open Go.RowKit

theorem make33 (w : World) : (Instr.makeSlice 25 (.int .i64 33) (.int .i64 33)).run Tryd.prog w = .ok (.slice (some ⟨w.heap.size, 0, none⟩) 33 33) (w.alloc (zerosObj 33)) := make_zeros 33 (by omega) w
theorem blk_zeros (w : World) (n : Nat) : Blk8 (w.alloc (zerosObj n)) w.heap.size (List.replicate n 0) := by
  unfold Blk8 Blk
  rw [heap_alloc_new]
  have e : madeCells (Value.int .u8 0).cells (n * 1) = (cellsOf8 (List.replicate n 0)).toArray := Array.ext' (by
    show (madeCells #[Value.int .u8 0] (n * 1)).toList = _
    rw [toList_madeCells_one]
    simp [cellsOf8])
  unfold zerosObj
  rw [e]
theorem hparts0 (g c : Nat) (w : World) (hc : 33 ≤ c) : Calls Tryd.prog 15 #[.slice (some ⟨g, 0, none⟩) 33 c] w fun r w' =>
    r = .returned (.tuple #[.slice (some ⟨g, 0, none⟩) 13 13, .slice (some ⟨g, 13, none⟩) 4 4, .slice (some ⟨g, 17, none⟩) 16 16]) ∧ Below w.heap.size w w' :=
  (hparts_is g 0 c w hc).mono fun r w' h => ⟨by rw [h.1], h.2⟩

def LayD (g : Nat) (ys : List Int) (w : World) (r : Ending) (w' : World) : Prop := r = .returned (.tuple #[]) ∧ w.grownBy w' (some g) ∧ Blk8 w' g ys
theorem lay_at {g o n c vb c2 m : Nat} {xs ys : List Int} (ns : List Int) {w : World} (hg : Blk8 w g xs) (hl : ns.length = m) (hy : putB xs o (flat ns) = ys) (hn : 4 * m ≤ n) (ho : o + n ≤ xs.length) (hvb : vb ≠ g) (hvl : vb < w.heap.size)
    (hv : ∀ j (h : j < ns.length), w.cell? ⟨vb, j, none⟩ = some (.int .u32 ns[j])) (hb : ∀ x ∈ ns, 0 ≤ x ∧ x ≤ 4294967295) (hm : m ≤ 1000) (hnc : n ≤ 100000) :
    Calls Tryd.prog 16 #[.slice (some ⟨g, o, none⟩) n c, .slice (some ⟨vb, 0, none⟩) m c2] w (LayD g ys w) := by
  subst hl hy
  exact lay_is g o n c vb c2 xs ns w hg hn ho hvb hvl hv hb hm hnc

theorem grown_then {a b c : World} {row : Option Nat} (h : a.grownBy b row) (k : b.grownBy c row) : a.grownBy c row :=
  ⟨k.os.trans h.os, k.tape.trans h.tape, k.output.trans h.output, Nat.le_trans h.size k.size, fun i hi hne => (k.block i (Nat.lt_of_lt_of_le hi h.size) hne).trans (h.block i hi hne)⟩
theorem lay3_at {g : Nat} {k s i q : Int} {w u : World} (hg : Blk8 w g ((List.replicate 33 (0 : Int)).set 0 k)) (hu : u = w.drew.alloc (.cells #[.int .u32 s, .int .u32 i, .int .u32 q] 22)) (s0 : 0 ≤ s ∧ s ≤ 4294967295) (i0 : 0 ≤ i ∧ i ≤ 4294967295) (q0 : 0 ≤ q ∧ q ≤ 4294967295) :
    Calls Tryd.prog 16 #[.slice (some ⟨g, 1, none⟩) 12 12, .slice (some ⟨w.heap.size, 0, none⟩) 3 3] u fun r w' => r = .returned (.tuple #[]) ∧ w.grownBy w' (some g) ∧ Blk8 w' g (headB k s i q ++ List.replicate 20 0) := by
  subst hu
  have hlt := lt_of_block hg
  have hg0 : w.grownBy (w.drew.alloc (.cells #[.int .u32 s, .int .u32 i, .int .u32 q] 22)) (some g) := grown_then (grown_drew (World.grownBy.refl w _)) (World.grownBy_alloc _ _ _)
  refine (lay_at (m := 3) (xs := (List.replicate 33 (0 : Int)).set 0 k) (ys := headB k s i q ++ List.replicate 20 0) [s, i, q] (Blk.up hg (Below.alloc (Below.refl w.heap.size w).drew (Nat.le_refl _) _) hlt) rfl rfl (by omega) (by simp) (by omega) (by rw [World.size_alloc]; exact Nat.lt_succ_self _) ?_ ?_ (by omega) (by omega)).mono ?_
  · intro j hj
    have hj' : j < 3 := hj
    have hh : (w.drew.alloc (.cells #[.int .u32 s, .int .u32 i, .int .u32 q] 22)).heap[w.heap.size]? = some (.cells #[.int .u32 s, .int .u32 i, .int .u32 q] 22 (0, 0)) := heap_alloc_new w.drew _
    rw [cell_of_row _ w.heap.size j _ 22 (0, 0) hh]
    rcases j with _ | _ | _ | j
    all_goals first | omega | rfl
  · intro x hx
    simp only [List.mem_cons, List.not_mem_nil, or_false] at hx
    rcases hx with rfl | rfl | rfl <;> assumption
  · rintro r w' ⟨rfl, h1, h2⟩
    exact ⟨rfl, grown_then hg0 h1, h2⟩
theorem page_put {k s i q n : Int} {blk : List Int} (hn : sumN (headB k s i q ++ blk) = n) : putB (headB k s i q ++ ([0, 0, 0, 0] ++ blk)) 13 (flat [n]) = pageB k s i q blk := by
  subst hn
  rfl
theorem lay1_at {g : Nat} {k s i q n : Int} {blk : List Int} {w u : World} (hg : Blk8 w g (headB k s i q ++ ([0, 0, 0, 0] ++ blk))) (hu : u = w.alloc (.cells #[.int .u32 n] 22)) (hn : sumN (headB k s i q ++ blk) = n) :
    Calls Tryd.prog 16 #[.slice (some ⟨g, 13, none⟩) 4 4, .slice (some ⟨w.heap.size, 0, none⟩) 1 1] u fun r w' => r = .returned (.tuple #[]) ∧ w.grownBy w' (some g) ∧ Blk8 w' g (pageB k s i q blk) := by
  subst hu
  have hlt := lt_of_block hg
  have hb := sumN_bd (headB k s i q ++ blk)
  have hg0 : w.grownBy (w.alloc (.cells #[.int .u32 n] 22)) (some g) := World.grownBy_alloc w _ (some g)
  refine (lay_at (m := 1) (ys := pageB k s i q blk) [n] (Blk.up hg (Below.alloc (Below.refl w.heap.size w) (Nat.le_refl _) _) hlt) rfl (page_put hn) (by omega) (by simp [headB_len]; omega) (by omega) (by simp) ?_ ?_ (by omega) (by omega)).mono ?_
  · intro j hj
    have hj' : j < 1 := hj
    rcases j with _ | j
    all_goals first | omega | simp
  · intro x hx
    simp only [List.mem_cons, List.not_mem_nil, or_false] at hx
    omega
  · rintro r w' ⟨rfl, h1, h2⟩
    exact ⟨rfl, grown_then hg0 h1, h2⟩

theorem rd_src {w : World} {B b o : Nat} {xs : List Int} (h : Rd w B (some ⟨b, o, none⟩) xs) : ∀ j v, (cellsOf8 xs)[j]? = some v → w.cell? ((⟨b, o, none⟩ : Addr).add j) = some v := by
  intro j u hj
  simp only [cellsOf8, List.getElem?_map, Option.map_eq_some_iff] at hj
  obtain ⟨y, hy, rfl⟩ := hj
  obtain ⟨hjl, rfl⟩ := List.getElem?_eq_some_iff.1 hy
  obtain ⟨b', o', hA, _, hc⟩ := h (by omega)
  injection hA with hA
  injection hA with e1 e2
  subst e1 e2
  have := hc j hjl
  rcases j with _ | j
  · simpa [Addr.add] using this
  · simpa [Addr.add] using this
theorem one8 {xs : List Int} : ∀ v ∈ cellsOf8 xs, v.oneCell' = true := by
  intro u hu
  simp only [cellsOf8, List.mem_map] at hu
  obtain ⟨y, _, rfl⟩ := hu
  rfl
theorem splice8 (xs ys : List Int) (o : Nat) : splice (cellsOf8 xs) o (cellsOf8 ys) = cellsOf8 (putB xs o ys) := by
  simp [splice, putB, cellsOf8]
theorem page_copy {k s i q : Int} {blk : List Int} (hl : blk.length = 16) : putB (headB k s i q ++ List.replicate 20 0) 17 blk = headB k s i q ++ ([0, 0, 0, 0] ++ blk) := by
  unfold putB
  rw [hl]
  have e1 : (headB k s i q ++ List.replicate 20 (0 : Int)).take 17 = headB k s i q ++ [0, 0, 0, 0] := rfl
  have e2 : (headB k s i q ++ List.replicate 20 (0 : Int)).drop (17 + 16) = [] := rfl
  rw [e1, e2, List.append_nil, List.append_assoc]
/-- The next operation is a copy. -/
theorem at_copy {P : Program} {ops : Array Oper} {Q : Exit → Act → World → Prop} {rest : List Oper} {a : Act} {w : World} {d : Option Tmp} {ar : Array Operand} {aT : Array TypeId} {ty : TypeId} {po : String} {af : Array Edge} {gd : Option (Nat × Bool)}
    (h : wpList P ops Q ({ dst := d, op := .call { callee := .builtin .copy, args := ar, argTypes := aT }, type := ty, pos := po, after := af, guard := gd } :: rest) a w) : wpList P ops Q ({ dst := d, op := .call { callee := .builtin .copy, args := ar, argTypes := aT }, type := ty, pos := po, after := af, guard := gd } :: rest) a w := h
theorem size8 : (Tryd.prog.info? 5).map (·.size) = some 1 := by kernel_rfl

theorem right_pos {k : Int} (h : rightK k = true) : 1 ≤ k ∧ k ≤ 5 := by simpa [rightK] using h
def BytesOk (k s i q : Int) (blk : List Int) (w : World) (r : Ending) (w' : World) : Prop :=
  ∃ g, r = .returned (.tuple #[.slice (some ⟨g, 0, none⟩) 33 33, .nilIface]) ∧ Blk8 w' g (pageB k s i q blk) ∧ w.heap.size ≤ g ∧ Below w.heap.size w w'
set_option maxHeartbeats 2000000 in
set_option maxRecDepth 100000 in
theorem bytes_ok (k s i q : Int) (A : Option Addr) (blk : List Int) (c : Nat) (w : World) (hr : Rd w w.heap.size A blk) (hbb : Byt blk) (hl : blk.length = 16) (_hc : 16 ≤ c) (hk : rightK k = true) (s0 : 0 ≤ s ∧ s ≤ 4294967295) (i0 : 0 ≤ i ∧ i ≤ 4294967295) (q0 : 0 ≤ q ∧ q ≤ 4294967295) :
    Calls Tryd.prog 7 #[.agg #[.int .u8 k, .int .u32 s, .int .u32 i, .int .u32 q], .slice A 16 c] w (BytesOk k s i q blk w) := by
  obtain ⟨b, o, rfl, _, _⟩ := hr (by omega)
  have HR := Lib.hid hr
  have HBB := Lib.hid hbb
  have HL := Lib.hid hl
  have HB0 := Lib.hid ((Below.refl w.heap.size w).alloc (Nat.le_refl _) (.cells #[.int .u8 k, .int .u32 s, .int .u32 i, .int .u32 q] 24))
  have HH0 : Hid (Blk (w.alloc (.cells #[.int .u8 k, .int .u32 s, .int .u32 i, .int .u32 q] 24)) w.heap.size 24 [.int .u8 k, .int .u32 s, .int .u32 i, .int .u32 q]) := Lib.hid (heap_alloc_new w _)
  have hmk := make33
  clear hr hbb hl
  go_enter Tryd.func7, Tryd.ntmps7
  go_wp2_with fail
  refine (hright_is k s i q _).mono ?_
  rintro r w1 ⟨rfl, hb⟩
  have HH1 := Lib.hid (Blk.up HH0.out hb (lt_of_block HH0.out))
  have HB1 := Lib.hid (HB0.out.trans (hb.mono HB0.out.size))
  clear hb HH0 HB0
  rw [hk]
  have HB2 := Lib.hid (HB1.out.alloc HB1.out.size (zerosObj 33))
  have HZ2 := Lib.hid (blk_zeros w1 33)
  have HH2 := Lib.hid (Blk.up HH1.out (Below.alloc (Below.refl w1.heap.size w1) (Nat.le_refl _) (zerosObj 33)) (lt_of_block HH1.out))
  have hgt := lt_of_block HH1.out
  clear HB1 HH1
  go_wp2_with fail
  refine (hparts0 w1.heap.size 33 _ (by omega)).mono ?_
  rintro r w2 ⟨rfl, hb⟩
  obtain ⟨g, hg⟩ : ∃ g, w1.heap.size = g := ⟨_, rfl⟩
  have HZ3 : Hid (Blk8 w2 g (List.replicate 33 0)) := Lib.hid (by rw [← hg]; exact Blk.up HZ2.out hb (lt_of_block HZ2.out))
  have HH3 := Lib.hid (Blk.up HH2.out hb (lt_of_block HH2.out))
  have HB3 := Lib.hid (HB2.out.trans (hb.mono HB2.out.size))
  have hwg : w.heap.size < g := by omega
  rw [hg]
  have h1 := Blk.cell HH3.out 0 (by simp)
  have h2 := Blk.cell HZ3.out 0 (by simp [cellsOf8])
  have h3 := Blk.free HZ3.out 0
  have HZ4 := Lib.hid (Blk8.put HZ3.out 0 k)
  clear hb HZ2 HH2 HB2 hg hgt HZ3
  go_wp2_with fail
  obtain ⟨w3, hw3⟩ : ∃ w3 : World, w3 = w2.setCell ⟨g, 0, none⟩ (.int .u8 k) := ⟨_, rfl⟩
  have HH4 : Hid (Blk w3 w.heap.size 24 [.int .u8 k, .int .u32 s, .int .u32 i, .int .u32 q]) := Lib.hid (by rw [hw3]; exact Blk.kept HH3.out (grown_put (World.grownBy.refl _ _) 0 _) (fun e => by injection e; omega))
  have HB4 : Hid (Below w.heap.size w w3) := Lib.hid (by rw [hw3]; exact HB3.out.setCell (p := ⟨g, 0, none⟩) (Nat.le_of_lt hwg) _)
  rw [← hw3] at HZ4 ⊢
  clear hw3 HH3 HB3 h1 h2 h3
  have K0 : Hid (w3.cell? ⟨w.heap.size, 1, none⟩ = some (.int .u32 s) ∧ w3.cell? ⟨w.heap.size, 2, none⟩ = some (.int .u32 i) ∧ w3.cell? ⟨w.heap.size, 3, none⟩ = some (.int .u32 q)) :=
    Lib.hid ⟨Blk.cell HH4.out 1 (by simp), Blk.cell HH4.out 2 (by simp), Blk.cell HH4.out 3 (by simp)⟩
  have hlt0 := lt_of_block HH4.out
  obtain ⟨k1, k2, k3⟩ := K0.out
  have hne : some w.heap.size ≠ some g := fun e => by injection e; omega
  go_region_held3 (fun w' => w'.cell? ⟨w.heap.size, 1, none⟩ = some (.int .u32 s) ∧ w'.cell? ⟨w.heap.size, 2, none⟩ = some (.int .u32 i) ∧ w'.cell? ⟨w.heap.size, 3, none⟩ = some (.int .u32 q))
      (first | exact K1.out | go_keep)
      (first | (go_at_call 16; (refine (lay3_at (w := w3) HZ4.out rfl s0 i0 q0).mono ?_); rintro r w5 ⟨rfl, hgr, hbl⟩; have HG5 := Lib.hid hgr; have HZ5 := Lib.hid hbl; clear hgr hbl; have K1 : Hid (w5.cell? ⟨w.heap.size, 1, none⟩ = some (.int .u32 s) ∧ w5.cell? ⟨w.heap.size, 2, none⟩ = some (.int .u32 i) ∧ w5.cell? ⟨w.heap.size, 3, none⟩ = some (.int .u32 q)) := Lib.hid ⟨HG5.out.cell k1 hne, HG5.out.cell k2 hne, HG5.out.cell k3 hne⟩))
  have HB5 : Hid (Below w.heap.size w w5) := Lib.hid (HB4.out.grown HG5.out HB4.out.size (fun j hj => by injection hj; omega))
  have HR5 := Lib.hid (HR.out.below HB5.out)
  clear K1 K0 k1 k2 k3 HG5 HZ4 HH4 HB4
  go_wp2_with (first
    | ((with_reducible refine at_copy ?_); refine wpList_copy_splice rfl (.tmp 39) (.tmp 40) 25 25 rfl 5 Tryd.underlying25 size8 (some ⟨g, 17, none⟩) (some ⟨b, o, none⟩) 16 16 16 c ?_ ?_ g 17 (cellsOf8 (headB k s i q ++ List.replicate 20 0)) 5 ?_ (cellsOf8 blk) ?_ ?_ ?_ ?_ g w5 ?_ ?_ ?_; (· rfl); (· rfl); (· exact HZ5.out); (· rw [cells8_len, HL.out]; rfl); (· exact (fun _ => ⟨rfl, _, rfl, rd_src HR5.out⟩)); (· rw [cells8_len, cells8_len, HL.out]; simp [headB_len]); (· exact one8); (· exact (Below.refl _ _)); (· exact (Nat.le_refl _)); intro w6 hz6 hb6)
    | fail)
  have HZ6 : Hid (Blk8 w6 g (headB k s i q ++ ([0, 0, 0, 0] ++ blk))) := Lib.hid (by
    have := hz6.out
    rw [splice8, page_copy HL.out] at this
    exact this)
  have HB6 := Lib.hid (HB5.out.trans (hb6.mono (Nat.le_of_lt hwg)))
  clear hz6 hb6 HZ5 HB5 HR5
  have hsum := htotal_is (A := some ⟨g, 0, none⟩) (A2 := some ⟨g, 17, none⟩) (xs := headB k s i q) (ys := blk) (n := 13) (n2 := 16) (c := 13) (c2 := 16) (w := w6) (byt_head s i q (by have := right_pos hk; omega) (by have := right_pos hk; omega)) HBB.out
    (by have := (HZ6.out.rd 0).take 13; exact this) (by have := HZ6.out.rd 17; exact this) rfl HL.out (Nat.le_refl _) (Nat.le_refl _) (by omega) (by omega) rfl
  obtain ⟨n, hn⟩ : ∃ n, sumN (headB k s i q ++ blk) = n := ⟨_, rfl⟩
  rw [hn] at hsum
  have HN := Lib.hid hn
  clear hn
  refine hsum.mono ?_
  clear hsum
  rintro r w7 ⟨rfl, hb⟩
  have HZ7 : Hid (Blk8 w7 g (headB k s i q ++ ([0, 0, 0, 0] ++ blk))) := Lib.hid (Blk.up HZ6.out hb (lt_of_block HZ6.out))
  have HB7 := Lib.hid (HB6.out.trans (hb.mono HB6.out.size))
  clear hb HZ6 HB6
  go_wp2_with fail
  refine (lay1_at (w := w7) HZ7.out rfl HN.out).mono ?_
  rintro r w8 ⟨rfl, hgr, hbl⟩
  have HB8 : Hid (Below w.heap.size w w8) := Lib.hid (HB7.out.grown hgr HB7.out.size (fun j hj => by injection hj; omega))
  have HZ8 := Lib.hid hbl
  clear hgr hbl HZ7 HB7
  go_wp2_with fail
  go_ret2
  exact ⟨g, rfl, HZ8.out, Nat.le_of_lt hwg, HB8.out⟩
end Go.Proofs.YtnkkifnglkajfaaDoor

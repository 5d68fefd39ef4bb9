/-
  head.Bytes.
  head.Bytes where it is refused; bytes.Clone; head.Read.
-/
import Derived.Test.YthmpimjmajoimaaGreatDoorSw05
import Derived.Test.YthmpimjmajoimaaGreatDoorSw20
import Derived.Test.YthmpimjmajoimaaGreatDoorSw26
import Derived.Laws.CopyOwn
import Derived.Deep.RegionHeld3
import Derived.Test.YthmpimjmajoimaaGreatDoorSw10
import Derived.Test.YthmpimjmajoimaaGreatDoorSw02
import Derived.Laws.Cover3
namespace Go.Proofs.YthmpimjmajoimaaGreatDoor
open Go.RowKit

theorem make33 (w : World) : (Instr.makeSlice 61 (.int .i64 33) (.int .i64 33)).run Tryz.prog w = .ok (.slice (some ⟨w.heap.size, 0, none⟩) 33 33) (w.alloc (zerosObj 33)) := make_zeros 33 (by omega) w
theorem hparts0 (g c : Nat) (w : World) (hc : 33 ≤ c) : Calls Tryz.prog 125 #[.slice (some ⟨g, 0, none⟩) 33 c] w fun r w' =>
    r = .returned (.tuple #[.slice (some ⟨g, 0, none⟩) 13 13, .slice (some ⟨g, 13, none⟩) 4 4, .slice (some ⟨g, 17, none⟩) 16 16]) ∧ Below w.heap.size w w' :=
  (hparts_is g 0 c w hc).mono fun r w' h => ⟨by rw [h.1], h.2⟩

def LayD (g : Nat) (ys : List Int) (w : World) (r : Ending) (w' : World) : Prop := r = .returned (.tuple #[]) ∧ w.grownBy w' (some g) ∧ Blk8 w' g ys
theorem lay_at {g o n c vb c2 m : Nat} {xs ys : List Int} (ns : List Int) {w : World} (hg : Blk8 w g xs) (hl : ns.length = m) (hy : putB xs o (flat ns) = ys) (hn : 4 * m ≤ n) (ho : o + n ≤ xs.length) (hvb : vb ≠ g) (hvl : vb < w.heap.size)
    (hv : ∀ j (h : j < ns.length), w.cell? ⟨vb, j, none⟩ = some (.int .u32 ns[j])) (hb : ∀ x ∈ ns, 0 ≤ x ∧ x ≤ 4294967295) (hm : m ≤ 1000) (hnc : n ≤ 100000) :
    Calls Tryz.prog 126 #[.slice (some ⟨g, o, none⟩) n c, .slice (some ⟨vb, 0, none⟩) m c2] w (LayD g ys w) := by
  subst hl hy
  exact lay_isq1 g o n c vb c2 xs ns w hg hn ho hvb hvl hv hb hm hnc

theorem grown_then {a b c : World} {row : Option Nat} (h : a.grownBy b row) (k : b.grownBy c row) : a.grownBy c row :=
  ⟨k.os.trans h.os, k.tape.trans h.tape, k.output.trans h.output, Nat.le_trans h.size k.size, fun i hi hne => (k.block i (Nat.lt_of_lt_of_le hi h.size) hne).trans (h.block i hi hne)⟩
theorem lay3_at {g : Nat} {k s i q : Int} {w u : World} (hg : Blk8 w g ((List.replicate 33 (0 : Int)).set 0 k)) (hu : u = w.drew.alloc (.cells #[.int .u32 s, .int .u32 i, .int .u32 q] 35)) (s0 : 0 ≤ s ∧ s ≤ 4294967295) (i0 : 0 ≤ i ∧ i ≤ 4294967295) (q0 : 0 ≤ q ∧ q ≤ 4294967295) :
    Calls Tryz.prog 126 #[.slice (some ⟨g, 1, none⟩) 12 12, .slice (some ⟨w.heap.size, 0, none⟩) 3 3] u fun r w' => r = .returned (.tuple #[]) ∧ w.grownBy w' (some g) ∧ Blk8 w' g (headB k s i q ++ List.replicate 20 0) := by
  subst hu
  have hlt := lt_of_block hg
  have hg0 : w.grownBy (w.drew.alloc (.cells #[.int .u32 s, .int .u32 i, .int .u32 q] 35)) (some g) := grown_then (grown_drew (World.grownBy.refl w _)) (World.grownBy_alloc _ _ _)
  refine (lay_at (m := 3) (xs := (List.replicate 33 (0 : Int)).set 0 k) (ys := headB k s i q ++ List.replicate 20 0) [s, i, q] (Blk.up hg (Below.alloc (Below.refl w.heap.size w).drew (Nat.le_refl _) _) hlt) rfl rfl (by omega) (by simp) (by omega) (by rw [World.size_alloc]; exact Nat.lt_succ_self _) ?_ ?_ (by omega) (by omega)).mono ?_
  · intro j hj
    have hj' : j < 3 := hj
    have hh : (w.drew.alloc (.cells #[.int .u32 s, .int .u32 i, .int .u32 q] 35)).heap[w.heap.size]? = some (.cells #[.int .u32 s, .int .u32 i, .int .u32 q] 35 (0, 0)) := heap_alloc_new w.drew _
    rw [cell_of_row _ w.heap.size j _ 35 (0, 0) hh]
    rcases j with _ | _ | _ | j
    all_goals first | omega | rfl
  · intro x hx
    simp only [List.mem_cons, List.not_mem_nil, or_false] at hx
    rcases hx with rfl | rfl | rfl <;> assumption
  · rintro r w' ⟨rfl, h1, h2⟩
    exact ⟨rfl, grown_then hg0 h1, h2⟩
theorem page_put {k s i q n : Int} {blk : List Int} (hn : sumN (headB k s i q ++ blk) = n) : putB (headB k s i q ++ ([0, 0, 0, 0] ++ blk)) 13 (flat [n]) = pageB k s i q blk := by
  subst hn
  rfl
theorem lay1_at {g : Nat} {k s i q n : Int} {blk : List Int} {w u : World} (hg : Blk8 w g (headB k s i q ++ ([0, 0, 0, 0] ++ blk))) (hu : u = w.alloc (.cells #[.int .u32 n] 35)) (hn : sumN (headB k s i q ++ blk) = n) :
    Calls Tryz.prog 126 #[.slice (some ⟨g, 13, none⟩) 4 4, .slice (some ⟨w.heap.size, 0, none⟩) 1 1] u fun r w' => r = .returned (.tuple #[]) ∧ w.grownBy w' (some g) ∧ Blk8 w' g (pageB k s i q blk) := by
  subst hu
  have hlt := lt_of_block hg
  have hb := sumN_bd (headB k s i q ++ blk)
  have hg0 : w.grownBy (w.alloc (.cells #[.int .u32 n] 35)) (some g) := World.grownBy_alloc w _ (some g)
  refine (lay_at (m := 1) (ys := pageB k s i q blk) [n] (Blk.up hg (Below.alloc (Below.refl w.heap.size w) (Nat.le_refl _) _) hlt) rfl (page_put hn) (by omega) (by simp [headB_len]; omega) (by omega) (by simp) ?_ ?_ (by omega) (by omega)).mono ?_
  · intro j hj
    have hj' : j < 1 := hj
    rcases j with _ | j
    all_goals first | omega | simp
  · intro x hx
    simp only [List.mem_cons, List.not_mem_nil, or_false] at hx
    omega
  · rintro r w' ⟨rfl, h1, h2⟩
    exact ⟨rfl, grown_then hg0 h1, h2⟩

theorem page_copy {k s i q : Int} {blk : List Int} (hl : blk.length = 16) : putB (headB k s i q ++ List.replicate 20 0) 17 blk = headB k s i q ++ ([0, 0, 0, 0] ++ blk) := by
  unfold putB
  rw [hl]
  have e1 : (headB k s i q ++ List.replicate 20 (0 : Int)).take 17 = headB k s i q ++ [0, 0, 0, 0] := rfl
  have e2 : (headB k s i q ++ List.replicate 20 (0 : Int)).drop (17 + 16) = [] := rfl
  rw [e1, e2, List.append_nil, List.append_assoc]
theorem right_pos {k : Int} (h : rightK k = true) : 1 ≤ k ∧ k ≤ 5 := by simpa [rightK] using h
def BytesOk (k s i q : Int) (blk : List Int) (w : World) (r : Ending) (w' : World) : Prop :=
  ∃ g, r = .returned (.tuple #[.slice (some ⟨g, 0, none⟩) 33 33, .nilIface]) ∧ Blk8 w' g (pageB k s i q blk) ∧ w.heap.size ≤ g ∧ Below w.heap.size w w'
set_option maxHeartbeats 2000000 in
set_option maxRecDepth 100000 in
theorem bytes_ok (k s i q : Int) (A : Option Addr) (blk : List Int) (c : Nat) (w : World) (hr : Rd w w.heap.size A blk) (hbb : Byt blk) (hl : blk.length = 16) (_hc : 16 ≤ c) (hk : rightK k = true) (s0 : 0 ≤ s ∧ s ≤ 4294967295) (i0 : 0 ≤ i ∧ i ≤ 4294967295) (q0 : 0 ≤ q ∧ q ≤ 4294967295) :
    Calls Tryz.prog 103 #[.agg #[.int .u8 k, .int .u32 s, .int .u32 i, .int .u32 q], .slice A 16 c] w (BytesOk k s i q blk w) := by
  obtain ⟨b, o, rfl, _, _⟩ := hr (by omega)
  have HR := Lib.hid hr
  have HBB := Lib.hid hbb
  have HL := Lib.hid hl
  have HB0 := Lib.hid ((Below.refl w.heap.size w).alloc (Nat.le_refl _) (.cells #[.int .u8 k, .int .u32 s, .int .u32 i, .int .u32 q] 159))
  have HH0 : Hid (Blk (w.alloc (.cells #[.int .u8 k, .int .u32 s, .int .u32 i, .int .u32 q] 159)) w.heap.size 159 [.int .u8 k, .int .u32 s, .int .u32 i, .int .u32 q]) := Lib.hid (heap_alloc_new w _)
  have hmk := make33
  clear hr hbb hl
  go_enter Tryz.func103, Tryz.ntmps103
  go_wp2_with fail
  refine (hright_is k s i q _).mono ?_
  rintro r w1 ⟨rfl, hb⟩
  have HH1 := Lib.hid (Blk.up HH0.out hb (lt_of_block HH0.out))
  have HB1 := Lib.hid (HB0.out.trans (hb.mono HB0.out.size))
  clear hb HH0 HB0
  rw [hk]
  have HB2 := Lib.hid (HB1.out.alloc HB1.out.size (zerosObj 33))
  have HZ2 := Lib.hid (blk_zeros w1 33)
  have HH2 := Lib.hid (Blk.up HH1.out (Below.alloc (Below.refl w1.heap.size w1) (Nat.le_refl _) (zerosObj 33)) (lt_of_block HH1.out))
  have hgt := lt_of_block HH1.out
  clear HB1 HH1
  go_wp2_with fail
  refine (hparts0 w1.heap.size 33 _ (by omega)).mono ?_
  rintro r w2 ⟨rfl, hb⟩
  obtain ⟨g, hg⟩ : ∃ g, w1.heap.size = g := ⟨_, rfl⟩
  have HZ3 : Hid (Blk8 w2 g (List.replicate 33 0)) := Lib.hid (by rw [← hg]; exact Blk.up HZ2.out hb (lt_of_block HZ2.out))
  have HH3 := Lib.hid (Blk.up HH2.out hb (lt_of_block HH2.out))
  have HB3 := Lib.hid (HB2.out.trans (hb.mono HB2.out.size))
  have hwg : w.heap.size < g := by omega
  rw [hg]
  have h1 := Blk.cell HH3.out 0 (by simp)
  have h2 := Blk.cell HZ3.out 0 (by simp [cellsOf8])
  have h3 := Blk.free HZ3.out 0
  have HZ4 := Lib.hid (Blk8.put HZ3.out 0 k)
  clear hb HZ2 HH2 HB2 hg hgt HZ3
  go_wp2_with fail
  obtain ⟨w3, hw3⟩ : ∃ w3 : World, w3 = w2.setCell ⟨g, 0, none⟩ (.int .u8 k) := ⟨_, rfl⟩
  have HH4 : Hid (Blk w3 w.heap.size 159 [.int .u8 k, .int .u32 s, .int .u32 i, .int .u32 q]) := Lib.hid (by rw [hw3]; exact Blk.kept HH3.out (grown_put (World.grownBy.refl _ _) 0 _) (fun e => by injection e; omega))
  have HB4 : Hid (Below w.heap.size w w3) := Lib.hid (by rw [hw3]; exact HB3.out.setCell (p := ⟨g, 0, none⟩) (Nat.le_of_lt hwg) _)
  rw [← hw3] at HZ4 ⊢
  clear hw3 HH3 HB3 h1 h2 h3
  have K0 : Hid (w3.cell? ⟨w.heap.size, 1, none⟩ = some (.int .u32 s) ∧ w3.cell? ⟨w.heap.size, 2, none⟩ = some (.int .u32 i) ∧ w3.cell? ⟨w.heap.size, 3, none⟩ = some (.int .u32 q)) :=
    Lib.hid ⟨Blk.cell HH4.out 1 (by simp), Blk.cell HH4.out 2 (by simp), Blk.cell HH4.out 3 (by simp)⟩
  have hlt0 := lt_of_block HH4.out
  obtain ⟨k1, k2, k3⟩ := K0.out
  have hne : some w.heap.size ≠ some g := fun e => by injection e; omega
  go_region_held3 (fun w' => w'.cell? ⟨w.heap.size, 1, none⟩ = some (.int .u32 s) ∧ w'.cell? ⟨w.heap.size, 2, none⟩ = some (.int .u32 i) ∧ w'.cell? ⟨w.heap.size, 3, none⟩ = some (.int .u32 q))
      (first | exact K1.out | go_keep)
      (first | (go_at_call 126; (refine (lay3_at (w := w3) HZ4.out rfl s0 i0 q0).mono ?_); rintro r w5 ⟨rfl, hgr, hbl⟩; have HG5 := Lib.hid hgr; have HZ5 := Lib.hid hbl; clear hgr hbl; have K1 : Hid (w5.cell? ⟨w.heap.size, 1, none⟩ = some (.int .u32 s) ∧ w5.cell? ⟨w.heap.size, 2, none⟩ = some (.int .u32 i) ∧ w5.cell? ⟨w.heap.size, 3, none⟩ = some (.int .u32 q)) := Lib.hid ⟨HG5.out.cell k1 hne, HG5.out.cell k2 hne, HG5.out.cell k3 hne⟩))
  have HB5 : Hid (Below w.heap.size w w5) := Lib.hid (HB4.out.grown HG5.out HB4.out.size (fun j hj => by injection hj; omega))
  have HR5 := Lib.hid (HR.out.below HB5.out)
  clear K1 K0 k1 k2 k3 HG5 HZ4 HH4 HB4
  go_wp2_with (first
    | ((with_reducible refine at_copy ?_); refine wpList_copy_splice rfl (.tmp 39) (.tmp 40) 61 61 rfl 5 Tryz.underlying61 size8 (some ⟨g, 17, none⟩) (some ⟨b, o, none⟩) 16 16 16 c ?_ ?_ g 17 (cellsOf8 (headB k s i q ++ List.replicate 20 0)) 5 ?_ (cellsOf8 blk) ?_ ?_ ?_ ?_ g w5 ?_ ?_ ?_; (· rfl); (· rfl); (· exact HZ5.out); (· rw [cells8_len, HL.out]; rfl); (· exact (fun _ => ⟨rfl, _, rfl, rd_src HR5.out⟩)); (· rw [cells8_len, cells8_len, HL.out]; simp [headB_len]); (· exact one8); (· exact (Below.refl _ _)); (· exact (Nat.le_refl _)); intro w6 hz6 hb6)
    | fail)
  have HZ6 : Hid (Blk8 w6 g (headB k s i q ++ ([0, 0, 0, 0] ++ blk))) := Lib.hid (by
    have := hz6.out
    rw [splice8, page_copy HL.out] at this
    exact this)
  have HB6 := Lib.hid (HB5.out.trans (hb6.mono (Nat.le_of_lt hwg)))
  clear hz6 hb6 HZ5 HB5 HR5
  have hsum := htotal_is (A := some ⟨g, 0, none⟩) (A2 := some ⟨g, 17, none⟩) (xs := headB k s i q) (ys := blk) (n := 13) (n2 := 16) (c := 13) (c2 := 16) (w := w6) (byt_head s i q (by have := right_pos hk; omega) (by have := right_pos hk; omega)) HBB.out
    (by have := (HZ6.out.rd 0).take 13; exact this) (by have := HZ6.out.rd 17; exact this) rfl HL.out (Nat.le_refl _) (Nat.le_refl _) (by omega) (by omega) rfl
  obtain ⟨n, hn⟩ : ∃ n, sumN (headB k s i q ++ blk) = n := ⟨_, rfl⟩
  rw [hn] at hsum
  have HN := Lib.hid hn
  clear hn
  refine hsum.mono ?_
  clear hsum
  rintro r w7 ⟨rfl, hb⟩
  have HZ7 : Hid (Blk8 w7 g (headB k s i q ++ ([0, 0, 0, 0] ++ blk))) := Lib.hid (Blk.up HZ6.out hb (lt_of_block HZ6.out))
  have HB7 := Lib.hid (HB6.out.trans (hb.mono HB6.out.size))
  clear hb HZ6 HB6
  go_wp2_with fail
  refine (lay1_at (w := w7) HZ7.out rfl HN.out).mono ?_
  rintro r w8 ⟨rfl, hgr, hbl⟩
  have HB8 : Hid (Below w.heap.size w w8) := Lib.hid (HB7.out.grown hgr HB7.out.size (fun j hj => by injection hj; omega))
  have HZ8 := Lib.hid hbl
  clear hgr hbl HZ7 HB7
  go_wp2_with fail
  go_ret2
  exact ⟨g, rfl, HZ8.out, Nat.le_of_lt hwg, HB8.out⟩
end Go.Proofs.YthmpimjmajoimaaGreatDoor
namespace Go.Proofs.YthmpimjmajoimaaGreatDoor
open Go.RowKit

/-- bytes.Clone. -/
def CloneIs (n : Nat) (xs : List Int) (w : World) (r : Ending) (w' : World) : Prop := ∃ g cap, r = .returned (.slice (some ⟨g, 0, none⟩) n cap) ∧ Own8 w' w.heap.size g cap xs ∧ Below w.heap.size w w'
set_option maxRecDepth 100000 in
theorem clone_isq1 (b o n c : Nat) (xs : List Int) (w : World) (hr : Rd w w.heap.size (some ⟨b, o, none⟩) xs) (hl : xs.length = n) (hn : 0 < n) (hm : n ≤ 20000) : Calls Tryz.prog 87 #[.slice (some ⟨b, o, none⟩) n c] w (CloneIs n xs w) := by
  have HR := Lib.hid hr
  have HL := Lib.hid hl
  clear hr hl
  have HE := Lib.hid (own_empty w w.heap.size (Nat.le_refl _))
  have HB := Lib.hid ((Below.refl w.heap.size w).alloc (Nat.le_refl _) (.cells #[] 5))
  obtain rfl := HL.out
  have hq := eq_nil8
  go_enter Tryz.func87, Tryz.ntmps87
  go_wp2_with (first
    | (at_builtin; refine append_rd _ rfl (.tmp 5) (.tmp 6) rfl w.heap.size w.heap.size _ [] rfl HE.out (some ⟨b, o, none⟩) xs c rfl (HR.out.below HB.out) (fun h => by cases h) (by simp; omega) HB.out.size ?_; intro v3 w3 zs hzs hown hg; obtain rfl : xs = zs := (by rw [hzs.out]; rfl); clear hzs; have HB4 := Lib.hid (HB.out.grown hg HB.out.size (fun q hq => (HE.out.lt q hq).1)); clear hg; obtain ⟨g, cap, rfl, ho⟩ := Own8.of hown hn; have HO := Lib.hid ho; clear hown ho)
    | fail)
  go_ret
  exact ⟨g, cap, rfl, HO.out, HB4.out⟩

/-- What Read answers: a head and a row, or none and an error's code. -/
def ReadNo (e : Int) (w : World) (r : Ending) (w' : World) : Prop := r = .returned (.tuple #[.agg #[.int .u8 0, .int .u32 0, .int .u32 0, .int .u32 0], .slice none 0 0, .iface 31 (.int .i64 e)]) ∧ Below w.heap.size w w'
def ReadOk (ps : List Int) (w : World) (r : Ending) (w' : World) : Prop :=
  ∃ g cap, r = .returned (.tuple #[.agg #[.int .u8 (ps.getD 0 0), .int .u32 (bk ps 1), .int .u32 (bk ps 5), .int .u32 (bk ps 9)], .slice (some ⟨g, 0, none⟩) 16 cap, .nilIface]) ∧ Own8 w' w.heap.size g cap (ps.drop 17) ∧ Below w.heap.size w w'
theorem read_short (A : Option Addr) (n c : Nat) (w : World) (hn : n ≠ 33) : Calls Tryz.prog 137 #[.slice A n c] w (ReadNo 3 w) := by
  have HB0 := Lib.hid ((Below.refl w.heap.size w).alloc (Nat.le_refl _) (.cells #[.int .u8 0, .int .u32 0, .int .u32 0, .int .u32 0] 159))
  have q1 : ((n : Int) == 33) = false := by simp; omega
  go_enter Tryz.func137, Tryz.ntmps137
  go_wp2_with fail
  refine bodyPost_ret (v := .tuple #[.agg #[.int .u8 0, .int .u32 0, .int .u32 0, .int .u32 0], .slice none 0 0, .iface 31 (.int .i64 3)]) (by simp [results, Tryz.results137, go_sem]) rfl ⟨rfl, ?_⟩
  exact HB0.out

theorem Four.up {w w' : World} {B b o : Nat} {n : Int} (h : Four w b o n) (hb : Below B w w') (hB : b < B) : Four w' b o n := by
  obtain ⟨x0, x1, x2, x3, hn, b0, b1, b2, b3, c0, c1, c2, c3⟩ := h
  exact ⟨x0, x1, x2, x3, hn, b0, b1, b2, b3, (hb.cell (p := ⟨b, o, none⟩) hB).trans c0, (hb.cell (p := ⟨b, o + 1, none⟩) hB).trans c1, (hb.cell (p := ⟨b, o + 2, none⟩) hB).trans c2, (hb.cell (p := ⟨b, o + 3, none⟩) hB).trans c3⟩

def box1 (w : World) : World := (w.alloc (.cells #[.int .u32 0] 35)).alloc (.cells #[.pointer (some ⟨w.heap.size, 0, none⟩)] 223)
theorem take1_at {b o c c2 : Nat} {n : Int} {w u : World} (hu : u = box1 w) (h4 : Four w b o n) (hb : b < w.heap.size) :
    Calls Tryz.prog 142 #[.slice (some ⟨b, o, none⟩) 4 c, .slice (some ⟨w.heap.size + 1, 0, none⟩) 1 c2] u fun r w' => r = .returned (.tuple #[]) ∧ Below w.heap.size w w' ∧ Blk w' w.heap.size 35 [.int .u32 n] := by
  subst hu
  have hbel : Below w.heap.size w (box1 w) := ((Below.refl _ _).alloc (Nat.le_refl _) _).alloc (by simp) _
  have hB : Blk (box1 w) w.heap.size 35 [.int .u32 0] := (Below.heap_alloc _ _ _ (by simp)).trans (heap_alloc_new w _)
  refine (htake_is b o 4 c (w.heap.size + 1) c2 w.heap.size 0 35 [.int .u32 0] [n] (box1 w) hB (by simp) (by omega) (by omega) (by simp) ?_ ?_ (by simp) (by omega) (by simp)).mono ?_
  · intro j hj
    have hj' : j < 1 := hj
    have hh : (box1 w).heap[w.heap.size + 1]? = some (.cells #[.pointer (some ⟨w.heap.size, 0, none⟩)] 223 (0, 0)) := by
      have := heap_alloc_new (w.alloc (.cells #[.int .u32 0] 35)) (.cells #[.pointer (some ⟨w.heap.size, 0, none⟩)] 223)
      rwa [World.size_alloc] at this
    rw [cell_of_row _ (w.heap.size + 1) j _ 223 (0, 0) hh]
    rcases j with _ | j
    all_goals first | omega | rfl
  · intro j hj
    have hj' : j < 1 := hj
    rcases j with _ | j
    · exact h4.up hbel hb
    · omega
  · rintro r w' ⟨rfl, h1, h2⟩
    exact ⟨rfl, hbel.grown h1 hbel.size (fun k hk => by injection hk; omega), h2⟩

/-- The call's own result variable, and the number that was read. -/
def KeptN (w : World) (p : Nat) (v : Int) (u : World) : Prop := Below w.heap.size w u ∧ Blk u w.heap.size 159 [.int .u8 0, .int .u32 0, .int .u32 0, .int .u32 0] ∧ Blk u p 35 [.int .u32 v]
theorem KeptN.up {w : World} {p : Nat} {v : Int} {a u : World} (h : KeptN w p v a) (hb : Below a.heap.size a u) : KeptN w p v u := ⟨below_all h.1 hb, h.2.1.up hb (lt_of_block h.2.1), h.2.2.up hb (lt_of_block h.2.2)⟩

set_option maxHeartbeats 1000000 in
set_option maxRecDepth 100000 in
theorem read_sum (b o c : Nat) (ps : List Int) (w : World) (hr : Rd w w.heap.size (some ⟨b, o, none⟩) ps) (hx : Byt ps) (hl : ps.length = 33) (hc : 33 ≤ c) (hs : bk ps 13 ≠ tot ps) : Calls Tryz.prog 137 #[.slice (some ⟨b, o, none⟩) 33 c] w (ReadNo 4 w) := by
  obtain ⟨_, _, hA, hbl, _⟩ := hr (by omega)
  injection hA with hA
  injection hA with e1 e2
  subst e1 e2
  have HR := Lib.hid hr
  have HX := Lib.hid hx
  have HL := Lib.hid hl
  have HS : Hid ((bk ps 13 == tot ps) = false) := Lib.hid (by simpa using hs)
  have HB0 := Lib.hid ((Below.refl w.heap.size w).alloc (Nat.le_refl _) (.cells #[.int .u8 0, .int .u32 0, .int .u32 0, .int .u32 0] 159))
  have HH0 : Hid (Blk (w.alloc (.cells #[.int .u8 0, .int .u32 0, .int .u32 0, .int .u32 0] 159)) w.heap.size 159 [.int .u8 0, .int .u32 0, .int .u32 0, .int .u32 0]) := Lib.hid (heap_alloc_new w _)
  clear hr hx hl hs
  go_enter Tryz.func137, Tryz.ntmps137
  go_wp2_with fail
  refine (hparts_is b o c _ hc).mono ?_
  rintro r w1 ⟨rfl, hb⟩
  have HB1 := Lib.hid (HB0.out.trans (hb.mono HB0.out.size))
  have HH1 := Lib.hid (Blk.up HH0.out hb (lt_of_block HH0.out))
  have hs1 := HB1.out.size
  clear hb HB0 HH0
  go_wp2_with fail
  refine (take1_at (w := w1) rfl (rd_four_at 13 (HR.out.below HB1.out) HX.out (by rw [HL.out]; omega)) (by omega)).mono ?_
  rintro r w2 ⟨rfl, hb, hbl2⟩
  have HK : Hid (KeptN w w1.heap.size (bk ps 13) w2.drew) := Lib.hid ⟨(HB1.out.trans (hb.mono hs1)).drew, HH1.out.up hb.drew (lt_of_block HH1.out), hbl2⟩
  clear hb hbl2
  go_wp2_with fail
  obtain ⟨p, hp⟩ : ∃ p, w1.heap.size = p := ⟨_, rfl⟩
  rw [hp] at HK ⊢
  refine wp_region_in (KeptN w p (bk ps 13)) HK.out (by kernel_rfl) (by kernel_rfl) (fun ne => ?_)
  have c0 := fun n : In (KeptN w p (bk ps 13)) => n.ok.2.2.cell 0 (by simp)
  have totD : ∀ n : In (KeptN w p (bk ps 13)), Calls Tryz.prog 127 #[.slice (some ⟨b, o, none⟩) 13 13, .slice (some ⟨b, o + 17, none⟩) 16 16] n.w (NumB (tot ps) n.w) := fun n =>
    htotal_is (HX.out.take 13) (fun x hx => HX.out x (List.mem_of_mem_drop hx)) (((HR.out.below n.ok.1).take 13).mono n.ok.1.size) (((HR.out.below n.ok.1).drop 17).mono n.ok.1.size) (by simp [HL.out]) (by simp [HL.out]) (Nat.le_refl _) (Nat.le_refl _) (by omega) (by omega) rfl
  have q1 := HS.out
  generalize bk ps 13 = v at *
  generalize tot ps = t at *
  repeat (go_big_quiet_step (first
    | (go_at_call 127; with_reducible exact In.more KeptN.up (totD _))))
  refine wpQuiet_nil ?_
  intro nq
  have HK2 := Lib.hid nq.ok
  clear c0 totD HK HS HR HX HL HB1 HH1
  have d0 := HK2.out.2.1.cell 0 (by simp)
  have d1 := HK2.out.2.1.cell 1 (by simp)
  have d2 := HK2.out.2.1.cell 2 (by simp)
  have d3 := HK2.out.2.1.cell 3 (by simp)
  have f0 := HK2.out.2.1.free 0
  have f1 := HK2.out.2.1.free 1
  have f2 := HK2.out.2.1.free 2
  have f3 := HK2.out.2.1.free 3
  go_wp2_with fail
  refine bodyPost_ret (v := .tuple #[.agg #[.int .u8 0, .int .u32 0, .int .u32 0, .int .u32 0], .slice none 0 0, .iface 31 (.int .i64 4)]) (by simp [results, Tryz.results137, go_sem, d0, d1, d2, d3]) rfl ⟨rfl, ?_⟩
  exact (((HK2.out.1.setCell (p := ⟨w.heap.size, 0, none⟩) (Nat.le_refl _) _).setCell (p := ⟨w.heap.size, 1, none⟩) (Nat.le_refl _) _).setCell (p := ⟨w.heap.size, 2, none⟩) (Nat.le_refl _) _).setCell (p := ⟨w.heap.size, 3, none⟩) (Nat.le_refl _) _
end Go.Proofs.YthmpimjmajoimaaGreatDoor

/-
  Package ckpt's parts: the blocks of bytes, one after the other, by a range over a function.
-/
import Derived.Test.YthmpimjmajoimaaGreatDoorSm05
import Derived.Test.YthmpimjmajoimaaGreatDoorSm26
import Derived.Laws.CopyOwn
import Derived.Deep.Cut
import Derived.OwnWalkIn
import Derived.TacticsInMore
import Derived.RangeFuncBox
namespace Go.Proofs.YthmpimjmajoimaaGreatDoor
open Go.RowKit

theorem rd_src {w : World} {B b o : Nat} {xs : List Int} (h : Rd w B (some ⟨b, o, none⟩) xs) : ∀ j v, (cellsOf8 xs)[j]? = some v → w.cell? ((⟨b, o, none⟩ : Addr).add j) = some v := by
  intro j u hj
  simp only [cellsOf8, List.getElem?_map, Option.map_eq_some_iff] at hj
  obtain ⟨y, hy, rfl⟩ := hj
  obtain ⟨hjl, rfl⟩ := List.getElem?_eq_some_iff.1 hy
  obtain ⟨b', o', hA, _, hc⟩ := h (by omega)
  injection hA with hA
  injection hA with e1 e2
  subst e1 e2
  have := hc j hjl
  rcases j with _ | j
  · simpa [Addr.add] using this
  · simpa [Addr.add] using this
theorem splice8 (xs ys : List Int) (o : Nat) : splice (cellsOf8 xs) o (cellsOf8 ys) = cellsOf8 (putB xs o ys) := by
  simp [splice, putB, cellsOf8]
/-- The next operation is a copy. -/
theorem at_copy {P : Program} {ops : Array Oper} {Q : Exit → Act → World → Prop} {rest : List Oper} {a : Act} {w : World} {d : Option Tmp} {ar : Array Operand} {aT : Array TypeId} {ty : TypeId} {po : String} {af : Array Edge} {gd : Option (Nat × Bool)}
    (h : wpList P ops Q ({ dst := d, op := .call { callee := .builtin .copy, args := ar, argTypes := aT }, type := ty, pos := po, after := af, guard := gd } :: rest) a w) : wpList P ops Q ({ dst := d, op := .call { callee := .builtin .copy, args := ar, argTypes := aT }, type := ty, pos := po, after := af, guard := gd } :: rest) a w := h
theorem size8 : (Tryz.prog.info? 5).map (·.size) = some 1 := by kernel_rfl
theorem blk_zeros (w : World) (n : Nat) : Blk8 (w.alloc (zerosObj n)) w.heap.size (List.replicate n 0) := by
  unfold Blk8 Blk
  rw [heap_alloc_new]
  have e : madeCells (Value.int .u8 0).cells (n * 1) = (cellsOf8 (List.replicate n 0)).toArray := Array.ext' (by
    show (madeCells #[Value.int .u8 0] (n * 1)).toList = _
    rw [toList_madeCells_one]
    simp [cellsOf8])
  unfold zerosObj
  rw [e]

/-- Block number j of bytes, with 0 behind. -/
def chunkP (xs : List Int) (j : Nat) : List Int := putB (List.replicate 16 0) 0 ((xs.drop (16 * j)).take 16)
theorem chunkP_at {xs : List Int} {j : Nat} (h : 16 * j < xs.length) : (chunks ((xs.length + 15) / 16) (padB xs))[j]'(by rw [chunks_len]; omega) = chunkP xs j := by
  rw [chunks_get (by omega)]
  unfold chunkP putB padB
  rw [List.drop_append_of_le_length (by omega), List.take_append]
  simp only [Nat.zero_add, List.length_take, List.length_drop, List.take_replicate, List.drop_replicate]
  rw [Nat.zero_min, List.replicate_zero, List.nil_append]
  congr 2
  omega

/-- What a round keeps: blocks of bytes, and block PB. -/
structure KeepB (PB : Nat) (A B : World) : Prop where
  size : A.heap.size ≤ B.heap.size
  bytes : ∀ (k : Nat) (cs : Array Value), A.heap[k]? = some (Obj.cells cs 5 (0, 0)) → B.heap[k]? = some (Obj.cells cs 5 (0, 0))
  box : ∀ v t, Boxed A PB t v → Boxed B PB t v
theorem KeepB.trans {PB : Nat} {A B C : World} (h : KeepB PB A B) (k : KeepB PB B C) : KeepB PB A C := ⟨Nat.le_trans h.size k.size, fun i cs hi => k.bytes i cs (h.bytes i cs hi), fun v t hv => k.box v t (h.box v t hv)⟩
theorem KeepB.putObj {PB : Nat} {W : World} {l : Nat} {o : Obj} (o' : Obj) (hl : W.heap[l]? = some o) (ho : o.isCells = false) : KeepB PB W (W.putObj l o') := by
  refine ⟨by simp, fun k cs hk => ?_, fun v t hv => ?_⟩
  · refine (World.putObj_heap_other ?_).trans hk
    rintro rfl
    rw [hk] at hl
    obtain rfl := Option.some.inj hl
    cases ho
  · refine (World.putObj_heap_other ?_).trans hv
    rintro rfl
    rw [show W.heap[PB]? = _ from hv] at hl
    obtain rfl := Option.some.inj hl
    cases ho
theorem KeepB.below {PB : Nat} {A B : World} (h : Below A.heap.size A B) : KeepB PB A B :=
  ⟨h.size, fun k _ hk => (h.block k (Array.getElem?_eq_some_iff.1 hk).1).trans hk, fun _ _ hv => (h.block PB hv.lt).trans hv⟩

def encG (g : Nat) : Array Value := #[.slice (some ⟨g, 0, none⟩) 16 16]
/-- The first j blocks have come. -/
structure Seen (xs : List Int) (base j : Nat) (ys : List Nat) (W : World) : Prop where
  len : ys.length = j
  row : ∀ i (h : i < ys.length), Blk8 W ys[i] (chunkP xs i) ∧ base ≤ ys[i]
  rise : ys.Pairwise (· < ·)
theorem Seen.keep {xs : List Int} {base j PB : Nat} {ys : List Nat} {A B : World} (h : Seen xs base j ys A) (hk : KeepB PB A B) : Seen xs base j ys B :=
  ⟨h.len, fun i hi => ⟨hk.bytes _ _ (h.row i hi).1, (h.row i hi).2⟩, h.rise⟩
theorem Seen.snoc {xs : List Int} {base j g : Nat} {ys : List Nat} {W : World} (h : Seen xs base j ys W) (hg : Blk8 W g (chunkP xs j)) (hb : base ≤ g) (hlt : ∀ y ∈ ys, y < g) : Seen xs base (j + 1) (ys ++ [g]) W := by
  refine ⟨by simp [h.len], fun i hi => ?_, ?_⟩
  · by_cases hij : i < ys.length
    · rw [List.getElem_append_left hij]
      exact h.row i hij
    · have e : i = ys.length := by simp at hi; omega
      subst e
      rw [List.getElem_append_right (by omega)]
      simp only [Nat.sub_self, List.getElem_cons_zero]
      rw [h.len]
      exact ⟨hg, hb⟩
  · rw [List.pairwise_append]
    exact ⟨h.rise, by simp, fun a ha b hb => by simp at hb; subst hb; exact hlt a ha⟩
theorem Seen.lt {xs : List Int} {base j : Nat} {ys : List Nat} {W : World} (h : Seen xs base j ys W) : ∀ y ∈ ys, y < W.heap.size := by
  intro y hy
  obtain ⟨i, hi, rfl⟩ := List.getElem_of_mem hy
  exact lt_of_block (h.row i hi).1
theorem grown_none {A B : World} (h : Below A.heap.size A B) : A.grownBy B none := ⟨h.os, h.tape, h.output, h.size, fun k hk _ => h.block k hk⟩

set_option maxHeartbeats 2000000 in
set_option maxRecDepth 100000 in
theorem partsA_in {xs : List Int} {len cap gb PB base K : Nat} {cur : Array Value} (hlen : xs.length = len) (hcap : len ≤ cap) (hK : K = (len + 15) / 16) (hm : len ≤ 10000) (hcur : ∀ i (h : i < xs.length), cur[i]? = some (.int .u8 xs[i])) (l : Nat) (J : List Nat → World → Prop) (W : World) (hb : base ≤ W.heap.size)
    (hJ : AbidesFrom W.heap.size J) (hY : ∀ pre x W1, J pre W1 → pre.length < K → YieldAt Fence.wide 1 Tryz.prog l (encG x) W1 fun e W' => e = .returned (.bool true) ∧ J (pre ++ [x]) W' ∧ KeepB PB W1 W')
    (h0 : J [] W) (hbox : Boxed W PB 61 (.slice (some ⟨gb, 0, none⟩) len cap)) (hgb : W.heap[gb]? = some (.cells cur 5 (0, 0))) :
    Calls Tryz.prog 136 #[.func (.yield l) #[] #[], .pointer (some ⟨PB, 0, none⟩)] W fun e W' => (∃ v, e = .returned v) ∧ ∃ ys, Seen xs base K ys W' ∧ J ys W' := by
  have HJ := Lib.hid hJ
  have HY := Lib.hid hY
  have H0 := Lib.hid h0
  have HBX := Lib.hid hbox
  have HGB := Lib.hid hgb
  have HC := Lib.hid hcur
  have HL := Lib.hid hlen
  have HK := Lib.hid hK
  clear hJ hY h0 hbox hgb hcur hlen hK
  go_enter Tryz.func136, Tryz.ntmps136
  go_wp2_with fail
  go_loopg [3] K (fun q x wr => ∃ (j : Nat) (pre : List Nat), j ≤ K ∧ q = K - j ∧ x = .int .i64 ((16 * j : Nat) : Int) ∧ J pre wr ∧ Seen xs base j pre wr ∧ Boxed wr PB 61 (.slice (some ⟨gb, 0, none⟩) len cap) ∧ wr.heap[gb]? = some (.cells cur 5 (0, 0)) ∧ W.heap.size ≤ wr.heap.size)
  case atStart => exact ⟨0, [], by omega, by omega, rfl, H0.out, ⟨rfl, fun i hi => by simp at hi, List.Pairwise.nil⟩, HBX.out, HGB.out, Nat.le_refl _⟩
  case round =>
    clear H0 HBX HGB
    obtain ⟨j, pre, hj, hq, rfl, hjp, hseen, hbox, hgb, hsz⟩ := hrel
    have HQ := Lib.hid hq
    have HJP := Lib.hid hjp
    have HS := Lib.hid hseen
    have HBX := Lib.hid hbox
    have HGB := Lib.hid hgb
    have HSZ := Lib.hid hsz
    have cb := hbox.cell
    clear hq hjp hseen hbox hgb hsz
    obtain ⟨t, ht⟩ : ∃ t, 16 * j = t := ⟨_, rfl⟩
    rw [ht]
    by_cases hlt : t < len
    · have hsl : (t : Int) ≤ (len : Int) := by omega
      have hcd : (cap = t) = False := by simp; omega
      have HR : Hid (Rd wr wr.heap.size (some ⟨gb, t, none⟩) ((xs.drop t).take 16)) := Lib.hid (by
        have h0 : Rd wr wr.heap.size (some ⟨gb, 0, none⟩) xs := fun _ => ⟨gb, 0, rfl, lt_of_block HGB.out, fun i hi => by
          rw [Nat.zero_add, cell_of_row wr gb i cur 5 (0, 0) HGB.out]
          exact HC.out i hi⟩
        have := (h0.drop t).take 16
        rwa [Nat.zero_add] at this)
      have hmk : (Instr.makeSlice 61 (.int .i64 16) (.int .i64 16)).run Tryz.prog wr = .ok (.slice (some ⟨wr.heap.size, 0, none⟩) 16 16) (wr.alloc (zerosObj 16)) := make_zeros 16 (by omega) wr
      have HB3 := Lib.hid (Below.alloc (Below.refl wr.heap.size wr) (Nat.le_refl _) (zerosObj 16))
      have HZ3 := Lib.hid (blk_zeros wr 16)
      have cb2 := (HB3.out.cell (p := ⟨PB, 0, none⟩) HBX.out.lt).trans cb
      have HN : Hid ((cellsOf8 ((xs.drop t).take 16)).length = Nat.min (len - t) 16) := Lib.hid (by
        rw [cells8_len, List.length_take, List.length_drop, HL.out]
        exact Nat.min_comm _ _)
      have HF : Hid (0 + (cellsOf8 ((xs.drop t).take 16)).length ≤ (cellsOf8 (List.replicate 16 0)).length) := Lib.hid (by
        rw [cells8_len, cells8_len, List.length_take, List.length_replicate]
        omega)
      go_upto_region 5 with (first
        | ((with_reducible refine at_copy ?_); refine wpList_copy_splice rfl (.tmp 12) (.tmp 15) 61 61 rfl 5 Tryz.underlying61 size8 (some ⟨wr.heap.size, 0, none⟩) (some ⟨gb, t, none⟩) 16 16 (len - t) (cap - t) ?_ ?_ wr.heap.size 0 (cellsOf8 (List.replicate 16 0)) 5 ?_ (cellsOf8 ((xs.drop t).take 16)) ?_ ?_ ?_ ?_ wr.heap.size wr ?_ ?_ ?_; (· rfl); (· rfl); (· exact HZ3.out); (· exact HN.out); (· exact (fun _ => ⟨rfl, _, rfl, rd_src (HR.out.below HB3.out)⟩)); (· exact HF.out); (· exact one8); (· exact HB3.out); (· exact (Nat.le_refl _)); intro w3 hz3 hb3)
        | fail)
      obtain ⟨g, hg⟩ : ∃ g, wr.heap.size = g := ⟨_, rfl⟩
      have HG := Lib.hid hg
      have HZ4 : Hid (Blk8 w3 g (chunkP xs j)) := Lib.hid (by
        have := hz3.out
        rw [splice8, hg] at this
        unfold chunkP
        rw [ht]
        exact this)
      have HB4 := Lib.hid hb3
      rw [hg]
      clear hz3 hb3 HB3 HZ3 hmk HN HF HR hg cb2 cb
      obtain ⟨fn, tmps, assign, body, hy, hR⟩ := HY.out pre g w3 (HJ.out _ wr w3 none HJP.out (grown_none HB4.out) (fun r e => by cases e)) (by rw [HS.out.len]; have := HK.out; omega)
      have HRI := Lib.hid hR
      clear hR
      unfold encG at hy
      refine (wpIn_wide (n := 2)).1 ?_
      gi_wp2
      refine HRI.out.mono ?_
      rintro e w4 ⟨rfl, hj4, hk4⟩
      have HS4 : Hid (Seen xs base (j + 1) (pre ++ [g]) w4) := Lib.hid ((((HS.out.keep (KeepB.below (PB := PB) HB4.out)).snoc HZ4.out (by have := HG.out; have := HSZ.out; omega) (fun y hy => by rw [← HG.out]; exact HS.out.lt y hy))).keep hk4)
      have HJ4 := Lib.hid hj4
      have HX4 := Lib.hid (hk4.box _ _ ((KeepB.below (PB := PB) HB4.out).box _ _ HBX.out))
      have HG4 := Lib.hid (hk4.bytes _ _ ((KeepB.below (PB := PB) HB4.out).bytes _ _ HGB.out))
      have HW4 : Hid (W.heap.size ≤ w4.heap.size) := Lib.hid (Nat.le_trans HSZ.out (Nat.le_trans HB4.out.size hk4.size))
      clear hj4 hk4 HB4 HZ4 HRI hy HS HBX HGB HSZ HJP
      gi_wp2
      go_wp2_with fail
      go_roundg (K - (j + 1))
      case rel => exact ⟨j + 1, pre ++ [g], by have := HK.out; omega, rfl, by rw [← ht]; go_num, HJ4.out, HS4.out, HX4.out, HG4.out, HW4.out⟩
      case measure => have := HQ.out; have := HK.out; omega
    · have e : j = K := by have := HK.out; omega
      subst e
      go_wp2_with fail
      go_end0
      exact ⟨⟨_, rfl⟩, pre, HS.out, HJP.out⟩
end Go.Proofs.YthmpimjmajoimaaGreatDoor

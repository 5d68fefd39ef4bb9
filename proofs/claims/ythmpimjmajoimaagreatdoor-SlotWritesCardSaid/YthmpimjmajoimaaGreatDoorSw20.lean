/-
  Package ckpt's parts: the blocks of bytes, one after the other, by a range over a function.
  Package ckpt's Read of blocks.
-/
import Derived.Test.YthmpimjmajoimaaGreatDoorSw05
import Derived.Test.YthmpimjmajoimaaGreatDoorSw19
import Derived.Laws.CopyOwn
import Derived.Deep.Cut
import Derived.OwnWalkIn
import Derived.TacticsInMore
import Derived.RangeFuncBox
import Derived.Test.YthmpimjmajoimaaGreatDoorSw01
namespace Go.Proofs.YthmpimjmajoimaaGreatDoor
open Go.RowKit

theorem rd_src {w : World} {B b o : Nat} {xs : List Int} (h : Rd w B (some ⟨b, o, none⟩) xs) : ∀ j v, (cellsOf8 xs)[j]? = some v → w.cell? ((⟨b, o, none⟩ : Addr).add j) = some v := by
  intro j u hj
  simp only [cellsOf8, List.getElem?_map, Option.map_eq_some_iff] at hj
  obtain ⟨y, hy, rfl⟩ := hj
  obtain ⟨hjl, rfl⟩ := List.getElem?_eq_some_iff.1 hy
  obtain ⟨b', o', hA, _, hc⟩ := h (by omega)
  injection hA with hA
  injection hA with e1 e2
  subst e1 e2
  have := hc j hjl
  rcases j with _ | j
  · simpa [Addr.add] using this
  · simpa [Addr.add] using this
theorem splice8 (xs ys : List Int) (o : Nat) : splice (cellsOf8 xs) o (cellsOf8 ys) = cellsOf8 (putB xs o ys) := by
  simp [splice, putB, cellsOf8]
/-- The next operation is a copy. -/
theorem at_copy {P : Program} {ops : Array Oper} {Q : Exit → Act → World → Prop} {rest : List Oper} {a : Act} {w : World} {d : Option Tmp} {ar : Array Operand} {aT : Array TypeId} {ty : TypeId} {po : String} {af : Array Edge} {gd : Option (Nat × Bool)}
    (h : wpList P ops Q ({ dst := d, op := .call { callee := .builtin .copy, args := ar, argTypes := aT }, type := ty, pos := po, after := af, guard := gd } :: rest) a w) : wpList P ops Q ({ dst := d, op := .call { callee := .builtin .copy, args := ar, argTypes := aT }, type := ty, pos := po, after := af, guard := gd } :: rest) a w := h
theorem size8 : (Tryz.prog.info? 5).map (·.size) = some 1 := by kernel_rfl
theorem blk_zeros (w : World) (n : Nat) : Blk8 (w.alloc (zerosObj n)) w.heap.size (List.replicate n 0) := by
  unfold Blk8 Blk
  rw [heap_alloc_new]
  have e : madeCells (Value.int .u8 0).cells (n * 1) = (cellsOf8 (List.replicate n 0)).toArray := Array.ext' (by
    show (madeCells #[Value.int .u8 0] (n * 1)).toList = _
    rw [toList_madeCells_one]
    simp [cellsOf8])
  unfold zerosObj
  rw [e]

/-- Block number j of bytes, with 0 behind. -/
def chunkP (xs : List Int) (j : Nat) : List Int := putB (List.replicate 16 0) 0 ((xs.drop (16 * j)).take 16)
theorem chunkP_at {xs : List Int} {j : Nat} (h : 16 * j < xs.length) : (chunks ((xs.length + 15) / 16) (padB xs))[j]'(by rw [chunks_len]; omega) = chunkP xs j := by
  rw [chunks_get (by omega)]
  unfold chunkP putB padB
  rw [List.drop_append_of_le_length (by omega), List.take_append]
  simp only [Nat.zero_add, List.length_take, List.length_drop, List.take_replicate, List.drop_replicate]
  rw [Nat.zero_min, List.replicate_zero, List.nil_append]
  congr 2
  omega

/-- What a round keeps: blocks of bytes, and block PB. -/
structure KeepB (PB : Nat) (A B : World) : Prop where
  size : A.heap.size ≤ B.heap.size
  bytes : ∀ (k : Nat) (cs : Array Value), A.heap[k]? = some (Obj.cells cs 5 (0, 0)) → B.heap[k]? = some (Obj.cells cs 5 (0, 0))
  box : ∀ v t, Boxed A PB t v → Boxed B PB t v
theorem KeepB.trans {PB : Nat} {A B C : World} (h : KeepB PB A B) (k : KeepB PB B C) : KeepB PB A C := ⟨Nat.le_trans h.size k.size, fun i cs hi => k.bytes i cs (h.bytes i cs hi), fun v t hv => k.box v t (h.box v t hv)⟩
theorem KeepB.putObj {PB : Nat} {W : World} {l : Nat} {o : Obj} (o' : Obj) (hl : W.heap[l]? = some o) (ho : o.isCells = false) : KeepB PB W (W.putObj l o') := by
  refine ⟨by simp, fun k cs hk => ?_, fun v t hv => ?_⟩
  · refine (World.putObj_heap_other ?_).trans hk
    rintro rfl
    rw [hk] at hl
    obtain rfl := Option.some.inj hl
    cases ho
  · refine (World.putObj_heap_other ?_).trans hv
    rintro rfl
    rw [show W.heap[PB]? = _ from hv] at hl
    obtain rfl := Option.some.inj hl
    cases ho
theorem KeepB.below {PB : Nat} {A B : World} (h : Below A.heap.size A B) : KeepB PB A B :=
  ⟨h.size, fun k _ hk => (h.block k (Array.getElem?_eq_some_iff.1 hk).1).trans hk, fun _ _ hv => (h.block PB hv.lt).trans hv⟩

def encG (g : Nat) : Array Value := #[.slice (some ⟨g, 0, none⟩) 16 16]
/-- The first j blocks have come. -/
structure Seen (xs : List Int) (base j : Nat) (ys : List Nat) (W : World) : Prop where
  len : ys.length = j
  row : ∀ i (h : i < ys.length), Blk8 W ys[i] (chunkP xs i) ∧ base ≤ ys[i]
  rise : ys.Pairwise (· < ·)
theorem Seen.keep {xs : List Int} {base j PB : Nat} {ys : List Nat} {A B : World} (h : Seen xs base j ys A) (hk : KeepB PB A B) : Seen xs base j ys B :=
  ⟨h.len, fun i hi => ⟨hk.bytes _ _ (h.row i hi).1, (h.row i hi).2⟩, h.rise⟩
theorem Seen.snoc {xs : List Int} {base j g : Nat} {ys : List Nat} {W : World} (h : Seen xs base j ys W) (hg : Blk8 W g (chunkP xs j)) (hb : base ≤ g) (hlt : ∀ y ∈ ys, y < g) : Seen xs base (j + 1) (ys ++ [g]) W := by
  refine ⟨by simp [h.len], fun i hi => ?_, ?_⟩
  · by_cases hij : i < ys.length
    · rw [List.getElem_append_left hij]
      exact h.row i hij
    · have e : i = ys.length := by simp at hi; omega
      subst e
      rw [List.getElem_append_right (by omega)]
      simp only [Nat.sub_self, List.getElem_cons_zero]
      rw [h.len]
      exact ⟨hg, hb⟩
  · rw [List.pairwise_append]
    exact ⟨h.rise, by simp, fun a ha b hb => by simp at hb; subst hb; exact hlt a ha⟩
theorem Seen.lt {xs : List Int} {base j : Nat} {ys : List Nat} {W : World} (h : Seen xs base j ys W) : ∀ y ∈ ys, y < W.heap.size := by
  intro y hy
  obtain ⟨i, hi, rfl⟩ := List.getElem_of_mem hy
  exact lt_of_block (h.row i hi).1
theorem grown_none {A B : World} (h : Below A.heap.size A B) : A.grownBy B none := ⟨h.os, h.tape, h.output, h.size, fun k hk _ => h.block k hk⟩

set_option maxHeartbeats 2000000 in
set_option maxRecDepth 100000 in
theorem partsA_in {xs : List Int} {len cap gb PB base K : Nat} {cur : Array Value} (hlen : xs.length = len) (hcap : len ≤ cap) (hK : K = (len + 15) / 16) (hm : len ≤ 10000) (hcur : ∀ i (h : i < xs.length), cur[i]? = some (.int .u8 xs[i])) (l : Nat) (J : List Nat → World → Prop) (W : World) (hb : base ≤ W.heap.size)
    (hJ : AbidesFrom W.heap.size J) (hY : ∀ pre x W1, J pre W1 → pre.length < K → YieldAt Fence.wide 1 Tryz.prog l (encG x) W1 fun e W' => e = .returned (.bool true) ∧ J (pre ++ [x]) W' ∧ KeepB PB W1 W')
    (h0 : J [] W) (hbox : Boxed W PB 61 (.slice (some ⟨gb, 0, none⟩) len cap)) (hgb : W.heap[gb]? = some (.cells cur 5 (0, 0))) :
    Calls Tryz.prog 136 #[.func (.yield l) #[] #[], .pointer (some ⟨PB, 0, none⟩)] W fun e W' => (∃ v, e = .returned v) ∧ ∃ ys, Seen xs base K ys W' ∧ J ys W' := by
  have HJ := Lib.hid hJ
  have HY := Lib.hid hY
  have H0 := Lib.hid h0
  have HBX := Lib.hid hbox
  have HGB := Lib.hid hgb
  have HC := Lib.hid hcur
  have HL := Lib.hid hlen
  have HK := Lib.hid hK
  clear hJ hY h0 hbox hgb hcur hlen hK
  go_enter Tryz.func136, Tryz.ntmps136
  go_wp2_with fail
  go_loopg [3] K (fun q x wr => ∃ (j : Nat) (pre : List Nat), j ≤ K ∧ q = K - j ∧ x = .int .i64 ((16 * j : Nat) : Int) ∧ J pre wr ∧ Seen xs base j pre wr ∧ Boxed wr PB 61 (.slice (some ⟨gb, 0, none⟩) len cap) ∧ wr.heap[gb]? = some (.cells cur 5 (0, 0)) ∧ W.heap.size ≤ wr.heap.size)
  case atStart => exact ⟨0, [], by omega, by omega, rfl, H0.out, ⟨rfl, fun i hi => by simp at hi, List.Pairwise.nil⟩, HBX.out, HGB.out, Nat.le_refl _⟩
  case round =>
    clear H0 HBX HGB
    obtain ⟨j, pre, hj, hq, rfl, hjp, hseen, hbox, hgb, hsz⟩ := hrel
    have HQ := Lib.hid hq
    have HJP := Lib.hid hjp
    have HS := Lib.hid hseen
    have HBX := Lib.hid hbox
    have HGB := Lib.hid hgb
    have HSZ := Lib.hid hsz
    have cb := hbox.cell
    clear hq hjp hseen hbox hgb hsz
    obtain ⟨t, ht⟩ : ∃ t, 16 * j = t := ⟨_, rfl⟩
    rw [ht]
    by_cases hlt : t < len
    · have hsl : (t : Int) ≤ (len : Int) := by omega
      have hcd : (cap = t) = False := by simp; omega
      have HR : Hid (Rd wr wr.heap.size (some ⟨gb, t, none⟩) ((xs.drop t).take 16)) := Lib.hid (by
        have h0 : Rd wr wr.heap.size (some ⟨gb, 0, none⟩) xs := fun _ => ⟨gb, 0, rfl, lt_of_block HGB.out, fun i hi => by
          rw [Nat.zero_add, cell_of_row wr gb i cur 5 (0, 0) HGB.out]
          exact HC.out i hi⟩
        have := (h0.drop t).take 16
        rwa [Nat.zero_add] at this)
      have hmk : (Instr.makeSlice 61 (.int .i64 16) (.int .i64 16)).run Tryz.prog wr = .ok (.slice (some ⟨wr.heap.size, 0, none⟩) 16 16) (wr.alloc (zerosObj 16)) := make_zeros 16 (by omega) wr
      have HB3 := Lib.hid (Below.alloc (Below.refl wr.heap.size wr) (Nat.le_refl _) (zerosObj 16))
      have HZ3 := Lib.hid (blk_zeros wr 16)
      have cb2 := (HB3.out.cell (p := ⟨PB, 0, none⟩) HBX.out.lt).trans cb
      have HN : Hid ((cellsOf8 ((xs.drop t).take 16)).length = Nat.min (len - t) 16) := Lib.hid (by
        rw [cells8_len, List.length_take, List.length_drop, HL.out]
        exact Nat.min_comm _ _)
      have HF : Hid (0 + (cellsOf8 ((xs.drop t).take 16)).length ≤ (cellsOf8 (List.replicate 16 0)).length) := Lib.hid (by
        rw [cells8_len, cells8_len, List.length_take, List.length_replicate]
        omega)
      go_upto_region 5 with (first
        | ((with_reducible refine at_copy ?_); refine wpList_copy_splice rfl (.tmp 12) (.tmp 15) 61 61 rfl 5 Tryz.underlying61 size8 (some ⟨wr.heap.size, 0, none⟩) (some ⟨gb, t, none⟩) 16 16 (len - t) (cap - t) ?_ ?_ wr.heap.size 0 (cellsOf8 (List.replicate 16 0)) 5 ?_ (cellsOf8 ((xs.drop t).take 16)) ?_ ?_ ?_ ?_ wr.heap.size wr ?_ ?_ ?_; (· rfl); (· rfl); (· exact HZ3.out); (· exact HN.out); (· exact (fun _ => ⟨rfl, _, rfl, rd_src (HR.out.below HB3.out)⟩)); (· exact HF.out); (· exact one8); (· exact HB3.out); (· exact (Nat.le_refl _)); intro w3 hz3 hb3)
        | fail)
      obtain ⟨g, hg⟩ : ∃ g, wr.heap.size = g := ⟨_, rfl⟩
      have HG := Lib.hid hg
      have HZ4 : Hid (Blk8 w3 g (chunkP xs j)) := Lib.hid (by
        have := hz3.out
        rw [splice8, hg] at this
        unfold chunkP
        rw [ht]
        exact this)
      have HB4 := Lib.hid hb3
      rw [hg]
      clear hz3 hb3 HB3 HZ3 hmk HN HF HR hg cb2 cb
      obtain ⟨fn, tmps, assign, body, hy, hR⟩ := HY.out pre g w3 (HJ.out _ wr w3 none HJP.out (grown_none HB4.out) (fun r e => by cases e)) (by rw [HS.out.len]; have := HK.out; omega)
      have HRI := Lib.hid hR
      clear hR
      unfold encG at hy
      refine (wpIn_wide (n := 2)).1 ?_
      gi_wp2
      refine HRI.out.mono ?_
      rintro e w4 ⟨rfl, hj4, hk4⟩
      have HS4 : Hid (Seen xs base (j + 1) (pre ++ [g]) w4) := Lib.hid ((((HS.out.keep (KeepB.below (PB := PB) HB4.out)).snoc HZ4.out (by have := HG.out; have := HSZ.out; omega) (fun y hy => by rw [← HG.out]; exact HS.out.lt y hy))).keep hk4)
      have HJ4 := Lib.hid hj4
      have HX4 := Lib.hid (hk4.box _ _ ((KeepB.below (PB := PB) HB4.out).box _ _ HBX.out))
      have HG4 := Lib.hid (hk4.bytes _ _ ((KeepB.below (PB := PB) HB4.out).bytes _ _ HGB.out))
      have HW4 : Hid (W.heap.size ≤ w4.heap.size) := Lib.hid (Nat.le_trans HSZ.out (Nat.le_trans HB4.out.size hk4.size))
      clear hj4 hk4 HB4 HZ4 HRI hy HS HBX HGB HSZ HJP
      gi_wp2
      go_wp2_with fail
      go_roundg (K - (j + 1))
      case rel => exact ⟨j + 1, pre ++ [g], by have := HK.out; omega, rfl, by rw [← ht]; go_num, HJ4.out, HS4.out, HX4.out, HG4.out, HW4.out⟩
      case measure => have := HQ.out; have := HK.out; omega
    · have e : j = K := by have := HK.out; omega
      subst e
      go_wp2_with fail
      go_end0
      exact ⟨⟨_, rfl⟩, pre, HS.out, HJP.out⟩
end Go.Proofs.YthmpimjmajoimaaGreatDoor
namespace Go.Proofs.YthmpimjmajoimaaGreatDoor
open Go.RowKit

theorem ReadIs.err {e : Int} {l : List (List Int)} {w w' : World} (he : readGE l = e) (h0 : e ≠ 0) (hb : Below w.heap.size w w') : ReadIs (errV (readGE l)) l w (.returned (.tuple #[kV 0 0 0 0 0 0 (.slice none 0 0), .iface 31 (.int .i64 e)])) w' := by
  have hn : readGE l ≠ 0 := by rw [he]; exact h0
  refine ⟨.slice none 0 0, ?_, ?_, hb⟩
  · unfold rdN errV
    rw [if_neg hn, if_neg hn, if_neg hn, if_neg hn, if_neg hn, if_neg hn, if_neg hn, he]
  · unfold rdD
    rw [if_neg hn]
    exact NumsAt.nil _
theorem readGE_all {l : List (List Int)} (h : (l.all fun b => decide (b.length = 16)) = false) : readGE l = 3 := by
  unfold readGE
  rw [h, Bool.and_false]
  rfl
theorem RdV.take {w : World} {B : Nat} {A : Option Addr} {vs : List Value} (h : RdV w B A vs) (k : Nat) : RdV w B A (vs.take k) := by
  intro hn
  simp at hn
  obtain ⟨b, o, hA, hlt, hc⟩ := h (by omega)
  refine ⟨b, o, hA, hlt, fun i hi => ?_⟩
  simp at hi
  rw [List.getElem_take]
  exact hc i (by omega)
theorem RdV.drop {w : World} {B b o : Nat} {vs : List Value} (h : RdV w B (some ⟨b, o, none⟩) vs) (k : Nat) : RdV w B (some ⟨b, o + k, none⟩) (vs.drop k) := by
  intro hn
  simp at hn
  obtain ⟨b', o', hA, hlt, hc⟩ := h (by omega)
  have hA := Option.some.inj hA
  injection hA with e1 e2
  subst e1 e2
  refine ⟨b, o + k, rfl, hlt, fun i hi => ?_⟩
  simp at hi
  rw [List.getElem_drop, Nat.add_assoc]
  exact hc (k + i) (by omega)
theorem RdR.take {w : World} {vs : List Value} {l : List (List Int)} (h : RdR w vs l) (k : Nat) : RdR w (vs.take k) (l.take k) := by
  refine ⟨by rw [List.length_take, List.length_take, h.1], fun i h1 h2 => ?_⟩
  rw [List.length_take] at h1 h2
  have e1 : (vs.take k)[i]'(by rw [List.length_take]; exact h1) = vs[i]'(by omega) := List.getElem_take
  have e2 : (l.take k)[i]'(by rw [List.length_take]; exact h2) = l[i]'(by omega) := List.getElem_take
  rw [e1, e2]
  exact h.2 i (by omega) (by omega)
theorem Blk.rdV {w : World} {g : Nat} {T : TypeId} {vs : List Value} (h : Blk w g T vs) : RdV w w.heap.size (some ⟨g, 0, none⟩) vs :=
  fun _ => ⟨g, 0, rfl, lt_of_block h, fun i hi => by rw [Nat.zero_add]; exact h.cell i hi⟩
theorem two_nums {l : List (List Int)} (h16 : ∀ x ∈ l, x.length = 16) {i : Nat} (hi : i < 8) : numAt (l.take 2).flatten i = numAt l.flatten i := by
  rw [take_flatten16 h16 2]
  exact numAt_congr (getD_take (by omega)) (getD_take (by omega)) (getD_take (by omega)) (getD_take (by omega))
theorem of_at {A : Option Addr} {xs : List Int} {n c : Nat} {m : Int} {w : World} (hx : Byt xs) (hr : Rd w w.heap.size A xs) (hl : xs.length = n) (hc : n ≤ c) (hn : n ≤ 1000000) (hm : sumN xs = m) : Calls Tryz.prog 116 #[.slice A n c] w (NumB m w) := by
  subst hl hm
  exact of_is A xs c w hx hr hc hn
theorem back4_zero {a b c d : Int} (ha : 0 ≤ a) (hb : 0 ≤ b) (hc : 0 ≤ c) (hd : 0 ≤ d) (h : back4 a b c d = 0) : a = 0 ∧ b = 0 ∧ c = 0 ∧ d = 0 := by
  unfold back4 at h
  omega
theorem drop_zero {xs : List Int} {m k : Nat} (hx : Byt xs) (hl : xs.length = 4 * m) : (((nums xs m).drop k).all fun b => decide (b = 0)) = ((xs.drop (4 * k)).all fun x => decide (x = 0)) := by
  rw [Bool.eq_iff_iff, List.all_eq_true, List.all_eq_true]
  constructor
  · intro h x hxm
    obtain ⟨j, hj, rfl⟩ := List.getElem_of_mem hxm
    rw [List.length_drop] at hj
    rw [List.getElem_drop]
    obtain ⟨i, r, hi, hr⟩ : ∃ i r, 4 * k + j = 4 * i + r ∧ r < 4 := ⟨(4 * k + j) / 4, (4 * k + j) % 4, by omega, by omega⟩
    have hz : numAt xs i = 0 := by
      have hm : i - k < ((nums xs m).drop k).length := by rw [List.length_drop, numsLen]; omega
      have := h _ (List.getElem_mem hm)
      rw [List.getElem_drop] at this
      simp only [nums, List.getElem_map, List.getElem_range, decide_eq_true_eq] at this
      rwa [show k + (i - k) = i by omega] at this
    have hb := back4_zero (getD_byt hx _).1 (getD_byt hx _).1 (getD_byt hx _).1 (getD_byt hx _).1 (show back4 (xs.getD (4 * i) 0) (xs.getD (4 * i + 1) 0) (xs.getD (4 * i + 2) 0) (xs.getD (4 * i + 3) 0) = 0 from hz)
    have hg : xs.getD (4 * i + r) 0 = xs[4 * k + j] := by
      rw [← hi, List.getD_eq_getElem?_getD, List.getElem?_eq_getElem (by omega)]
      rfl
    rw [← hg]
    rcases (show r = 0 ∨ r = 1 ∨ r = 2 ∨ r = 3 by omega) with rfl | rfl | rfl | rfl
    · simpa using hb.1
    · simpa using hb.2.1
    · simpa using hb.2.2.1
    · simpa using hb.2.2.2
  · intro h n hn
    obtain ⟨j, hj, rfl⟩ := List.getElem_of_mem hn
    rw [List.length_drop, numsLen] at hj
    rw [List.getElem_drop]
    simp only [nums, List.getElem_map, List.getElem_range, decide_eq_true_eq]
    have hz : ∀ r, r < 4 → xs.getD (4 * (k + j) + r) 0 = 0 := fun r hr => by
      have hm : 4 * j + r < (xs.drop (4 * k)).length := by rw [List.length_drop]; omega
      have := h _ (List.getElem_mem hm)
      rw [List.getElem_drop, decide_eq_true_eq] at this
      rw [List.getD_eq_getElem?_getD, List.getElem?_eq_getElem (by omega)]
      simp only [show 4 * (k + j) + r = 4 * k + (4 * j + r) by omega]
      exact this
    have z0 := hz 0 (by omega)
    rw [Nat.add_zero] at z0
    exact numAt_none z0 (hz 1 (by omega)) (hz 2 (by omega)) (hz 3 (by omega))

/-- What stays while Read goes on. -/
def KeptR (w : World) (G : Nat) (z p b : Int) (u : World) : Prop := Below w.heap.size w u ∧ Blk u w.heap.size 40 zList ∧ Blk u G 37 [.int .i64 z, .int .i64 p, .int .i64 b]
theorem KeptR.up {w : World} {G : Nat} {z p b : Int} {u v : World} (h : KeptR w G z p b u) (hb : Below u.heap.size u v) : KeptR w G z p b v :=
  ⟨below_all h.1 hb, h.2.1.up hb (lt_of_block h.2.1), h.2.2.up hb (lt_of_block h.2.2)⟩
theorem KeptR.cell2 {w : World} {G : Nat} {z p b : Int} {u : World} (h : KeptR w G z p b u) : u.cell? ⟨G, 2, none⟩ = some (.int .i64 b) := h.2.2.cell 2 (by simp)

theorem set7_cell {u : World} {g b o : Nat} {x : Value} (h : u.cell? ⟨b, o, none⟩ = some x) (hne : b ≠ g) (v0 v1 v2 v3 v4 v5 v6 : Value) :
    (((((((u.setCell ⟨g, 0, none⟩ v0).setCell ⟨g, 1, none⟩ v1).setCell ⟨g, 2, none⟩ v2).setCell ⟨g, 3, none⟩ v3).setCell ⟨g, 4, none⟩ v4).setCell ⟨g, 5, none⟩ v5).setCell ⟨g, 6, none⟩ v6).cell? ⟨b, o, none⟩ = some x :=
  (grown7 u g v0 v1 v2 v3 v4 v5 v6).cell h (fun e => hne (Option.some.inj e))
theorem dir_nums {all : List Int} {M T : Nat} (h : 6 + T ≤ M) : ((nums all M).drop 6).take T = dirUp all T := by
  apply List.ext_getElem
  · rw [List.length_take, List.length_drop, numsLen, dirUp_len]
    omega
  · intro i h1 h2
    rw [List.getElem_take, List.getElem_drop]
    simp [nums, dirUp]
theorem readDir_up {l : List (List Int)} {T : Nat} (h : tab (numAt l.flatten 5) = (T : Int)) : readDir l = dirUp l.flatten T := by
  unfold readDir dirUp
  rw [h, Int.toNat_natCast]
theorem ReadIs.ok {l : List (List Int)} {w w' : World} {nu se sq z p b : Int} {S : Value} (h0 : readGE l = 0) (hn : numAt l.flatten 0 = nu ∧ numAt l.flatten 1 = se ∧ numAt l.flatten 2 = sq) (hg : numAt l.flatten 3 = z ∧ numAt l.flatten 4 = p ∧ numAt l.flatten 5 = b) (hS : NumsAt w' S (readDir l)) (hb : Below w.heap.size w w') :
    ReadIs (errV (readGE l)) l w (.returned (.tuple #[kV nu se sq z p b S, .nilIface])) w' := by
  obtain ⟨rfl, rfl, rfl⟩ := hn
  obtain ⟨rfl, rfl, rfl⟩ := hg
  refine ⟨S, ?_, ?_, hb⟩
  · unfold rdN errV
    rw [if_pos h0, if_pos h0, if_pos h0, if_pos h0, if_pos h0, if_pos h0, if_pos h0]
  · unfold rdD
    rw [if_pos h0]
    exact hS
theorem slice32_tail (b n k : Nat) (h : k ≤ n) : ∃ AX : Option Addr, (∀ W : World, (Instr.sliceAt 38 (.slice (some ⟨b, 0, none⟩) n n) (some (.int .i64 (k : Int))) none none).run Tryz.prog W = .ok (.slice AX (n - k) (n - k)) W) ∧
    (∀ W : World, (Instr.slice 38 (.slice (some ⟨b, 0, none⟩) n n) (some (.int .i64 (k : Int))) none none).run Tryz.prog W = .ok (.slice AX (n - k) (n - k)) W) ∧ (k < n → AX = some ⟨b, k, none⟩) := by
  have he : Tryz.prog.underlying 38 = some (.slice (Tryz.prog.elem 38)) := by kernel_rfl
  have hz : ∀ W : World, (sizeOf (Tryz.prog.elem 38)).run Tryz.prog W = .ok 1 W := fun W => by kernel_rfl
  have h2 : ∀ W : World, (Instr.slice 38 (.slice (some ⟨b, 0, none⟩) n n) (some (.int .i64 (k : Int))) none none).run Tryz.prog W = .ok (.slice (if n = k then some ⟨b, 0, none⟩ else some ⟨b, 0 + k, none⟩) (n - k) (n - k)) W := fun W => by
    rw [run_slice_l (P := Tryz.prog) (w := W) (t := 38) (a := some ⟨b, 0, none⟩) (len := n) (cap := n) (ht := he) (kl := .i64) (l := k) (by omega) (by omega), hz]
    simp [Result.andThen, sliced, Addr.add]
    by_cases h0 : k = 0 <;> simp [h0]
  refine ⟨_, fun W => by rw [run_sliceAt_slice (h := he)]; exact h2 W, h2, fun hlt => ?_⟩
  rw [if_neg (by omega), Nat.zero_add]
theorem slice32_mid (b n V T : Nat) (h : 6 + T = V) (h2 : V ≤ n) (h3 : 6 < n) (hn : n ≤ 1000000) : (∀ W : World, (Instr.sliceAt 38 (.slice (some ⟨b, 0, none⟩) n n) (some (.int .i64 6)) (some (.int .i64 (V : Int))) none).run Tryz.prog W = .ok (.slice (some ⟨b, 6, none⟩) T (n - 6)) W) ∧
    (∀ W : World, (Instr.slice 38 (.slice (some ⟨b, 0, none⟩) n n) (some (.int .i64 6)) (some (.int .i64 (V : Int))) none).run Tryz.prog W = .ok (.slice (some ⟨b, 6, none⟩) T (n - 6)) W) := by
  have he : Tryz.prog.underlying 38 = some (.slice (Tryz.prog.elem 38)) := by kernel_rfl
  have hz : ∀ W : World, (sizeOf (Tryz.prog.elem 38)).run Tryz.prog W = .ok 1 W := fun W => by kernel_rfl
  have h4 : ∀ W : World, (Instr.slice 38 (.slice (some ⟨b, 0, none⟩) n n) (some (.int .i64 6)) (some (.int .i64 (V : Int))) none).run Tryz.prog W = .ok (.slice (some ⟨b, 6, none⟩) T (n - 6)) W := fun W => by
    rw [run_slice_lh (P := Tryz.prog) (w := W) (t := 38) (a := some ⟨b, 0, none⟩) (len := n) (cap := n) (ht := he) (kl := .i64) (kh := .i64) (l := 6) (h := V) (by omega) (by omega) (by omega), hz]
    have e : ¬ n = 6 := by omega
    simp [Result.andThen, sliced, Addr.add, e]
    omega
  exact ⟨fun W => by rw [run_sliceAt_slice (h := he)]; exact h4 W, h4⟩
/-- What stays at the end: the numbers, too. -/
def KeptQ (w : World) (G gn : Nat) (z p b : Int) (ns : List Int) (u : World) : Prop := KeptR w G z p b u ∧ Blk u gn 35 (u32s ns)
theorem KeptQ.up {w : World} {G gn : Nat} {z p b : Int} {ns : List Int} {u v : World} (h : KeptQ w G gn z p b ns u) (hb : Below u.heap.size u v) : KeptQ w G gn z p b ns v :=
  ⟨h.1.up hb, h.2.up hb (lt_of_block h.2)⟩

end Go.Proofs.YthmpimjmajoimaaGreatDoor

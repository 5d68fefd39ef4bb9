/-
  Package ckpt's Blocks.
  Package ckpt's functions, each as one contract.
  Plain mathematics of slots: checkpoints as pages, what a slot holds, what writing does call by call, which is the newest.
-/
import Derived.Test.YthmpimjmajoimaaGreatDoorSw20
import Derived.Shelf.Abstract
import Derived.Maps.AppendAt
import Derived.Test.YthmpimjmajoimaaGreatDoorSw03
import Derived.Test.YthmpimjmajoimaaGreatDoorSw18
namespace Go.Proofs.YthmpimjmajoimaaGreatDoor
open Go.RowKit
attribute [local go_sem] Oper.semAt_some

theorem parts_at (v : Value) (w : World) (hv : ∃ A n c, v = .slice A n c) : Calls Tryz.prog 123 #[v] w fun r w' => r = .returned (.func (.func 136) #[] #[.pointer (some ⟨w.heap.size, 0, none⟩)]) ∧ w' = w.alloc (.cells #[v] 61) := by
  obtain ⟨A, n, c, rfl⟩ := hv
  go_enter Tryz.func123, Tryz.ntmps123
  go_wp2_with fail
  go_ret
  exact ⟨rfl, rfl⟩
def rowV (g : Nat) : Value := .slice (some ⟨g, 0, none⟩) 16 16
/-- A row that has grown, and been stored: what stays. -/
theorem row_put {W w1 : World} {PB L NB k : Nat} {v v' : Value} {xs : List Value} {tmp : Obj} (hv : Boxed W L 60 v) (hrow : W.ownsRow NB 61 1 v k xs) (hgrow : (W.alloc tmp).grownBy w1 v.ownBlock) (hP : PB < NB) (hPL : PB ≠ L) :
    KeepB PB W (w1.setCell ⟨L, 0, none⟩ v') := by
  have hne : ∀ k cs, W.heap[k]? = some (Obj.cells cs 5 (0, 0)) → some k ≠ v.ownBlock ∧ k ≠ L := by
    intro k cs hk
    refine ⟨?_, ?_⟩
    · rcases hrow.2 with ⟨rfl, _⟩ | ⟨g, cap, cur, rfl, _, hg, _⟩
      · intro e; cases e
      · intro e
        obtain rfl : k = g := by simpa [Value.ownBlock] using e
        rw [hk] at hg
        have := Option.some.inj hg
        injection this with _ e2
        exact absurd e2 (by decide)
    · rintro rfl
      rw [show W.heap[k]? = _ from hv] at hk
      have := Option.some.inj hk
      injection this with _ e2
      exact absurd e2 (by decide)
  refine ⟨?_, fun k cs hk => ?_, fun u t hb => ?_⟩
  · have := hgrow.size
    simp [World.setCell] at this ⊢
    omega
  · obtain ⟨h1, h2⟩ := hne k cs hk
    have hk1 : (W.alloc tmp).heap[k]? = some (Obj.cells cs 5 (0, 0)) := (Below.heap_alloc W tmp k (Array.getElem?_eq_some_iff.1 hk).1).trans hk
    exact (Below.heap_setCell w1 ⟨L, 0, none⟩ v' k h2).trans ((hgrow.block k (Array.getElem?_eq_some_iff.1 hk1).1 h1).trans hk1)
  · have hk1 : Boxed (W.alloc tmp) PB t u := hb.alloc tmp
    refine (Below.heap_setCell w1 ⟨L, 0, none⟩ v' PB hPL).trans ((hgrow.block PB hk1.lt ?_).trans hk1)
    rcases hrow.2 with ⟨rfl, _⟩ | ⟨g, cap, cur, rfl, hbase, hg, _⟩
    · intro e; cases e
    · intro e
      obtain rfl : PB = g := by simpa [Value.ownBlock] using e
      omega
theorem ownsRow_le {w : World} {base base' e size n : Nat} {v : Value} {xs : List Value} (h : w.ownsRow base e size v n xs) (hb : base' ≤ base) : w.ownsRow base' e size v n xs :=
  ⟨h.1, h.2.imp id fun ⟨g', c', cur, hv, hg, r⟩ => ⟨g', c', cur, hv, Nat.le_trans hb hg, r⟩⟩

set_option maxHeartbeats 4000000 in
set_option maxRecDepth 100000 in
theorem kblocks_rows {A : Option Addr} {dir : List Int} {n c : Nat} {w : World} (nu se sq z p b : Int) (hr : RdV w w.heap.size A (u32s dir)) (hl : dir.length = n) (hw : Words (nu :: se :: sq :: dir)) (h : rightC z p b n = true) :
    Calls Tryz.prog 102 #[kV nu se sq z p b (.slice A n c)] w (fun r w' => ∃ (g cap K : Nat) (ys : List Nat), r = .returned (.tuple #[.slice (some ⟨g, 0, none⟩) K cap, .nilIface]) ∧ ys.length = K ∧ OwnG w' w.heap.size 61 g cap (ys.map rowV) ∧
      K = (blocksC nu se sq z p b dir).length ∧ (∀ i (h1 : i < ys.length) (h2 : i < (blocksC nu se sq z p b dir).length), Blk8 w' ys[i] (blocksC nu se sq z p b dir)[i] ∧ w.heap.size ≤ ys[i]) ∧ ys.Pairwise (· < ·) ∧ Below w.heap.size w w') := by
  obtain ⟨hz, hp, hbb, ht, hn1, hn2⟩ := right_bd h
  have HR := Lib.hid hr
  have HL := Lib.hid hl
  have HW := Lib.hid hw
  have HT := Lib.hid ht
  clear hr hl hw ht
  have HK := Lib.hid (KeptK.new w 40 (kList nu se sq z p b (.slice A n c)))
  refine (callsIn_wide (n := 6)).1 ?_
  refine callsIn_of_wp_marks Tryz.func102 rfl trivial ?_ rfl
  simp only [Tryz.ntmps102, List.size_toArray, List.length_cons, List.length_nil, Nat.reduceAdd, Nat.reduceSub, Array.replicate_succ, Array.replicate_zero, List.push_toArray, List.append_toArray, List.nil_append, List.cons_append]
  refine wpIn_wide.2 ?_
  go_wp2_with fail
  refine (krightq_is nu se sq z p b A n c _).mono ?_
  rintro r w1 ⟨rfl, hb⟩
  have HK1 := Lib.hid (HK.out.up hb)
  clear hb HK
  rw [h]
  have k0 : w1.cell? ⟨w.heap.size, 0, none⟩ = some (.int .u32 nu) := HK1.out.2.cell 0 (by simp)
  have k1 : w1.cell? ⟨w.heap.size, 1, none⟩ = some (.int .u32 se) := HK1.out.2.cell 1 (by simp)
  have k2 : w1.cell? ⟨w.heap.size, 2, none⟩ = some (.int .u32 sq) := HK1.out.2.cell 2 (by simp)
  have k3 : w1.cell? ⟨w.heap.size, 3, none⟩ = some (.int .i64 z) := HK1.out.2.cell 3 (by simp)
  have k4 : w1.cell? ⟨w.heap.size, 4, none⟩ = some (.int .i64 p) := HK1.out.2.cell 4 (by simp)
  have k5 : w1.cell? ⟨w.heap.size, 5, none⟩ = some (.int .i64 b) := HK1.out.2.cell 5 (by simp)
  have HK2 : Hid (KeptK w 40 (kList nu se sq z p b (.slice A n c)) (w1.alloc (.cells #[.int .u32 nu, .int .u32 se, .int .u32 sq, .int .u32 z, .int .u32 p, .int .u32 b] 35))) := Lib.hid (HK1.out.up (Below.alloc (Below.refl w1.heap.size w1) (Nat.le_refl _) _))
  have HS2 : Hid (Blk (w1.alloc (.cells #[.int .u32 nu, .int .u32 se, .int .u32 sq, .int .u32 z, .int .u32 p, .int .u32 b] 35)) w1.heap.size 35 (u32s [nu, se, sq, z, p, b])) := Lib.hid (heap_alloc_new w1 _)
  go_wp2_with fail
  refine (lay_is (n := 6) (m := 24) (ns := [nu, se, sq, z, p, b]) (Blk.rdV HS2.out) rfl rfl (fun x hx => by
    simp only [List.mem_cons, List.not_mem_nil, or_false] at hx
    rcases hx with rfl | rfl | rfl | rfl | rfl | rfl
    · exact HW.out _ (by simp)
    · exact HW.out _ (by simp)
    · exact HW.out _ (by simp)
    · exact ⟨by omega, by omega⟩
    · exact ⟨by omega, by omega⟩
    · exact ⟨by omega, by omega⟩) (by omega) (by omega)).mono ?_
  rintro r w3 ⟨g3, cap3, rfl, ho, hb⟩
  have HK3 := Lib.hid (HK2.out.up hb)
  have HO3 : Hid (Own8 w3 (w.heap.size + 1) g3 cap3 (flatM [nu, se, sq, z, p, b])) := Lib.hid (ho.le (by have := HK2.out.1.size; have := lt_of_block HK2.out.2; omega))
  clear ho hb HK2 HS2 HK1 k0 k1 k2 k3 k4 k5
  have k6 : w3.cell? ⟨w.heap.size, 6, none⟩ = some (.slice A n c) := HK3.out.2.cell 6 (by simp)
  go_wp2_with fail
  obtain ⟨m4, hm4⟩ : ∃ m4, 4 * n = m4 := ⟨_, rfl⟩
  refine (lay_is (m := m4) (HR.out.up HK3.out.1) HL.out hm4 (fun x hx => HW.out x (by simp [hx])) (by omega) (by omega)).mono ?_
  rintro r w4 ⟨g4, cap4, rfl, ho, hb⟩
  have HK4 := Lib.hid (HK3.out.up hb)
  have HX4 := Lib.hid ho.rd
  have HO4 := Lib.hid (HO3.out.rise hb)
  have HF4 : Hid ((flatM dir).length = m4) := Lib.hid (by rw [flatM_len, HL.out, hm4])
  have hmb : 4 ≤ m4 ∧ m4 ≤ 64 := by omega
  have HM4 := Lib.hid hm4
  have hlt4 := lt_of_block HK4.out.2
  clear ho hb HK3 HO3 k6 hm4
  go_wp2_with (first
    | (at_builtin; refine app8 _ rfl (.tmp 31) (.tmp 34) rfl (w.heap.size + 1) w4.heap.size g3 cap3 24 m4 cap4 (flatM [nu, se, sq, z, p, b]) (flatM dir) (some ⟨g4, 0, none⟩) rfl HO4.out rfl rfl HX4.out HF4.out (fun h => by cases h) ?h11 ?h12 ?h13 ?_; (case h11 => omega); (case h12 => omega); (case h13 => omega); intro g5 cap5 w5 ho hg; have HO5 := Lib.hid ho; have HG5 := Lib.hid hg; clear ho hg)
    | fail)
  obtain ⟨L0, hL0⟩ : ∃ L0, 24 + m4 = L0 := ⟨_, rfl⟩
  rw [hL0]
  have HBC : Hid (flatM [nu, se, sq, z, p, b] ++ flatM dir = bodyC nu se sq z p b dir) := Lib.hid (by
    unfold bodyC numsC flatM
    rw [← List.flatMap_append]
    rfl)
  rw [HBC.out] at HO5
  obtain ⟨body, hbody⟩ : ∃ body, bodyC nu se sq z p b dir = body := ⟨_, rfl⟩
  have HBD := Lib.hid hbody
  rw [hbody] at HO5
  have HBL : Hid (body.length = L0) := Lib.hid (by rw [← hbody, bodyC_len, HL.out, ← hL0, HM4.out])
  have HBY : Hid (Byt body) := Lib.hid (by rw [← hbody]; unfold bodyC; exact byt_flatM _)
  have HK5 : Hid (KeptK w 40 (kList nu se sq z p b (.slice A n c)) w5) := Lib.hid ⟨HK4.out.1.grown HG5.out HK4.out.1.size (fun j hj => by have := Option.some.inj hj; have := HO4.out.mem.1; omega), HK4.out.2.kept HG5.out (fun e => by have := Option.some.inj e; have := HO4.out.mem.1; omega)⟩
  have hcp := HO5.out.cap
  rw [HBL.out] at hcp
  have hLb : 28 ≤ L0 ∧ L0 ≤ 88 := by omega
  have HL0 := Lib.hid hL0
  clear HBC hbody HK4 HX4 HO4 HG5 hlt4 hL0
  obtain ⟨sm, hsm⟩ : ∃ sm, sumN body = sm := ⟨_, rfl⟩
  have hsb := sumN_bd body
  rw [hsm] at hsb
  have HSW : Hid (Word sm) := Lib.hid ⟨hsb.1, by omega⟩
  go_wp2_with fail
  refine (of_at HBY.out HO5.out.rd HBL.out hcp (by omega) hsm).mono ?_
  rintro r w6 ⟨rfl, hb⟩
  have HK6 := Lib.hid (HK5.out.up hb)
  have HO6 := Lib.hid (HO5.out.rise hb)
  clear hb HK5 HO5 hsb
  have HK7 : Hid (KeptK w 40 (kList nu se sq z p b (.slice A n c)) (w6.alloc (.cells #[.int .u32 sm] 35))) := Lib.hid (HK6.out.up (Below.alloc (Below.refl w6.heap.size w6) (Nat.le_refl _) _))
  have HO7 : Hid (Own8 (w6.alloc (.cells #[.int .u32 sm] 35)) (w.heap.size + 1) g5 cap5 body) := Lib.hid (HO6.out.rise (Below.alloc (Below.refl w6.heap.size w6) (Nat.le_refl _) _))
  have HS7 : Hid (Blk (w6.alloc (.cells #[.int .u32 sm] 35)) w6.heap.size 35 (u32s [sm])) := Lib.hid (heap_alloc_new w6 _)
  clear HK6 HO6
  have HSMM := Lib.hid hsm
  clear hsm
  go_wp2_with fail
  refine (lay_is (n := 1) (m := 4) (ns := [sm]) (Blk.rdV HS7.out) rfl rfl (fun x hx => by
    simp only [List.mem_cons, List.not_mem_nil, or_false] at hx
    subst hx
    exact HSW.out) (by omega) (by omega)).mono ?_
  rintro r w8 ⟨g8, cap8, rfl, ho, hb⟩
  have HK8 := Lib.hid (HK7.out.up hb)
  have HX8 := Lib.hid ho.rd
  have HO8 := Lib.hid (HO7.out.rise hb)
  have hlt8 := lt_of_block HK8.out.2
  clear ho hb HK7 HO7 HS7
  go_wp2_with (first
    | (at_builtin; refine app8 _ rfl (.tmp 36) (.tmp 40) rfl (w.heap.size + 1) w8.heap.size g5 cap5 L0 4 cap8 body (flatM [sm]) (some ⟨g8, 0, none⟩) rfl HO8.out HBL.out rfl HX8.out rfl (fun h => by cases h) ?h21 ?h22 ?h23 ?_; (case h21 => omega); (case h22 => omega); (case h23 => omega); intro g9 cap9 w9 ho hg; have HO9 := Lib.hid ho; have HG9 := Lib.hid hg; clear ho hg)
    | (go_at_call 123; refine (parts_at _ _ ⟨_, _, _, rfl⟩).mono ?_; rintro r w11 ⟨rfl, rfl⟩)
    | fail)
  obtain ⟨L, hLL⟩ : ∃ L, w9.heap.size = L := ⟨_, rfl⟩
  obtain ⟨pre, hpre⟩ : ∃ pre, body ++ flatM [sm] = pre := ⟨_, rfl⟩
  obtain ⟨len, hlen⟩ : ∃ len, L0 + 4 = len := ⟨_, rfl⟩
  have HPL : Hid (pre.length = len) := Lib.hid (by rw [← hpre, List.length_append, HBL.out, ← hlen]; rfl)
  have HEN : Hid (encC nu se sq z p b dir = padB pre) := Lib.hid (by
    unfold encC
    rw [HBD.out, HSMM.out, ← hpre]
    rfl)
  rw [hpre] at HO9
  have HB9 : Hid (Below w.heap.size w w9) := Lib.hid (HK8.out.1.grown HG9.out HK8.out.1.size (fun j hj => by have := Option.some.inj hj; have := HO8.out.mem.1; omega))
  have hwL : w.heap.size < L := by rw [← hLL]; exact Nat.lt_of_lt_of_le hlt8 HG9.out.size
  have hg9 := HO9.out.mem
  have hcp9 := HO9.out.cap
  rw [HPL.out] at hcp9
  have hlb : 32 ≤ len ∧ len ≤ 92 := by omega
  clear HK8 HX8 HO8 HG9 hlt8
  obtain ⟨W0, hW0⟩ : ∃ W0 : World, W0 = (w9.alloc (.cells #[.slice none 0 0] 60)).alloc (.cells #[.slice (some ⟨g9, 0, none⟩) len cap9] 61) := ⟨_, rfl⟩
  have hs0 : W0.heap.size = L + 2 := by rw [hW0]; simp [hLL]
  have HBX0 : Hid (Boxed W0 L 60 (.slice none 0 0)) := Lib.hid (by
    rw [hW0, ← hLL]
    exact (Boxed.new w9 60 (.slice none 0 0)).alloc _)
  have HPB0 : Hid (Boxed W0 (L + 1) 61 (.slice (some ⟨g9, 0, none⟩) len cap9)) := Lib.hid (by
    have := Boxed.new (w9.alloc (.cells #[.slice none 0 0] 60)) 61 (.slice (some ⟨g9, 0, none⟩) len cap9)
    rw [World.size_alloc, hLL] at this
    rw [hW0]
    exact this)
  have HBW0 : Hid (Below w.heap.size w W0) := Lib.hid (by
    rw [hW0]
    exact (HB9.out.alloc HB9.out.size _).alloc (by rw [World.size_alloc]; have := HB9.out.size; omega) _)
  have HO0 : Hid (Own8 W0 (w.heap.size + 1) g9 cap9 pre) := Lib.hid (by
    rw [hW0]
    exact HO9.out.rise ((Below.alloc (Below.refl w9.heap.size w9) (Nat.le_refl _) _).alloc (by rw [World.size_alloc]; omega) _))
  rw [hlen, hLL]
  rw [← hW0]
  clear hW0 HO9 HB9
  obtain ⟨K, hK1⟩ : ∃ K, (len + 15) / 16 = K := ⟨_, rfl⟩
  have hKb : K ≤ 6 := by omega
  refine (wpIn_wide (n := 3)).1 ?_
  refine range_seen (α := Nat) (gf := 136) (lb := #[.pointer (some ⟨L + 1, 0, none⟩)]) rfl (by omega) rfl trivial (enters_of Tryz.func136 (by kernel_rfl) rfl) (encs := fun (x : Nat) => #[Value.slice (some ⟨x, 0, none⟩) 16 16]) (Kp := KeepB (L + 1)) (S := fun ys W => Seen pre w.heap.size K ys W) (N := K) ?seq (fun h k => h.trans k)
    (fun W l o o' _ hl ho => KeepB.putObj o' hl ho) (fun ys W l o o' _ hs hl ho => hs.keep (KeepB.putObj (PB := L + 1) o' hl ho)) (fun _ => rfl)
    (fun ys W => (∃ v, Boxed W L 60 v ∧ W.ownsRow W0.heap.size 61 1 v ys.length (ys.map rowV) ∧ True) ∧ (Below w.heap.size w W ∧ W0.heap.size ≤ W.heap.size))
    (OwnFrom.and (Own.from (holdsRow_own W0.heap.size L 60 61 1 (fun (ys : List Nat) => ys.length) (fun (ys : List Nat) => ys.map rowV) (fun _ _ => True)) _) (OwnFrom.and (ownFrom_below (Nat.le_refl _) (by rw [hs0]; omega)) (fun _ _ _ _ hs hg _ => Nat.le_trans hs hg.size)))
    ⟨⟨_, HBX0.out, World.ownsRow_nil _ _ _ _, trivial⟩, HBW0.out, Nat.le_refl _⟩
    (fun x => { tmps := #[kV nu se sq z p b (.slice A n c), .pointer (some ⟨w.heap.size, 0, none⟩), .slice none 0 0, .nilIface, .slice (some ⟨g9, 0, none⟩) len cap9, .pointer (some ⟨L, 0, none⟩), .slice (some ⟨x, 0, none⟩) 16 16, .agg #[.int .u32 nu, .int .u32 se, .int .u32 sq, .int .i64 z, .int .i64 p, .int .i64 b, .slice A n c], .bool true, .bool false, undef, .pointer (some ⟨w.heap.size, 0, none⟩), .int .u32 nu, .pointer (some ⟨w.heap.size, 1, none⟩), .int .u32 se, .pointer (some ⟨w.heap.size, 2, none⟩), .int .u32 sq, .pointer (some ⟨w.heap.size, 3, none⟩), .pointer (some ⟨w.heap.size, 3, none⟩), .int .i64 z, .int .u32 z, .pointer (some ⟨w.heap.size, 3, none⟩), .pointer (some ⟨w.heap.size, 4, none⟩), .int .i64 p, .int .u32 p, .pointer (some ⟨w.heap.size, 3, none⟩), .pointer (some ⟨w.heap.size, 5, none⟩), .int .i64 b, .int .u32 b, .slice (some ⟨w1.heap.size, 0, none⟩) 6 6, .slice (some ⟨g3, 0, none⟩) 24 cap3, .slice (some ⟨g3, 0, none⟩) 24 cap3, .pointer (some ⟨w.heap.size, 6, none⟩), .slice A n c, .slice (some ⟨g4, 0, none⟩) m4 cap4, .slice (some ⟨g5, 0, none⟩) L0 cap5, .slice (some ⟨g5, 0, none⟩) L0 cap5, .slice (some ⟨g5, 0, none⟩) L0 cap5, .int .u32 sm, .slice (some ⟨w6.heap.size, 0, none⟩) 1 1, .slice (some ⟨g8, 0, none⟩) 4 cap8, .slice (some ⟨g9, 0, none⟩) len cap9, .slice (some ⟨g9, 0, none⟩) len cap9, .func (Fn.func 136) #[] #[.pointer (some ⟨L + 1, 0, none⟩)], .slice (some ⟨x, 0, none⟩) 16 16, undef, undef, undef, undef, undef], defers := [] }) ?assign ?body ?done
  case seq =>
    intro l J W hbW hJ hY h0
    refine callsIn_wide.2 ?_
    have HOW := HO0.out.rise hbW
    obtain ⟨cur, hcg, hct⟩ : ∃ cur : Array Value, W.heap[g9]? = some (Obj.cells cur 5 (0, 0)) ∧ cur.toList.take (pre.length * 1) = cellsOf8 pre := by
      rcases HOW.2 with ⟨h', _⟩ | ⟨g', cap', cur, hv, _, hg, _, _, _, ht⟩
      · simp at h'
      · injection hv with hv
        have hv := Option.some.inj hv
        injection hv with hv
        subst hv
        exact ⟨cur, hg, ht⟩
    refine partsA_in (xs := pre) (cur := cur) HPL.out hcp9 hK1.symm (by omega) (fun i hi => ?_) l J W (by have := hbW.size; have := HBW0.out.size; omega) hJ hY h0 ((hbW.block (L + 1) (by omega)).trans HPB0.out) hcg
    have e : (cur.toList.take (pre.length * 1))[i]? = some (.int .u8 pre[i]) := by
      rw [hct]
      simp [cellsOf8, hi]
    rw [Nat.mul_one, List.getElem?_take_of_lt hi] at e
    rw [← Array.getElem?_toList]
    exact e
  case assign =>
    intro l x W K hK
    gi_wp2
    exact hK
  case body =>
    rintro l ys x W ⟨⟨v, hv, hrow, _⟩, hB, hWs⟩ hlt
    have hc := hv.cell
    obtain ⟨i0, hi, hz0, hz1, hz2⟩ := info_parts infoRow
    have hyl : ys.length ≤ 6 := by omega
    gi_wp2_with (gi_at_builtin; refine wpListIn_append_own _ rfl _ _ 60 rfl W0.heap.size 61 i0 (.slice none 0 0) 1 24 Tryz.underlying60 hi hz0 hz1 hz2 rfl (by decide) _ _ _ rfl (hrow.alloc _) ⟨W.heap.size, 0, none⟩ 1 1 [.slice (some ⟨x, 0, none⟩) 16 16] rfl rfl (cell_one_new _ _ _) (by simp [Value.oneCell']) (by unfold maxLen; omega) (by omega) (by simp; omega) ?_; intro v' w1' hown' hgrow _; obtain ⟨g', cap', rfl⟩ := ownsRow_succ hown'; obtain ⟨hv1, hv2, hr2, hk2, hb2⟩ := hv.appended (by decide) (ownsRow_le hrow (base' := w.heap.size) (by omega)) (by omega) (by omega) (ownsRow_le hown' (by omega)) hgrow; have hc1 := hv1.cell; have hf1 := hv1.frozen)
    have hr3 := hown'.kept (grownBy_setCell' w1' L (.slice (some ⟨g', 0, none⟩) (ys.length + 1) cap')) (.inr (hv1.not_row (by decide) hown').symm)
    have hsz := hk2.size
    simp [World.setCell] at hsz
    exact ⟨row_put hv hrow hgrow (by omega) (by omega), ⟨_, hv2, by rw [hs0] at hr3; exact hr3⟩, hB.trans hb2, by omega⟩
  case done =>
    rintro D ys W hD hS ⟨⟨v, hv, hrow, _⟩, hB, hWs⟩ hK
    have hc := hv.cell
    have hyl := hS.len
    obtain ⟨g, cap, rfl⟩ : ∃ g cap, v = .slice (some ⟨g, 0, none⟩) K cap := by
      rcases hrow.2 with ⟨_, h0⟩ | ⟨g, cap, _, rfl, _⟩
      · omega
      · exact ⟨g, cap, by rw [hyl]⟩
    have HBK : Hid (blocksC nu se sq z p b dir = chunks ((pre.length + 15) / 16) (padB pre)) := Lib.hid (by
      unfold blocksC
      rw [HEN.out, (padB_len pre).2]
      congr 1
      omega)
    go_wp2_with fail
    refine ⟨by simp, .inl ⟨_, _, rfl, run_takeDeferred hK, ?_⟩⟩
    have hS2 := hS.keep (KeepB.putObj (PB := 0) (.deferred none) hK rfl)
    have hr2 := ownsRow_putObj hrow (.deferred none) hK rfl
    refine ⟨.tuple #[.slice (some ⟨g, 0, none⟩) K cap, .nilIface], by simp [results, Tryz.results102, go_sem], g, cap, K, ys, rfl, hyl, ?_, ?_, fun i h1 h2 => ⟨?_, (hS2.row i h1).2⟩, hS2.rise, hB.trans (belowK_b (w := w) (Nat.le_refl _) W D _ _ (by have := HBW0.out.size; omega) hK rfl rfl)⟩
    · unfold OwnG
      rw [List.length_map, hyl]
      rw [hyl] at hr2
      exact ownsRow_le hr2 HBW0.out.size
    · rw [HBK.out, chunks_len, HPL.out, hK1]
    · have e : (blocksC nu se sq z p b dir)[i] = chunkP pre i := by
        have h3 : 16 * i < pre.length := by rw [HPL.out]; omega
        have := chunkP_at h3
        rw [← this]
        congr 1
      rw [e]
      exact (hS2.row i h1).1
end Go.Proofs.YthmpimjmajoimaaGreatDoor
namespace Go.Proofs.YthmpimjmajoimaaGreatDoor
open Go.RowKit

theorem ksame_is {A A2 : Option Addr} {dir dir2 : List Int} {n m c c2 : Nat} {w : World} (nu se sq z p b nu2 se2 sq2 z2 p2 b2 : Int) (hr : RdV w w.heap.size A (u32s dir)) (hr2 : RdV w w.heap.size A2 (u32s dir2)) (hl : dir.length = n) (hl2 : dir2.length = m) (hn : n ≤ 1000) (_hm : m ≤ 1000) :
    Calls Tryz.prog 31 #[kV nu se sq z p b (.slice A n c), kV nu2 se2 sq2 z2 p2 b2 (.slice A2 m c2)] w (BoolB (sameC nu se sq z p b dir nu2 se2 sq2 z2 p2 b2 dir2) w) :=
  ksameq_is nu se sq z p b nu2 se2 sq2 z2 p2 b2 hr hr2 hl hl2 (by omega)

/-- Rows of sixteen bytes, each in a block of its own. -/
structure Rows16 (w : World) (base g cap : Nat) (ys : List Nat) (l : List (List Int)) : Prop where
  own : OwnG w base 61 g cap (ys.map rowV)
  len : ys.length = l.length
  row : ∀ i (h1 : i < ys.length) (h2 : i < l.length), Blk8 w ys[i] l[i] ∧ base ≤ ys[i]
  rise : ys.Pairwise (· < ·)
  six : ∀ x ∈ l, x.length = 16
theorem Rows16.up {w u : World} {base g cap : Nat} {ys : List Nat} {l : List (List Int)} (h : Rows16 w base g cap ys l) (hb : Below w.heap.size w u) : Rows16 u base g cap ys l :=
  ⟨h.own.rise hb, h.len, fun i h1 h2 => ⟨Blk.up (h.row i h1 h2).1 hb (lt_of_block (h.row i h1 h2).1), (h.row i h1 h2).2⟩, h.rise, h.six⟩
theorem Rows16.at {w : World} {base g cap K : Nat} {ys : List Nat} {l : List (List Int)} (h : Rows16 w base g cap ys l) (hK : l.length = K) : RowsAt w (.slice (some ⟨g, 0, none⟩) K cap) l := by
  subst hK
  have hc := h.own.cap
  rw [List.length_map, h.len] at hc
  refine ⟨some ⟨g, 0, none⟩, cap, ys.map rowV, rfl, hc, h.own.rdV, by rw [List.length_map, h.len], fun i h1 h2 => ?_⟩
  rw [List.length_map] at h1
  have h16 := h.six _ (List.getElem_mem h2)
  refine ⟨some ⟨ys[i], 0, none⟩, 16, by rw [List.getElem_map, h16]; rfl, by omega, ?_⟩
  have := (h.row i h1 h2).1.rd 0
  rwa [List.drop_zero] at this
theorem Rows16.apart {w : World} {base g cap : Nat} {ys : List Nat} {l : List (List Int)} (h : Rows16 w base g cap ys l) {i : Nat} (h1 : i < ys.length) : ys[i] ≠ g := by
  have hb := (h.row i h1 (by rw [← h.len]; exact h1)).1
  rcases h.own.2 with ⟨h', _⟩ | ⟨g', cap', cur, hv, _, hg, _⟩
  · simp at h'
  · injection hv with hv
    have hv := Option.some.inj hv
    injection hv with hv
    subst hv
    intro e
    rw [e] at hb
    have := hb.symm.trans hg
    have := Option.some.inj this
    injection this with _ e2
    exact absurd e2 (by decide)
theorem rise_ne {ys : List Nat} (h : ys.Pairwise (· < ·)) {i k : Nat} (hi : i < ys.length) (hk : k < ys.length) (hne : i ≠ k) : ys[i] ≠ ys[k] := by
  rw [List.pairwise_iff_getElem] at h
  rcases Nat.lt_or_gt_of_ne hne with hlt | hlt
  · exact Nat.ne_of_lt (h i k hi hk hlt)
  · exact Nat.ne_of_gt (h k i hk hi hlt)
theorem Rows16.set {w : World} {base g cap : Nat} {ys : List Nat} {l : List (List Int)} (h : Rows16 w base g cap ys l) {k t : Nat} (hk : k < ys.length) (hk2 : k < l.length) (x : Int) : Rows16 (w.setCell ⟨ys[k], t, none⟩ (.int .u8 x)) base g cap ys (l.set k (l[k].set t x)) := by
  have hg : w.grownBy (w.setCell ⟨ys[k], t, none⟩ (.int .u8 x)) (some ys[k]) := grown_put (World.grownBy.refl w _) t _
  refine ⟨h.own.kept hg (fun e => h.apart hk (Option.some.inj e).symm), by rw [List.length_set]; exact h.len, fun i h1 h2 => ⟨?_, (h.row i h1 (by rw [← h.len]; exact h1)).2⟩, h.rise, fun y hy => ?_⟩
  · rw [List.length_set] at h2
    by_cases e : k = i
    · subst e
      rw [List.getElem_set_self]
      exact (h.row k h1 h2).1.put t x
    · rw [List.getElem_set_ne e]
      exact Blk.kept (h.row i h1 h2).1 hg (fun e2 => rise_ne h.rise h1 hk (Ne.symm e) (Option.some.inj e2))
  · rcases List.mem_or_eq_of_mem_set hy with hy | rfl
    · exact h.six y hy
    · rw [List.length_set]
      exact h.six _ (List.getElem_mem hk2)
theorem kblocks_ok {A : Option Addr} {dir : List Int} {n c : Nat} {w : World} (nu se sq z p b : Int) (hr : RdV w w.heap.size A (u32s dir)) (hl : dir.length = n) (hw : Words (nu :: se :: sq :: dir)) (h : rightC z p b n = true) :
    Calls Tryz.prog 102 #[kV nu se sq z p b (.slice A n c)] w (fun r w' => ∃ (g cap : Nat) (ys : List Nat), r = .returned (.tuple #[.slice (some ⟨g, 0, none⟩) (blocksC nu se sq z p b dir).length cap, .nilIface]) ∧ Rows16 w' w.heap.size g cap ys (blocksC nu se sq z p b dir) ∧ Below w.heap.size w w') := by
  refine (kblocks_rows nu se sq z p b hr hl hw h).mono ?_
  rintro r w' ⟨g, cap, K, ys, rfl, h1, h2, h3, h4, h5, h6⟩
  subst h3
  exact ⟨g, cap, ys, rfl, ⟨h2, h1, h4, h5, blocksC_16⟩, h6⟩
end Go.Proofs.YthmpimjmajoimaaGreatDoor
namespace Go.Proofs.YthmpimjmajoimaaGreatDoor

/-- A checkpoint. -/
structure ChkS where
  nu : Int
  se : Int
  sq : Int
  z : Int
  p : Int
  b : Int
  dir : List Int
/-- A page's error, as it is read. -/
def pgE (ps : List Int) : Int := if ps.length ≠ 33 then 3 else if bk ps 13 ≠ tot ps then 4 else if (decide (1 ≤ ps.getD 0 0) && decide (ps.getD 0 0 ≤ 5)) = false then 2 else 0
namespace ChkS
def zero : ChkS := ⟨0, 0, 0, 0, 0, 0, []⟩
def right (c : ChkS) : Bool := rightC c.z c.p c.b c.dir.length
def blocks (c : ChkS) : List (List Int) := blocksC c.nu c.se c.sq c.z c.p c.b c.dir
def words (c : ChkS) : Prop := Words4 (c.nu :: c.se :: c.sq :: c.dir)
def page (c : ChkS) (i : Nat) : List Int := pageB 5 c.se (i : Int) c.nu (c.blocks.getD i [])
def pages (c : ChkS) : List (List Int) := (List.range c.blocks.length).map c.page
end ChkS
/-- Is a page the i-th one of a checkpoint, whose first page is f? -/
def pgB (f : List Int) (i : Nat) (ps : List Int) : Bool := decide (pgE ps = 0) && (decide (ps.getD 0 0 = 5) && (decide (bk ps 5 = (i : Int)) && (decide (bk ps 1 = bk f 1) && decide (bk ps 9 = bk f 9))))
def pagesOk (l : List (List Int)) : Bool := (List.range l.length).all (fun i => pgB (l.getD 0 []) i (l.getD i []))
def blk17 (l : List (List Int)) : List (List Int) := l.map (fun ps => ps.drop 17)
/-- What pages say. -/
def chkOf (l : List (List Int)) : ChkS := ⟨numAt (blk17 l).flatten 0, numAt (blk17 l).flatten 1, numAt (blk17 l).flatten 2, numAt (blk17 l).flatten 3, numAt (blk17 l).flatten 4, numAt (blk17 l).flatten 5, readDir (blk17 l)⟩
def whereN (n : Nat) (nu : Int) : Int := (n : Int) - 2 + nu % 2
/-- Does a slot hold a checkpoint? -/
def holdB (n P : Nat) (zi : Int) (l : List (List Int)) : Bool :=
  pagesOk l && (decide (readGE (blk17 l) = 0) && (decide ((chkOf l).nu = bk (l.getD 0 []) 9) && (decide ((chkOf l).se = bk (l.getD 0 []) 1) && (decide ((chkOf l).z = (n : Int)) && (decide ((chkOf l).p = (P : Int)) && decide (whereN n (chkOf l).nu = zi))))))
namespace DevS
def slotB (S : DevS) (zi : Int) : Bool := decide (2 ≤ S.zones.length) && (decide (zi = (S.zones.length : Int) - 1) || decide (zi = (S.zones.length : Int) - 2))
def slE (S : DevS) (zi : Int) : Int := if S.gone = true then 7 else if S.slotB zi = false then 1 else if holdB S.zones.length S.P zi (S.zone zi).pages = true then 0 else 10
def slC (S : DevS) (zi : Int) : ChkS := if S.slE zi = 0 then chkOf (S.zone zi).pages else ChkS.zero
/-- The newest one. -/
def newE (S : DevS) : Int := if S.gone = true then 7 else if S.zones.length < 2 then 1 else if S.slE ((S.zones.length : Int) - 2) = 0 ∨ S.slE ((S.zones.length : Int) - 1) = 0 then 0 else 10
def newC (S : DevS) : ChkS :=
  if S.newE ≠ 0 then ChkS.zero
  else if S.slE ((S.zones.length : Int) - 2) ≠ 0 then S.slC ((S.zones.length : Int) - 1)
  else if S.slE ((S.zones.length : Int) - 1) ≠ 0 then S.slC ((S.zones.length : Int) - 2)
  else if (S.slC ((S.zones.length : Int) - 2)).nu = ((S.slC ((S.zones.length : Int) - 1)).nu + 1) % 4294967296 then S.slC ((S.zones.length : Int) - 2)
  else if (S.slC ((S.zones.length : Int) - 1)).nu = ((S.slC ((S.zones.length : Int) - 2)).nu + 1) % 4294967296 ∨ (S.slC ((S.zones.length : Int) - 2)).nu < (S.slC ((S.zones.length : Int) - 1)).nu then S.slC ((S.zones.length : Int) - 1)
  else S.slC ((S.zones.length : Int) - 2)
/-- Pages that are appended, one behind the other, till one isn't. -/
def appL (S : DevS) (zi : Int) : List (List Int) → DevS × Int
  | [] => (S, 0)
  | b :: r => if S.mayE (S.appE zi b) = 0 then (S.app zi b).appL zi r else (S.app zi b, S.mayE (S.appE zi b))
def wrArg (S : DevS) (c : ChkS) : Bool := !c.right || (decide (c.z ≠ (S.zones.length : Int)) || decide (c.p ≠ (S.P : Int)))
/-- A checkpoint that is written: the device behind it, the error. -/
def wr (S : DevS) (c : ChkS) : DevS × Int :=
  if S.wrArg c = true then (S, 1)
  else if S.mayE (S.resetE (whereN S.zones.length c.nu)) ≠ 0 then (S.reset (whereN S.zones.length c.nu), S.mayE (S.resetE (whereN S.zones.length c.nu)))
  else if ((S.reset (whereN S.zones.length c.nu)).appL (whereN S.zones.length c.nu) c.pages).2 ≠ 0 then (S.reset (whereN S.zones.length c.nu)).appL (whereN S.zones.length c.nu) c.pages
  else (((S.reset (whereN S.zones.length c.nu)).appL (whereN S.zones.length c.nu) c.pages).1.flush, ((S.reset (whereN S.zones.length c.nu)).appL (whereN S.zones.length c.nu) c.pages).1.mayE 0)
end DevS

namespace ChkS
variable {c : ChkS}
theorem right_bd (h : c.right = true) : (11 ≤ c.z ∧ c.z ≤ 24) ∧ (4 ≤ c.p ∧ c.p ≤ 16) := by
  have := rightB_bd (right_parts h).1
  exact ⟨this.1, this.2.1⟩
theorem blocks_le (h : c.right = true) : 2 ≤ c.blocks.length ∧ (c.blocks.length : Int) ≤ c.p := by
  have h1 := blocksC_len (nu := c.nu) (se := c.se) (sq := c.sq) (z := c.z) (p := c.p) (b := c.b) (dir := c.dir) h
  have h2 := many_fits (z := c.z) (p := c.p) (b := c.b) (dir := c.dir) h
  have hb := rightB_bd (right_parts h).1
  have h3 : 2 ≤ manyC c.b := by
    unfold manyC
    omega
  have h1 : (c.blocks.length : Int) = manyC c.b := h1
  omega
theorem pages_len : c.pages.length = c.blocks.length := by simp [pages]
theorem pages_get {i : Nat} (h : i < c.pages.length) : c.pages[i] = c.page i := by simp [pages]
theorem block_16 {i : Nat} (h : i < c.blocks.length) : (c.blocks.getD i []).length = 16 := by
  rw [List.getD_eq_getElem?_getD, List.getElem?_eq_getElem h]
  exact blocksC_16 _ (List.getElem_mem h)
theorem block_byt (i : Nat) : Byt (c.blocks.getD i []) := by
  rw [List.getD_eq_getElem?_getD]
  rcases Nat.lt_or_ge i c.blocks.length with h | h
  · rw [List.getElem?_eq_getElem h]
    exact blocksC_byt _ (List.getElem_mem h)
  · rw [List.getElem?_eq_none h]
    exact Byt.nil
theorem page_33 {i : Nat} (h : i < c.blocks.length) : (c.page i).length = 33 := by
  unfold page
  rw [pageB_len, block_16 h]
theorem page_byt (i : Nat) : Byt (c.page i) := byt_page _ _ _ (by decide) (by decide) (block_byt i)
theorem page_E {i : Nat} (h : i < c.blocks.length) : pgE (c.page i) = 0 := by
  unfold pgE
  rw [if_neg (by rw [page_33 h]; decide)]
  have e : bk (c.page i) 13 = tot (c.page i) := by
    unfold page
    rw [page_bk13, page_tot]
  rw [if_neg (by rw [e]; simp)]
  rw [show (c.page i).getD 0 0 = 5 from rfl]
  decide
theorem words_bd (h : c.words) : (0 ≤ c.nu ∧ c.nu ≤ 4294967295) ∧ (0 ≤ c.se ∧ c.se ≤ 4294967295) := ⟨h _ (by simp), h _ (by simp)⟩
theorem pages_blk (_h : c.right = true) : blk17 c.pages = c.blocks := by
  have e : blk17 c.pages = (List.range c.blocks.length).map (fun i => c.blocks.getD i []) := by
    unfold blk17 pages
    rw [List.map_map]
    rfl
  rw [e]
  apply List.ext_getElem
  · simp
  · intro i h1 h2
    rw [List.getElem_map, List.getElem_range, List.getD_eq_getElem?_getD, List.getElem?_eq_getElem h2]
    rfl
theorem chk_pages (h : c.right = true) (hw : c.words) : chkOf c.pages = c := by
  have hn := fun i hi => blocksC_num (nu := c.nu) (se := c.se) (sq := c.sq) (z := c.z) (p := c.p) (b := c.b) (dir := c.dir) h hw i hi
  have hd := read_dir (nu := c.nu) (se := c.se) (sq := c.sq) (z := c.z) (p := c.p) (b := c.b) (dir := c.dir) h hw
  unfold chkOf
  rw [pages_blk h]
  have n0 := hn 0 (by omega)
  have n1 := hn 1 (by omega)
  have n2 := hn 2 (by omega)
  have n3 := hn 3 (by omega)
  have n4 := hn 4 (by omega)
  have n5 := hn 5 (by omega)
  simp only [numsC, List.getElem_cons_succ, List.getElem_cons_zero] at n0 n1 n2 n3 n4 n5
  show (⟨numAt c.blocks.flatten 0, numAt c.blocks.flatten 1, numAt c.blocks.flatten 2, numAt c.blocks.flatten 3, numAt c.blocks.flatten 4, numAt c.blocks.flatten 5, readDir c.blocks⟩ : ChkS) = c
  unfold blocks
  rw [n0, n1, n2, n3, n4, n5, hd]
theorem pages_ok (h : c.right = true) (hw : c.words) : pagesOk c.pages = true := by
  have hb := words_bd hw
  have hl := blocks_le h
  have hp := right_bd h
  unfold pagesOk
  rw [List.all_eq_true]
  intro i hi
  have hi := List.mem_range.1 hi
  have hi2 : i < c.blocks.length := by rw [← pages_len]; exact hi
  have g : ∀ j, j < c.blocks.length → c.pages.getD j [] = c.page j := fun j hj => by
    have : j < c.pages.length := by rw [pages_len]; exact hj
    rw [List.getD_eq_getElem?_getD, List.getElem?_eq_getElem this, pages_get]
    rfl
  rw [g i hi2, g 0 (by omega)]
  unfold pgB
  have e5 : bk (c.page i) 5 = (i : Int) := page_bk5 (by omega) (by omega)
  have e1 : ∀ j, bk (c.page j) 1 = c.se := fun j => page_bk1 hb.2.1 hb.2.2
  have e9 : ∀ j, bk (c.page j) 9 = c.nu := fun j => page_bk9 hb.1.1 hb.1.2
  rw [page_E hi2, e5, e1, e1, e9, e9, show (c.page i).getD 0 0 = 5 from rfl]
  simp
theorem hold_pages (h : c.right = true) (hw : c.words) {n P : Nat} (hz : c.z = (n : Int)) (hp : c.p = (P : Int)) : holdB n P (whereN n c.nu) c.pages = true := by
  have hb := words_bd hw
  have hl := blocks_le h
  unfold holdB
  have h0 : c.pages.getD 0 [] = c.page 0 := by
    have : 0 < c.pages.length := by rw [pages_len]; omega
    rw [List.getD_eq_getElem?_getD, List.getElem?_eq_getElem this, pages_get]
    rfl
  have e1 : bk (c.page 0) 1 = c.se := page_bk1 hb.2.1 hb.2.2
  have e9 : bk (c.page 0) 9 = c.nu := page_bk9 hb.1.1 hb.1.2
  have er : readGE c.blocks = 0 := read_blocks (nu := c.nu) (se := c.se) (sq := c.sq) (z := c.z) (p := c.p) (b := c.b) (dir := c.dir) h hw
  rw [pages_ok h hw, pages_blk h, chk_pages h hw, h0, e1, e9, hz, hp, er]
  simp
end ChkS
/-- Of a beginning of a checkpoint's blocks nothing comes back. -/
theorem read_begin {c : ChkS} (h : c.right = true) (hw : c.words) {t : Nat} (ht : t < c.blocks.length) : readGE (c.blocks.take t) ≠ 0 := by
  intro h0
  have h16 : ∀ x ∈ c.blocks, x.length = 16 := blocksC_16
  obtain ⟨⟨h2, _⟩, _, hm, _⟩ := read_parts h0
  have hl : (c.blocks.length : Int) = manyC c.b := blocksC_len (nu := c.nu) (se := c.se) (sq := c.sq) (z := c.z) (p := c.p) (b := c.b) (dir := c.dir) h
  have h5 : numAt c.blocks.flatten 5 = _ := blocksC_num (nu := c.nu) (se := c.se) (sq := c.sq) (z := c.z) (p := c.p) (b := c.b) (dir := c.dir) h hw 5 (by omega)
  simp only [numsC, List.getElem_cons_succ, List.getElem_cons_zero] at h5
  rw [List.length_take] at h2 hm
  rw [take_flatten16 h16] at hm
  have e : numAt (c.blocks.flatten.take (16 * t)) 5 = numAt c.blocks.flatten 5 := numAt_congr (getD_take (by omega)) (getD_take (by omega)) (getD_take (by omega)) (getD_take (by omega))
  rw [e, h5] at hm
  omega
theorem hold_begin {c : ChkS} (h : c.right = true) (hw : c.words) {n P : Nat} {zi : Int} {t : Nat} (ht : t < c.pages.length) : holdB n P zi (c.pages.take t) = false := by
  have e : blk17 (c.pages.take t) = c.blocks.take t := by
    rw [← ChkS.pages_blk h]
    simp [blk17, List.map_take]
  have := read_begin h hw (t := t) (by rw [← ChkS.pages_len]; exact ht)
  unfold holdB
  rw [e]
  simp [this]
/-- A torn page isn't one of a checkpoint. -/
theorem hold_torn {n P : Nat} {zi : Int} {l : List (List Int)} (h : [] ∈ l) : holdB n P zi l = false := by
  obtain ⟨i, hi, e⟩ := List.getElem_of_mem h
  have : pagesOk l = false := by
    cases hp : pagesOk l with
    | false => rfl
    | true =>
      unfold pagesOk at hp
      rw [List.all_eq_true] at hp
      have := hp i (List.mem_range.2 hi)
      rw [List.getD_eq_getElem?_getD (i := i), List.getElem?_eq_getElem hi, e] at this
      simp [pgB, pgE] at this
  unfold holdB
  rw [this]
  rfl
theorem hold_nil {n P : Nat} {zi : Int} : holdB n P zi [] = false := by
  have : readGE (blk17 []) = 3 := by decide
  unfold holdB
  rw [this]
  simp
end Go.Proofs.YthmpimjmajoimaaGreatDoor

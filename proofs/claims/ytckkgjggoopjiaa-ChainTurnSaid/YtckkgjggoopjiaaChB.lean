/-
  The document's Of; the law's heads; awake.
-/
import Derived.Test.YtckkgjggoopjiaaChA
namespace Go.Proofs.Ytckkgjggoopjiaa
open Go.RowKit

theorem pre_none {s q : Int} {l : List HdS} {c : List Nat} (h : ∀ j (hj : j < c.length), HdS.findL s (q + 1 + (j : Int)) l = some c[j]) (hn : HdS.findL s (q + 1 + (c.length : Int)) l = none) : c = HdS.chL s q l := HdS.ChS.uniq ⟨h, hn⟩ (HdS.ch_is s q l)
theorem pre_full {s q : Int} {l : List HdS} {c : List Nat} (h : ∀ j (hj : j < c.length), HdS.findL s (q + 1 + (j : Int)) l = some c[j]) (hn : c.length = l.length) : c = HdS.chL s q l := by
  have hc := HdS.ch_is s q l
  have hle := HdS.ch_len s q l
  rcases Nat.lt_or_ge (HdS.chL s q l).length c.length with h1 | h1
  · have h2 := h _ h1
    rw [hc.no] at h2
    cases h2
  · refine List.ext_getElem (by omega) fun j h3 h4 => ?_
    have e1 := h j h3
    rw [hc.at' j h4] at e1
    exact (Option.some.inj e1).symm
theorem pre_step {s q : Int} {l : List HdS} {c : List Nat} {k i : Nat} (h : ∀ j (hj : j < c.length), HdS.findL s (q + 1 + (j : Int)) l = some c[j]) (hk : c.length = k) (hf : HdS.findL s (q + 1 + (k : Int)) l = some i) : ∀ j (hj : j < (c ++ [i]).length), HdS.findL s (q + 1 + (j : Int)) l = some (c ++ [i])[j] := by
  intro j hj
  by_cases e : j < c.length
  · rw [List.getElem_append_left e]
    exact h j e
  · obtain rfl : j = k := by rw [List.length_append] at hj; simp at hj; omega
    rw [List.getElem_append_right (by omega), hf]
    simp [hk]
theorem nats_snoc1 (l : List Nat) (x : Nat) : iCells (nats l) ++ [.int .i64 (x : Int)] = iCells (nats (l ++ [x])) := by simp [iCells, nats]
theorem PlsIs.of {c : List Nat} {w w' : World} {v : Value} {base : Nat} (h : OwnK w' base 3 1 v c.length (iCells (nats c))) (hb : Below w.heap.size w w') : PlsIs c w (.returned v) w' := by
  obtain ⟨A, k, rfl, h1, _, h2⟩ := h.form
  exact ⟨A, k, rfl, h.rd, h1, h2, hb⟩
set_option maxHeartbeats 2000000 in
set_option maxRecDepth 100000 in
theorem rnof_at {w : World} {A : Option Addr} {n c : Nat} (s q : Int) (l : List HdS) (hl : l.length = n) (hr : RdV w w.heap.size A (hsC l)) (hn : n ≤ 400) (hb : SeqOk l) (q0 : 0 ≤ q) (q1 : q < 4294967296) : Calls Try.prog 10 #[.int .u32 s, .int .u32 q, .slice A n c] w (PlsIs (HdS.chL s q l) w) := by
  have HR := Lib.hid hr
  have HN := Lib.hid hl
  have HSO := Lib.hid hb
  clear hr hl hb
  have HO1 : Hid (OwnK (w.alloc (.cells #[] 3)) w.heap.size 3 1 (.slice (some ⟨w.heap.size, 0, none⟩) 0 0) 0 []) := Lib.hid (OwnK.new w w.heap.size 3 1 0 [] (Nat.le_refl _) rfl (by omega))
  have HB1 : Hid (Below w.heap.size w (w.alloc (.cells #[] 3))) := Lib.hid ((Below.refl _ _).alloc (Nat.le_refl _) _)
  go_enter Try.func10, Try.ntmps10
  go_wp2_with fail
  go_loopg [1, 7, 8] n (fun g x u y wr => ∃ (k : Nat) (ch : List Nat), k ≤ n ∧ g = n - k ∧ x = .int .u32 (q + (k : Int)) ∧ y = .int .i64 (k : Int) ∧ ch.length = k ∧ q + (k : Int) < 4294967296 ∧ (∀ j (hj : j < ch.length), HdS.findL s (q + 1 + (j : Int)) l = some ch[j]) ∧ OwnK wr w.heap.size 3 1 u k (iCells (nats ch)) ∧ Below w.heap.size w wr)
  case atStart => exact ⟨0, [], by omega, by omega, by simp, rfl, rfl, by simpa using q1, fun j hj => by simp at hj, HO1.out, HB1.out⟩
  case round =>
    clear HO1 HB1
    obtain ⟨k, ch, hk, hg, rfl, rfl, hlen, hbd, hat, ho, hb⟩ := hrel
    have HG := Lib.hid hg
    have HLEN := Lib.hid hlen
    have HAT := Lib.hid hat
    have HO := Lib.hid ho
    have HB := Lib.hid hb
    clear hg hlen hat ho hb
    by_cases hlt : k < n
    · have HNO : Hid (HdS.findL s (q + 1 + (k : Int)) l = none → ch = HdS.chL s q l) := Lib.hid (fun h => pre_none HAT.out (by rw [HLEN.out]; exact h))
      have HYE : Hid (∀ i, HdS.findL s (q + 1 + (k : Int)) l = some i → ∀ j (hj : j < (ch ++ [i]).length), HdS.findL s (q + 1 + (j : Int)) l = some (ch ++ [i])[j]) := Lib.hid (fun i h => pre_step HAT.out HLEN.out h)
      have HBO : Hid (q + (k : Int) = 4294967295 → HdS.findL s (q + 1 + (k : Int)) l = none) := Lib.hid (fun e => HdS.find_none.2 (fun x hx => hit_no3 (by have := HSO.out x hx; omega)))
      have hq1 : q + 1 + (k : Int) = q + (k : Int) + 1 := by omega
      rw [hq1] at HNO HYE HBO
      obtain ⟨sq, hsq⟩ : ∃ x, q + (k : Int) = x := ⟨_, rfl⟩
      have HSQ : Hid (q + ((k + 1 : Nat) : Int) = sq + 1) := Lib.hid (by omega)
      rw [hsq] at HNO HYE HBO hbd ⊢
      have hs0 : 0 ≤ sq := by omega
      by_cases hmx : sq = 4294967295
      · have HC := Lib.hid (HNO.out (HBO.out hmx))
        have d : (sq == 4294967295) = true := by simpa using hmx
        have HE : Hid (PlsIs (HdS.chL s q l) w (.returned u7) wr) := Lib.hid (PlsIs.of (by rw [← HC.out, HLEN.out]; exact HO.out) HB.out)
        clear hmx hsq hq1 HNO HYE HBO
        go_wp2_with fail
        go_ret
        exact HE.out
      · have d : (sq == 4294967295) = false := by simpa using hmx
        have hw1 : IntKind.u32.wrap (sq + 1) = sq + 1 := by
          rw [IntKind.wrap_u32]
          exact Int.emod_eq_of_lt (by omega) (by omega)
        have HFD := Lib.hid (fun (u : World) (hu : RdV u u.heap.size A (hsC l)) => rnfind_at (w := u) (A := A) (c := c) s (sq + 1) l HN.out hu (by omega))
        have HRW := Lib.hid (HR.out.up HB.out)
        have hbd2 : sq + 1 < 4294967296 := by omega
        cases hf : HdS.findL s (sq + 1) l with
        | none =>
          have HC := Lib.hid (HNO.out hf)
          have HE : Hid (PlsIs (HdS.chL s q l) w (.returned u7) wr) := Lib.hid (PlsIs.of (by rw [← HC.out, HLEN.out]; exact HO.out) HB.out)
          rw [hf] at HFD
          have HF2 : Hid (∀ (u : World), RdV u u.heap.size A (hsC l) → Calls Try.prog 13 #[.int .u32 s, .int .u32 (sq + 1), .slice A n c] u (IntIs (-1) u)) := Lib.hid (fun u hu => HFD.out u hu)
          clear hmx hsq hq1 HNO HYE HBO HFD hf
          go_wp2_with fail
          refine (HF2.out _ HRW.out).mono ?_
          rintro r w' ⟨rfl, rfl⟩
          go_wp2_with fail
          go_ret
          exact HE.out
        | some i =>
          have HY := Lib.hid (HYE.out i hf)
          rw [hf] at HFD
          have HF2 : Hid (∀ (u : World), RdV u u.heap.size A (hsC l) → Calls Try.prog 13 #[.int .u32 s, .int .u32 (sq + 1), .slice A n c] u (IntIs (i : Int) u)) := Lib.hid (fun u hu => HFD.out u hu)
          obtain ⟨w7, hw7⟩ : ∃ w7, wr.alloc (.cells #[.int .i64 (i : Int)] 3) = w7 := ⟨_, rfl⟩
          have hb7 : Below wr.heap.size wr w7 := by rw [← hw7]; exact (Below.refl _ _).alloc (Nat.le_refl _) _
          have HO7 := Lib.hid (HO.out.up hb7)
          have HB7 := Lib.hid (below_all HB.out hb7)
          have HR7 : Hid (RdV w7 w7.heap.size (some ⟨wr.heap.size, 0, none⟩) [.int .i64 (i : Int)]) := Lib.hid (by rw [← hw7]; exact row_rd wr [.int .i64 (i : Int)])
          clear hmx hsq hq1 HNO HYE HBO HFD hf hb7
          go_wp2_with fail
          refine (HF2.out _ HRW.out).mono ?_
          rintro r w' ⟨rfl, rfl⟩
          clear HF2
          go_wp2_with (first
            | (at_builtin; refine appP _ rfl (.tmp 28) (.tmp 30) 26 3 (.int .i64 0) 1 8 rfl Try.underlying26 intInfo rfl (by decide) (by decide) w.heap.size k 1 1 u7 (iCells (nats ch)) [.int .i64 (i : Int)] (some ⟨wr.heap.size, 0, none⟩) rfl HO7.out rfl rfl HR7.out (fun e => by cases e) (fun u hu => by simp only [List.mem_cons, List.not_mem_nil, or_false] at hu; rcases hu with rfl; rfl) (by omega) HB7.out.size ?_; intro v8 w8 ho hg; have HO8 : Hid (OwnK w8 w.heap.size 3 1 v8 (k + 1) (iCells (nats (ch ++ [i])))) := Lib.hid (by rw [← nats_snoc1]; exact ho); have HB8 := Lib.hid (below_grown HB7.out hg (fun e he => HO7.out.own e he)); clear ho hg)
            | fail)
          go_roundg (n - (k + 1))
          case rel => exact ⟨k + 1, ch ++ [i], by omega, rfl, by rw [HSQ.out], by go_num, by rw [List.length_append, HLEN.out]; rfl, by rw [HSQ.out]; omega, HY.out, HO8.out, HB8.out⟩
          case measure => have := HG.out; omega
    · obtain rfl : k = n := by omega
      have HC := Lib.hid (pre_full HAT.out (by rw [HLEN.out, HN.out]))
      have HE : Hid (PlsIs (HdS.chL s q l) w (.returned u7) wr) := Lib.hid (PlsIs.of (by rw [← HC.out, HLEN.out]; exact HO.out) HB.out)
      clear HC
      go_wp2_with fail
      go_ret
      exact HE.out
theorem rnInfo : (Try.prog.info? 42).map (fun i => (i.zero, i.size, i.bytes)) = some (some (.agg #[.int .u8 0, .int .u32 0, .int .u32 0, .int .u32 0]), 4, 16) := by kernel_rfl
theorem hs_snoc {l : List HdS} {i : Nat} (hi : i < l.length) {e : HdS} (he : l[i] = e) : hsC (l.take i) ++ [.int .u8 e.k, .int .u32 e.s, .int .u32 e.i, .int .u32 e.q] = hsC (l.take (i + 1)) := by
  rw [List.take_succ_eq_append_getElem hi, hsC_app, he]
  simp [hsC, hC]
set_option maxHeartbeats 2000000 in
set_option maxRecDepth 100000 in
theorem cnheads_at {w : World} {A : Option Addr} {n c : Nat} (l : List HdS) (hl : l.length = n) (hr : RdV w w.heap.size A (hsC l)) (hn : n ≤ 400) : Calls Try.prog 11 #[.slice A n c] w (HsIs 42 l w) := by
  have HR := Lib.hid hr
  have HN := Lib.hid hl
  clear hr hl
  have HO1 : Hid (OwnK (w.alloc (.cells #[] 42)) w.heap.size 42 4 (.slice (some ⟨w.heap.size, 0, none⟩) 0 0) 0 []) := Lib.hid (OwnK.new w w.heap.size 42 4 0 [] (Nat.le_refl _) rfl (by omega))
  have HB1 : Hid (Below w.heap.size w (w.alloc (.cells #[] 42))) := Lib.hid ((Below.refl _ _).alloc (Nat.le_refl _) _)
  go_enter Try.func11, Try.ntmps11
  go_wp2_with fail
  go_loopg [3, 9] n (fun g u y wr => ∃ i : Nat, i ≤ n ∧ g = n - i ∧ y = .int .i64 (i : Int) ∧ OwnK wr w.heap.size 42 4 u i (hsC (l.take i)) ∧ Below w.heap.size w wr)
  case atStart => exact ⟨0, by omega, by omega, rfl, HO1.out, HB1.out⟩
  case round =>
    clear HO1 HB1
    obtain ⟨i, hi, hg, rfl, ho, hb⟩ := hrel
    have HG := Lib.hid hg
    have HO := Lib.hid ho
    have HB := Lib.hid hb
    clear hg ho hb
    by_cases hlt : i < n
    · have hil : i < l.length := by rw [HN.out]; exact hlt
      obtain ⟨b, o, rfl, hbl, hcell⟩ := (HR.out.below HB.out) (by rw [hsC_len, HN.out]; omega)
      obtain ⟨c0, c1, c2, c3⟩ := h_cells hcell i hil
      obtain ⟨e, he⟩ : ∃ e, l[i] = e := ⟨_, rfl⟩
      have HSN := Lib.hid (hs_snoc hil he)
      rw [he] at c0 c1 c2 c3
      obtain ⟨k0, hk0⟩ : ∃ x, e.k = x := ⟨_, rfl⟩
      obtain ⟨s0, hs0⟩ : ∃ x, e.s = x := ⟨_, rfl⟩
      obtain ⟨i0, hi0⟩ : ∃ x, e.i = x := ⟨_, rfl⟩
      obtain ⟨q0, hq0⟩ : ∃ x, e.q = x := ⟨_, rfl⟩
      rw [hk0] at c0
      rw [hs0] at c1
      rw [hi0] at c2
      rw [hq0] at c3
      rw [hk0, hs0, hi0, hq0] at HSN
      obtain ⟨w6, hw6⟩ : ∃ w6, wr.alloc (.cells #[.int .u8 k0, .int .u32 s0, .int .u32 i0, .int .u32 q0] 34) = w6 := ⟨_, rfl⟩
      have hb6 : Below wr.heap.size wr w6 := by rw [← hw6]; exact (Below.refl _ _).alloc (Nat.le_refl _) _
      have hx6 : Blk w6 wr.heap.size 34 [.int .u8 k0, .int .u32 s0, .int .u32 i0, .int .u32 q0] := by rw [← hw6]; exact heap_alloc_new wr _
      have z0 := hx6.cell 0 (by simp)
      have z1 := hx6.cell 1 (by simp)
      have z2 := hx6.cell 2 (by simp)
      have z3 := hx6.cell 3 (by simp)
      simp only [List.getElem_cons_zero, List.getElem_cons_succ] at z0 z1 z2 z3
      obtain ⟨a, ha⟩ : ∃ a, wr.heap.size = a := ⟨_, rfl⟩
      rw [ha] at z0 z1 z2 z3
      obtain ⟨w7, hw7⟩ : ∃ w7, w6.alloc (.cells #[.int .u8 k0, .int .u32 s0, .int .u32 i0, .int .u32 q0] 42) = w7 := ⟨_, rfl⟩
      have hb7 : Below w6.heap.size w6 w7 := by rw [← hw7]; exact (Below.refl _ _).alloc (Nat.le_refl _) _
      have HO7 := Lib.hid ((HO.out.up hb6).up hb7)
      have HB7 := Lib.hid (below_all (below_all HB.out hb6) hb7)
      have HR7 : Hid (RdV w7 w7.heap.size (some ⟨w6.heap.size, 0, none⟩) [.int .u8 k0, .int .u32 s0, .int .u32 i0, .int .u32 q0]) := Lib.hid (fun _ => ⟨w6.heap.size, 0, rfl, by rw [← hw7]; simp, fun j hj => by rw [Nat.zero_add, ← hw7]; exact Blk.cell (T := 42) (heap_alloc_new w6 _) j hj⟩)
      clear hcell he hil hk0 hs0 hi0 hq0 hb6 hb7 hx6 HO HB
      go_wp2_with (first
        | (at_builtin; go_loud (refine appP _ rfl (.tmp 13) (.tmp 15) 29 42 (.agg #[.int .u8 0, .int .u32 0, .int .u32 0, .int .u32 0]) 4 16 rfl Try.underlying29 rnInfo rfl (by decide) (by decide) w.heap.size i 1 1 u3 (hsC (l.take i)) [.int .u8 k0, .int .u32 s0, .int .u32 i0, .int .u32 q0] (some ⟨w6.heap.size, 0, none⟩) rfl HO7.out rfl rfl HR7.out (fun e => by cases e) (fun u hu => by simp only [List.mem_cons, List.not_mem_nil, or_false] at hu; rcases hu with rfl | rfl | rfl | rfl <;> rfl) (by omega) HB7.out.size ?_; intro v8 w8 ho hg; have HO8 : Hid (OwnK w8 w.heap.size 42 4 v8 (i + 1) (hsC (l.take (i + 1)))) := Lib.hid (by rw [← HSN.out]; exact ho); have HB8 := Lib.hid (below_grown HB7.out hg (fun e he => HO7.out.own e he)); clear ho hg))
        | fail)
      go_roundg (n - (i + 1))
      case rel => exact ⟨i + 1, by omega, rfl, by go_num, HO8.out, HB8.out⟩
      case measure => have := HG.out; omega
    · obtain rfl : i = n := by omega
      have hto : l.take i = l := List.take_of_length_le (by rw [HN.out]; exact Nat.le_refl _)
      rw [hto] at HO
      have HE : Hid (HsIs 42 l w (.returned u3) wr) := Lib.hid ⟨_, rfl, by rw [HN.out]; exact HO.out, HB.out⟩
      clear HO hto
      go_wp2_with fail
      go_ret
      exact HE.out
end Go.Proofs.Ytckkgjggoopjiaa

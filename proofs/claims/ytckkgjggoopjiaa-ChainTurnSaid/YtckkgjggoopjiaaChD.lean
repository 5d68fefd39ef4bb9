/-
  platelayerlaw14.ChainLinks answers true.
-/
import Derived.Test.YtckkgjggoopjiaaChC
namespace Go.Proofs.Ytckkgjggoopjiaa
open Go.RowKit

theorem u64_in {x : Int} (h : 0 ≤ x) (h2 : x < 18446744073709551616) : IntKind.u64.wrap x = x := by
  rw [IntKind.wrap_u64]
  exact Int.emod_eq_of_lt h h2
set_option maxHeartbeats 4000000 in
set_option maxRecDepth 100000 in
theorem cnlinks_true (O : COps) {w : World} (s q : Int) (q0 : 0 ≤ q) (q1 : q < 4294967296) (A : Option Addr) (n c : Nat) (l : List HdS) (hl : l.length = n) (hr : RdV w w.heap.size A (hsC l)) (hnc : n ≤ c) (hz : A = none → c = 0) (hb : SeqOk l) : Calls Try.prog 4 #[.int .u32 s, .int .u32 q, .slice A n c] w (BoolB true w) := by
  have HR := Lib.hid hr
  have HN := Lib.hid hl
  have HNC := Lib.hid hnc
  have HZ := Lib.hid hz
  have HSO := Lib.hid hb
  have hw0 : IntKind.u64.wrap q = q := u64_in (by omega) (by omega)
  clear hr hl hnc hz hb
  go_enter Try.func4, Try.ntmps4
  go_wp2_with fail
  refine (cnawake_true O w).mono ?_
  rintro r w1 ⟨rfl, hb⟩
  have HB1 := Lib.hid hb
  clear hb
  by_cases hmm : 200 < n
  · have d : decide ((200 : Int) < (n : Int)) = true := by simp; omega
    go_wp2_with fail
    go_ret
    exact ⟨rfl, HB1.out⟩
  have d : decide ((200 : Int) < (n : Int)) = false := by simp; omega
  have hn : n ≤ 400 := by omega
  go_wp2_with fail
  refine (O.of s q l HN.out (HR.out.up HB1.out) HNC.out HZ.out hn HSO.out q0 q1).mono ?_
  rintro r w2 ⟨A2, k2, rfl, hr2, _, _, hb⟩
  have HB2 := Lib.hid (below_all HB1.out hb)
  have HR2 := Lib.hid hr2
  have HCH := Lib.hid (HdS.ch_is s q l)
  have HCL : Hid ((HdS.chL s q l).length ≤ n) := Lib.hid (by have := HdS.ch_len s q l; rw [HN.out] at this; omega)
  clear hb hr2 HB1
  obtain ⟨ch, hch⟩ : ∃ x, HdS.chL s q l = x := ⟨_, rfl⟩
  rw [hch] at HR2 HCH HCL ⊢
  obtain ⟨m, hm⟩ : ∃ x, ch.length = x := ⟨_, rfl⟩
  have HM := Lib.hid hm
  rw [hm] at HCL ⊢
  have hmn := HCL.out
  clear hch hm HCL
  go_wp2_with fail
  go_loopg [7, 24] m (fun g x y wr => ∃ i : Nat, i ≤ m ∧ g = m - i ∧ x = .int .u64 (q + (i : Int)) ∧ y = .int .i64 (i : Int) ∧ Below w2.heap.size w2 wr)
  case atStart => exact ⟨0, by omega, by omega, by simp, rfl, Below.refl _ _⟩
  case round =>
    obtain ⟨i, hi, hg, rfl, rfl, hb⟩ := hrel
    have HG := Lib.hid hg
    have HB := Lib.hid hb
    clear hg hb
    by_cases hlt : i < m
    · have hil : i < ch.length := by rw [HM.out]; exact hlt
      obtain ⟨hx, _, hh⟩ := HCH.out.elem hil
      obtain ⟨b, o, rfl, hbl, hcell⟩ := (HR2.out.up HB.out) (by rw [iCells_len, nats_len, HM.out]; omega)
      have z0 := i_cellN hcell i hil
      obtain ⟨x, hxe⟩ : ∃ x, ch[i] = x := ⟨_, rfl⟩
      simp only [hxe] at hx hh z0
      obtain ⟨bl, ol, rfl, _, hcl⟩ := ((HR.out.up HB2.out).up HB.out) (by rw [hsC_len]; omega)
      obtain ⟨c0, c1, c2, c3⟩ := h_cells hcl x hx
      obtain ⟨⟨e1, e2⟩, e3⟩ := HdS.hit_iff.1 hh
      have hxn : x < n := by rw [← HN.out]; exact hx
      rw [e1] at c1
      rw [e3, show q + 1 + (i : Int) = q + (i : Int) + 1 by omega] at c3
      obtain ⟨sq, hsq⟩ : ∃ y, q + (i : Int) = y := ⟨_, rfl⟩
      have HSQ : Hid (q + ((i + 1 : Nat) : Int) = sq + 1) := Lib.hid (by omega)
      have hb1 : 0 ≤ sq ∧ sq < 8589934592 := by omega
      rw [hsq] at c3 ⊢
      have w1 : IntKind.u64.wrap (sq + 1) = sq + 1 := u64_in (by omega) (by omega)
      obtain ⟨k0, hk0⟩ : ∃ y, (l[x]'hx).k = y := ⟨_, rfl⟩
      obtain ⟨i0, hi0⟩ : ∃ y, (l[x]'hx).i = y := ⟨_, rfl⟩
      rw [hk0] at c0 e2
      rw [hi0] at c2
      have qs : (s != s) = false := by simp
      have qq : ((sq + 1) != (sq + 1)) = false := by simp
      clear hh e1 e3 hsq hcell hcl hk0 hi0
      rcases e2 with e2 | e2
      · rw [e2] at c0
        clear e2
        go_wp2_with fail
        go_roundg (m - (i + 1))
        case rel => exact ⟨i + 1, by omega, rfl, by rw [HSQ.out], by go_num, HB.out⟩
        case measure => have := HG.out; omega
      · rw [e2] at c0
        clear e2
        go_wp2_with fail
        go_roundg (m - (i + 1))
        case rel => exact ⟨i + 1, by omega, rfl, by rw [HSQ.out], by go_num, HB.out⟩
        case measure => have := HG.out; omega
    · obtain rfl : i = m := by omega
      have HNO : Hid (∀ h ∈ l, HdS.hit s (q + (i : Int) + 1) h = false) := Lib.hid (by
        have := HCH.out.no
        rw [HM.out, show q + 1 + (i : Int) = q + (i : Int) + 1 by omega] at this
        exact HdS.find_none.1 this)
      have HB3 := Lib.hid (below_all HB2.out HB.out)
      obtain ⟨sq, hsq⟩ : ∃ y, q + (i : Int) = y := ⟨_, rfl⟩
      have hb1 : 0 ≤ sq ∧ sq < 8589934592 := by omega
      rw [hsq] at HNO ⊢
      have w1 : IntKind.u64.wrap (sq + 1) = sq + 1 := u64_in (by omega) (by omega)
      clear hsq HCH HR2 HM hlt hi HG HB HB2
      go_wp2_with fail
      go_loopg [76] n (fun g y wx => ∃ k : Nat, k ≤ n ∧ g = n - k ∧ y = .int .i64 (k : Int) ∧ Below w.heap.size w wx)
      case atStart => exact ⟨0, by omega, by omega, rfl, HB3.out⟩
      case round =>
        clear HB3
        obtain ⟨k, hk, hg, rfl, hb⟩ := hrel
        have HG := Lib.hid hg
        have HB := Lib.hid hb
        clear hg hb
        by_cases hkn : k < n
        · have hkl : k < l.length := by rw [HN.out]; exact hkn
          obtain ⟨bl, ol, rfl, _, hcl⟩ := (HR.out.up HB.out) (by rw [hsC_len, HN.out]; omega)
          obtain ⟨c0, c1, c2, c3⟩ := h_cells hcl k hkl
          have hno := HNO.out _ (List.getElem_mem hkl)
          have hsk := HSO.out _ (List.getElem_mem hkl)
          obtain ⟨e, he⟩ : ∃ e, l[k] = e := ⟨_, rfl⟩
          rw [he] at c0 c1 c2 c3 hno hsk
          have hhit : Hid (e.s = s → (e.k = 1 ∨ e.k = 2) → ¬ e.q = sq + 1) := Lib.hid (fun h1 h2 h3 => by rw [HdS.hit_iff.2 ⟨⟨h1, h2⟩, h3⟩] at hno; cases hno)
          obtain ⟨k0, hk0⟩ : ∃ x, e.k = x := ⟨_, rfl⟩
          obtain ⟨s0, hs0⟩ : ∃ x, e.s = x := ⟨_, rfl⟩
          obtain ⟨i0, hi0⟩ : ∃ x, e.i = x := ⟨_, rfl⟩
          obtain ⟨p0, hp0⟩ : ∃ x, e.q = x := ⟨_, rfl⟩
          rw [hk0] at c0
          rw [hs0] at c1
          rw [hi0] at c2
          rw [hp0] at c3 hsk
          rw [hk0, hs0, hp0] at hhit
          have wp : IntKind.u64.wrap p0 = p0 := u64_in (by omega) (by omega)
          obtain ⟨w6, hw6⟩ : ∃ w6, wr.alloc (.cells #[.int .u8 k0, .int .u32 s0, .int .u32 i0, .int .u32 p0] 34) = w6 := ⟨_, rfl⟩
          have hb6 : Below wr.heap.size wr w6 := by rw [← hw6]; exact (Below.refl _ _).alloc (Nat.le_refl _) _
          have hx6 : Blk w6 wr.heap.size 34 [.int .u8 k0, .int .u32 s0, .int .u32 i0, .int .u32 p0] := by rw [← hw6]; exact heap_alloc_new wr _
          have z0 := hx6.cell 0 (by simp)
          have z1 := hx6.cell 1 (by simp)
          have z3 := hx6.cell 3 (by simp)
          simp only [List.getElem_cons_zero, List.getElem_cons_succ] at z0 z1 z3
          obtain ⟨a, ha⟩ : ∃ a, wr.heap.size = a := ⟨_, rfl⟩
          rw [ha] at z0 z1 z3
          have HB6 := Lib.hid (below_all HB.out hb6)
          clear hno he hk0 hs0 hi0 hp0 hb6 hx6 hcl hkl
          by_cases h1 : s0 = s
          · have q1 : (s0 == s) = true := by simpa using h1
            by_cases h2 : k0 = 1
            · have q2 : (k0 == 1) = true := by simpa using h2
              have q3 : (p0 == sq + 1) = false := by simp; exact hhit.out h1 (.inl h2)
              clear h1 h2 hhit
              go_wp2_with fail
              go_roundg (n - (k + 1))
              case rel => exact ⟨k + 1, by omega, rfl, by go_num, HB6.out⟩
              case measure => have := HG.out; omega
            · have q2 : (k0 == 1) = false := by simpa using h2
              by_cases h3 : k0 = 2
              · have q2b : (k0 == 2) = true := by simpa using h3
                have q3 : (p0 == sq + 1) = false := by simp; exact hhit.out h1 (.inr h3)
                clear h1 h2 h3 hhit
                go_wp2_with fail
                go_roundg (n - (k + 1))
                case rel => exact ⟨k + 1, by omega, rfl, by go_num, HB6.out⟩
                case measure => have := HG.out; omega
              · have q2b : (k0 == 2) = false := by simpa using h3
                clear h1 h2 h3 hhit
                go_wp2_with fail
                go_roundg (n - (k + 1))
                case rel => exact ⟨k + 1, by omega, rfl, by go_num, HB6.out⟩
                case measure => have := HG.out; omega
          · have q1 : (s0 == s) = false := by simpa using h1
            clear h1 hhit
            go_wp2_with fail
            go_roundg (n - (k + 1))
            case rel => exact ⟨k + 1, by omega, rfl, by go_num, HB6.out⟩
            case measure => have := HG.out; omega
        · go_wp2_with fail
          go_ret
          exact ⟨rfl, HB.out⟩
end Go.Proofs.Ytckkgjggoopjiaa

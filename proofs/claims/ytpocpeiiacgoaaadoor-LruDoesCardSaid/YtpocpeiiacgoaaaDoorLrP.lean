/-
  The document's ranking in memory: has, but, In, New, Insert, Remove, Touch, Victim.
-/
import Derived.Test.YtpocpeiiacgoaaaDoorLrF0
import Derived.Test.YtpocpeiiacgoaaaDoorLruMath2
import Derived.Test.YtpocpeiiacgoaaaDoorHand
namespace Go.Proofs.YtpocpeiiacgoaaaDoor
open Go.RowKit

theorem hasL_snoc {l : List Nat} {k : Nat} (h : k < l.length) (x : Int) : hasL (l.take (k + 1)) x = (hasL (l.take k) x || ((l[k] : Int) == x)) := by
  rw [List.take_add_one, List.getElem?_eq_getElem h]
  unfold hasL
  by_cases h0 : 0 ≤ x
  · obtain ⟨s, rfl⟩ := Int.eq_ofNat_of_zero_le h0
    have e : ((l[k] : Int) == (s : Int)) = decide (s = l[k]) := by
      by_cases e2 : s = l[k]
      · rw [e2]; simp
      · have : ¬ ((l[k] : Int) = (s : Int)) := by omega
        simp [e2, this]
    rw [e]
    simp only [Option.toList, Int.toNat_natCast, List.mem_append, List.mem_singleton, Bool.true_and, decide_true, h0, Bool.decide_or]
  · have e : ((l[k] : Int) == x) = false := by simp; omega
    rw [e]
    simp [h0]
def HasIs (b : Bool) (w : World) (r : Ending) (w' : World) : Prop := r = .returned (.bool b) ∧ w = w'
set_option maxHeartbeats 1000000 in
theorem rhas_at {w : World} {A : Option Addr} {n c : Nat} {l : List Nat} (x : Int) (hr : RdV w w.heap.size A (iCells (nats l))) (hl : l.length = n) (hn : n ≤ 1000) : Calls Tryd.prog 38 #[.slice A n c, .int .i64 x] w (HasIs (hasL l x) w) := by
  have HR := Lib.hid hr
  have HL := Lib.hid hl
  clear hr hl
  go_enter Tryd.func38, Tryd.ntmps38
  go_wp2_with fail
  go_loopg [5] n (fun q y wr => ∃ k : Nat, k ≤ n ∧ q = n - k ∧ y = .int .i64 k ∧ hasL (l.take k) x = false ∧ w = wr)
  case atStart => exact ⟨0, by omega, by omega, rfl, by simp [hasL], rfl⟩
  case round =>
    obtain ⟨k, hk, hq, rfl, ht, rfl⟩ := hrel
    have HQ := Lib.hid hq
    have HT := Lib.hid ht
    clear hq ht
    by_cases hlt : k < n
    · have hll : k < l.length := by rw [HL.out]; exact hlt
      obtain ⟨b, o, rfl, hbl, hcell⟩ := HR.out (by rw [iCells_len, nats_len]; omega)
      have c0 := rdv_i (B := 0) hcell k (by rw [nats_len]; exact hll)
      rw [show (nats l)[k]'(by rw [nats_len]; exact hll) = (l[k] : Int) by simp [nats]] at c0
      have HS := Lib.hid (hasL_snoc hll x)
      rw [HT.out, Bool.false_or] at HS
      obtain ⟨s, hs⟩ : ∃ s, l[k] = s := ⟨_, rfl⟩
      rw [hs] at c0 HS
      clear hcell hs
      cases he : ((s : Int) == x) with
      | true =>
        have HX : Hid (hasL l x = true) := Lib.hid (by
          have h1 := HS.out
          rw [he] at h1
          obtain ⟨u, rfl, hu⟩ := hasL_some h1
          rw [hasL_nat]
          exact decide_eq_true (List.mem_of_mem_take hu))
        go_wp2_with fail
        go_ret
        exact ⟨by rw [HX.out]; rfl, rfl⟩
      | false =>
        have HX : Hid (hasL (l.take (k + 1)) x = false) := Lib.hid (by rw [HS.out, he])
        go_wp2_with fail
        go_roundg (n - (k + 1))
        case rel => exact ⟨k + 1, by omega, rfl, by go_num, HX.out, rfl⟩
        case measure => have := HQ.out; omega
    · obtain rfl : k = n := by omega
      have HX : Hid (hasL l x = false) := Lib.hid (by
        have h1 := HT.out
        rwa [List.take_of_length_le (by rw [HL.out]; exact Nat.le_refl _)] at h1)
      go_wp2_with fail
      go_ret
      exact ⟨by rw [HX.out]; rfl, rfl⟩

def ButIs (l : List Nat) (w : World) (r : Ending) (w' : World) : Prop := ∃ g cap, r = .returned (.slice (some ⟨g, 0, none⟩) l.length cap) ∧ NatR w' w.heap.size g cap l ∧ Below w.heap.size w w'
set_option maxHeartbeats 2000000 in
theorem rbut_at {w : World} {A : Option Addr} {n c : Nat} {l : List Nat} (x : Int) (hr : RdV w w.heap.size A (iCells (nats l))) (hl : l.length = n) (hn : n ≤ 1000) : Calls Tryd.prog 33 #[.slice A n c, .int .i64 x] w (ButIs (RkS.telL true x l) w) := by
  have HR := Lib.hid hr
  have HL := Lib.hid hl
  clear hr hl
  have HN1 : Hid (NatR (w.alloc (.cells #[] 3)) w.heap.size w.heap.size 0 []) := Lib.hid (NatR.new w _ (Nat.le_refl _) [] (by simp))
  have HB1 : Hid (Below w.heap.size w (w.alloc (.cells #[] 3))) := Lib.hid ((Below.refl _ _).alloc (Nat.le_refl _) _)
  go_enter Tryd.func33, Tryd.ntmps33
  go_wp2_with fail
  go_loopg [5, 6] n (fun q z y wr => ∃ (k m g cap : Nat), k ≤ n ∧ q = n - k ∧ z = .slice (some ⟨g, 0, none⟩) m cap ∧ y = .int .i64 k ∧ (RkS.telL true x (l.take k)).length = m ∧ m ≤ k ∧ NatR wr w.heap.size g cap (RkS.telL true x (l.take k)) ∧ Below w.heap.size w wr)
  case atStart => exact ⟨0, 0, _, _, by omega, by omega, rfl, rfl, by simp [RkS.telL], by omega, by simpa [RkS.telL] using HN1.out, HB1.out⟩
  case round =>
    clear HN1 HB1
    obtain ⟨k, m, g, cap, hk, hq, rfl, rfl, hm, hmk, hnr, hb⟩ := hrel
    have HQ := Lib.hid hq
    have HM := Lib.hid hm
    have HNR := Lib.hid hnr
    have HB := Lib.hid hb
    clear hq hm hnr hb
    by_cases hlt : k < n
    · have hll : k < l.length := by rw [HL.out]; exact hlt
      obtain ⟨b, o, rfl, hbl, hcell⟩ := (HR.out.below HB.out) (by rw [iCells_len, nats_len]; omega)
      have c0 := rdv_i (B := 0) hcell k (by rw [nats_len]; exact hll)
      rw [show (nats l)[k]'(by rw [nats_len]; exact hll) = (l[k] : Int) by simp [nats]] at c0
      have HTS : Hid (RkS.telL true x (l.take (k + 1)) = if ((l[k] : Int) != x) = true then RkS.telL true x (l.take k) ++ [l[k]] else RkS.telL true x (l.take k)) := Lib.hid (by
        rw [List.take_add_one, List.getElem?_eq_getElem hll]
        exact RkS.tel_snoc true x _ _)
      obtain ⟨s, hs⟩ : ∃ s, l[k] = s := ⟨_, rfl⟩
      rw [hs] at c0 HTS
      clear hcell hs
      cases he : ((s : Int) != x) with
      | false =>
        have HT2 : Hid (RkS.telL true x (l.take (k + 1)) = RkS.telL true x (l.take k)) := Lib.hid (by rw [HTS.out, if_neg (by rw [he]; simp)])
        clear HTS
        go_wp2_with fail
        go_roundg (n - (k + 1))
        case rel => exact ⟨k + 1, m, g, cap, by omega, rfl, rfl, by go_num, by rw [HT2.out]; exact HM.out, by omega, by rw [HT2.out]; exact HNR.out, HB.out⟩
        case measure => have := HQ.out; omega
      | true =>
        have HT2 : Hid (RkS.telL true x (l.take (k + 1)) = RkS.telL true x (l.take k) ++ [s]) := Lib.hid (by rw [HTS.out, if_pos he])
        have HX5 : Hid (RdV (wr.alloc (.cells #[.int .i64 (s : Int)] 3)) (wr.alloc (.cells #[.int .i64 (s : Int)] 3)).heap.size (some ⟨wr.heap.size, 0, none⟩) (iCells [(s : Int)])) := Lib.hid (row_rd wr _)
        have HR5 := Lib.hid (HNR.out.up ((Below.refl wr.heap.size wr).alloc (Nat.le_refl _) (.cells #[.int .i64 (s : Int)] 3)))
        have HB5 := Lib.hid (HB.out.alloc HB.out.size (.cells #[.int .i64 (s : Int)] 3))
        have hgm : w.heap.size ≤ g := HNR.out.mem.1
        clear HTS HB
        go_wp2_with (first
          | (at_builtin; refine appI _ rfl (.tmp 20) (.tmp 25) rfl w.heap.size _ g cap m 1 1 (nats _) [(s : Int)] (some ⟨wr.heap.size, 0, none⟩) rfl HR5.out (by rw [nats_len, HM.out]) rfl HX5.out rfl (by omega) HB5.out.size ?_; intro g6 cap6 w6 ho hg hgg; have HO6 : Hid (NatR w6 w.heap.size g6 cap6 (RkS.telL true x (l.take (k + 1)))) := Lib.hid (by have := ho; rw [HT2.out]; rw [show nats (RkS.telL true x (l.take k)) ++ [(s : Int)] = nats (RkS.telL true x (l.take k) ++ [s]) from by simp [nats]] at this; exact this); have HB6 := Lib.hid (HB5.out.grown hg HB5.out.size (fun e he => by have := Option.some.inj he; omega)); clear ho hg hgg)
          | fail)
        go_roundg (n - (k + 1))
        case rel => exact ⟨k + 1, m + 1, g6, cap6, by omega, rfl, by go_num, by go_num, by rw [HT2.out, ← HM.out]; simp, by omega, HO6.out, HB6.out⟩
        case measure => have := HQ.out; omega
    · obtain rfl : k = n := by omega
      have HT : Hid (RkS.telL true x l = RkS.telL true x (l.take k)) := Lib.hid (by rw [List.take_of_length_le (by rw [HL.out]; exact Nat.le_refl _)])
      go_wp2_with fail
      go_ret
      exact ⟨g, cap, by rw [HT.out, HM.out]; rfl, by rw [HT.out]; exact HNR.out, HB.out⟩

/-- Block rb is the document's ranking S, whose rows lie from base on. -/
def RefC (w : World) (base rb : Nat) (vT vK : Value) (S : RkS) : Prop :=
  Blk w rb 42 [vT, vK, .int .i64 (S.n : Int)] ∧ RowF (fun k => base ≤ k ∧ k ≠ rb) w vT (iCells (nats S.T)) ∧ RowF (fun k => base ≤ k ∧ k ≠ rb) w vK (iCells (nats S.K)) ∧ base ≤ rb
def RefM (w : World) (base rb : Nat) (S : RkS) : Prop := (∃ vT vK, RefC w base rb vT vK S) ∧ S.WF
theorem RefC.up {w w' : World} {base rb : Nat} {vT vK : Value} {S : RkS} (h : RefC w base rb vT vK S) (hb : Below w.heap.size w w') : RefC w' base rb vT vK S := ⟨h.1.up hb (lt_of_block h.1), h.2.1.up hb, h.2.2.1.up hb, h.2.2.2⟩
theorem RefM.up {w w' : World} {base rb : Nat} {S : RkS} (h : RefM w base rb S) (hb : Below w.heap.size w w') : RefM w' base rb S := by
  obtain ⟨⟨vT, vK, h⟩, hw⟩ := h
  exact ⟨⟨vT, vK, h.up hb⟩, hw⟩
theorem RefC.slices {w : World} {base rb : Nat} {vT vK : Value} {S : RkS} (h : RefC w base rb vT vK S) : ∃ A c A2 c2, vT = .slice A S.T.length c ∧ vK = .slice A2 S.K.length c2 := by
  obtain ⟨A, c, e, _⟩ := h.2.1
  obtain ⟨A2, c2, e2, _⟩ := h.2.2.1
  rw [iCells_len, nats_len] at e e2
  exact ⟨A, c, A2, c2, e, e2⟩
theorem RefC.keep {w w' : World} {base rb : Nat} {vT vK : Value} {S : RkS} {F : Nat → Prop} (h : RefC w base rb vT vK S) (hk : Kept F w w') (hF : ∀ k, F k → k < base) : RefC w' base rb vT vK S :=
  ⟨hk.blk h.1 (fun e => by have := hF _ e; have := h.2.2.2; omega), h.2.1.keep hk (fun k e e2 => by have := hF _ e2; have := e.1; omega), h.2.2.1.keep hk (fun k e e2 => by have := hF _ e2; have := e.1; omega), h.2.2.2⟩
theorem NatR.rowF {w : World} {B g cap base rb : Nat} {l : List Nat} (h : NatR w B g cap l) (h1 : base ≤ B) (h2 : rb < B) : RowF (fun k => base ≤ k ∧ k ≠ rb) w (.slice (some ⟨g, 0, none⟩) l.length cap) (iCells (nats l)) := by
  have hm := h.mem
  exact ⟨some ⟨g, 0, none⟩, cap, by rw [iCells_len, nats_len], OwnG.cap h, h.rd, (InF.one ⟨by omega, by omega⟩).n, fun e => by cases e⟩
def RefTo (base rb : Nat) (b : Bool) (S' : RkS) (w : World) (r : Ending) (w' : World) : Prop := r = .returned (.bool b) ∧ RefM w' base rb S' ∧ Kept (fun k => k = rb) w w'
/-- A new row on trial. -/
theorem RefC.newT {w w2 : World} {base rb B g cap m : Nat} {vT vK : Value} {S : RkS} {l : List Nat} (h : RefC w base rb vT vK S) (hb : Below w.heap.size w w2) (hn : NatR w2 B g cap l) (hB : w.heap.size ≤ B) (hm : l.length = m) :
    RefC (w2.setCell ⟨rb, 0, none⟩ (.slice (some ⟨g, 0, none⟩) m cap)) base rb (.slice (some ⟨g, 0, none⟩) m cap) vK ⟨l, S.K, S.n⟩ ∧ Kept (fun k => k = rb) w (w2.setCell ⟨rb, 0, none⟩ (.slice (some ⟨g, 0, none⟩) m cap)) := by
  have hlt := lt_of_block h.1
  have hbr := h.2.2.2
  have h2 := h.up hb
  have hk := kept_put w2 rb 0 (.slice (some ⟨g, 0, none⟩) m cap)
  have hrow := (hn.rowF (base := base) (rb := rb) (by omega) (by omega)).keep hk (fun k e e2 => e.2 e2)
  rw [hm] at hrow
  exact ⟨⟨h2.1.put 0 _, hrow, h2.2.2.1.keep hk (fun k e e2 => e.2 e2), hbr⟩, (Kept.of_below hb).and hk⟩
/-- A new kept row. -/
theorem RefC.newK {w w2 : World} {base rb B g cap m : Nat} {vT vK : Value} {S : RkS} {l : List Nat} (h : RefC w base rb vT vK S) (hb : Below w.heap.size w w2) (hn : NatR w2 B g cap l) (hB : w.heap.size ≤ B) (hm : l.length = m) :
    RefC (w2.setCell ⟨rb, 1, none⟩ (.slice (some ⟨g, 0, none⟩) m cap)) base rb vT (.slice (some ⟨g, 0, none⟩) m cap) ⟨S.T, l, S.n⟩ ∧ Kept (fun k => k = rb) w (w2.setCell ⟨rb, 1, none⟩ (.slice (some ⟨g, 0, none⟩) m cap)) := by
  have hlt := lt_of_block h.1
  have hbr := h.2.2.2
  have h2 := h.up hb
  have hk := kept_put w2 rb 1 (.slice (some ⟨g, 0, none⟩) m cap)
  have hrow := (hn.rowF (base := base) (rb := rb) (by omega) (by omega)).keep hk (fun k e e2 => e.2 e2)
  rw [hm] at hrow
  exact ⟨⟨h2.1.put 1 _, h2.2.1.keep hk (fun k e e2 => e.2 e2), hrow, hbr⟩, (Kept.of_below hb).and hk⟩
end Go.Proofs.YtpocpeiiacgoaaaDoor

/-
  The document's ranking in memory: has, but, In, New, Insert, Remove, Touch, Victim.
  The document's ranking in memory: In, New, Insert, Remove, Victim.
-/
import Derived.Test.YtajccmkdfmpapaaGreatDoorZmC
import Derived.Test.YtajccmkdfmpapaaGreatDoorZmD
import Derived.Deep.QuietTactic
import Derived.BigQuiet
import Derived.Laws.Tables
namespace Go.Proofs.YtajccmkdfmpapaaGreatDoor
open Go.RowKit

theorem hasL_snoc {l : List Nat} {k : Nat} (h : k < l.length) (x : Int) : hasL (l.take (k + 1)) x = (hasL (l.take k) x || ((l[k] : Int) == x)) := by
  rw [List.take_add_one, List.getElem?_eq_getElem h]
  unfold hasL
  by_cases h0 : 0 ≤ x
  · obtain ⟨s, rfl⟩ := Int.eq_ofNat_of_zero_le h0
    have e : ((l[k] : Int) == (s : Int)) = decide (s = l[k]) := by
      by_cases e2 : s = l[k]
      · rw [e2]; simp
      · have : ¬ ((l[k] : Int) = (s : Int)) := by omega
        simp [e2, this]
    rw [e]
    simp only [Option.toList, Int.toNat_natCast, List.mem_append, List.mem_singleton, Bool.true_and, decide_true, h0, Bool.decide_or]
  · have e : ((l[k] : Int) == x) = false := by simp; omega
    rw [e]
    simp [h0]
def HasIs (b : Bool) (w : World) (r : Ending) (w' : World) : Prop := r = .returned (.bool b) ∧ w = w'
set_option maxHeartbeats 1000000 in
theorem rhas_at {w : World} {A : Option Addr} {n c : Nat} {l : List Nat} (x : Int) (hr : RdV w w.heap.size A (iCells (nats l))) (hl : l.length = n) (hn : n ≤ 1000) : Calls Tryz.prog 74 #[.slice A n c, .int .i64 x] w (HasIs (hasL l x) w) := by
  have HR := Lib.hid hr
  have HL := Lib.hid hl
  clear hr hl
  go_enter Tryz.func74, Tryz.ntmps74
  go_wp2_with fail
  go_loopg [5] n (fun q y wr => ∃ k : Nat, k ≤ n ∧ q = n - k ∧ y = .int .i64 k ∧ hasL (l.take k) x = false ∧ w = wr)
  case atStart => exact ⟨0, by omega, by omega, rfl, by simp [hasL], rfl⟩
  case round =>
    obtain ⟨k, hk, hq, rfl, ht, rfl⟩ := hrel
    have HQ := Lib.hid hq
    have HT := Lib.hid ht
    clear hq ht
    by_cases hlt : k < n
    · have hll : k < l.length := by rw [HL.out]; exact hlt
      obtain ⟨b, o, rfl, hbl, hcell⟩ := HR.out (by rw [iCells_len, nats_len]; omega)
      have c0 := rdv_i (B := 0) hcell k (by rw [nats_len]; exact hll)
      rw [show (nats l)[k]'(by rw [nats_len]; exact hll) = (l[k] : Int) by simp [nats]] at c0
      have HS := Lib.hid (hasL_snoc hll x)
      rw [HT.out, Bool.false_or] at HS
      obtain ⟨s, hs⟩ : ∃ s, l[k] = s := ⟨_, rfl⟩
      rw [hs] at c0 HS
      clear hcell hs
      cases he : ((s : Int) == x) with
      | true =>
        have HX : Hid (hasL l x = true) := Lib.hid (by
          have h1 := HS.out
          rw [he] at h1
          obtain ⟨u, rfl, hu⟩ := hasL_some h1
          rw [hasL_nat]
          exact decide_eq_true (List.mem_of_mem_take hu))
        go_wp2_with fail
        go_ret
        exact ⟨by rw [HX.out]; rfl, rfl⟩
      | false =>
        have HX : Hid (hasL (l.take (k + 1)) x = false) := Lib.hid (by rw [HS.out, he])
        go_wp2_with fail
        go_roundg (n - (k + 1))
        case rel => exact ⟨k + 1, by omega, rfl, by go_num, HX.out, rfl⟩
        case measure => have := HQ.out; omega
    · obtain rfl : k = n := by omega
      have HX : Hid (hasL l x = false) := Lib.hid (by
        have h1 := HT.out
        rwa [List.take_of_length_le (by rw [HL.out]; exact Nat.le_refl _)] at h1)
      go_wp2_with fail
      go_ret
      exact ⟨by rw [HX.out]; rfl, rfl⟩

def ButIs (l : List Nat) (w : World) (r : Ending) (w' : World) : Prop := ∃ g cap, r = .returned (.slice (some ⟨g, 0, none⟩) l.length cap) ∧ NatR w' w.heap.size g cap l ∧ Below w.heap.size w w'
set_option maxHeartbeats 2000000 in
theorem rbut_at {w : World} {A : Option Addr} {n c : Nat} {l : List Nat} (x : Int) (hr : RdV w w.heap.size A (iCells (nats l))) (hl : l.length = n) (hn : n ≤ 1000) : Calls Tryz.prog 75 #[.slice A n c, .int .i64 x] w (ButIs (RkS.telL true x l) w) := by
  have HR := Lib.hid hr
  have HL := Lib.hid hl
  clear hr hl
  have HN1 : Hid (NatR (w.alloc (.cells #[] 3)) w.heap.size w.heap.size 0 []) := Lib.hid (NatR.new w _ (Nat.le_refl _) [] (by simp))
  have HB1 : Hid (Below w.heap.size w (w.alloc (.cells #[] 3))) := Lib.hid ((Below.refl _ _).alloc (Nat.le_refl _) _)
  go_enter Tryz.func75, Tryz.ntmps75
  go_wp2_with fail
  go_loopg [5, 6] n (fun q z y wr => ∃ (k m g cap : Nat), k ≤ n ∧ q = n - k ∧ z = .slice (some ⟨g, 0, none⟩) m cap ∧ y = .int .i64 k ∧ (RkS.telL true x (l.take k)).length = m ∧ m ≤ k ∧ NatR wr w.heap.size g cap (RkS.telL true x (l.take k)) ∧ Below w.heap.size w wr)
  case atStart => exact ⟨0, 0, _, _, by omega, by omega, rfl, rfl, by simp [RkS.telL], by omega, by simpa [RkS.telL] using HN1.out, HB1.out⟩
  case round =>
    clear HN1 HB1
    obtain ⟨k, m, g, cap, hk, hq, rfl, rfl, hm, hmk, hnr, hb⟩ := hrel
    have HQ := Lib.hid hq
    have HM := Lib.hid hm
    have HNR := Lib.hid hnr
    have HB := Lib.hid hb
    clear hq hm hnr hb
    by_cases hlt : k < n
    · have hll : k < l.length := by rw [HL.out]; exact hlt
      obtain ⟨b, o, rfl, hbl, hcell⟩ := (HR.out.below HB.out) (by rw [iCells_len, nats_len]; omega)
      have c0 := rdv_i (B := 0) hcell k (by rw [nats_len]; exact hll)
      rw [show (nats l)[k]'(by rw [nats_len]; exact hll) = (l[k] : Int) by simp [nats]] at c0
      have HTS : Hid (RkS.telL true x (l.take (k + 1)) = if ((l[k] : Int) != x) = true then RkS.telL true x (l.take k) ++ [l[k]] else RkS.telL true x (l.take k)) := Lib.hid (by
        rw [List.take_add_one, List.getElem?_eq_getElem hll]
        exact RkS.tel_snoc true x _ _)
      obtain ⟨s, hs⟩ : ∃ s, l[k] = s := ⟨_, rfl⟩
      rw [hs] at c0 HTS
      clear hcell hs
      cases he : ((s : Int) != x) with
      | false =>
        have HT2 : Hid (RkS.telL true x (l.take (k + 1)) = RkS.telL true x (l.take k)) := Lib.hid (by rw [HTS.out, if_neg (by rw [he]; simp)])
        clear HTS
        go_wp2_with fail
        go_roundg (n - (k + 1))
        case rel => exact ⟨k + 1, m, g, cap, by omega, rfl, rfl, by go_num, by rw [HT2.out]; exact HM.out, by omega, by rw [HT2.out]; exact HNR.out, HB.out⟩
        case measure => have := HQ.out; omega
      | true =>
        have HT2 : Hid (RkS.telL true x (l.take (k + 1)) = RkS.telL true x (l.take k) ++ [s]) := Lib.hid (by rw [HTS.out, if_pos he])
        have HX5 : Hid (RdV (wr.alloc (.cells #[.int .i64 (s : Int)] 3)) (wr.alloc (.cells #[.int .i64 (s : Int)] 3)).heap.size (some ⟨wr.heap.size, 0, none⟩) (iCells [(s : Int)])) := Lib.hid (row_rd wr _)
        have HR5 := Lib.hid (HNR.out.up ((Below.refl wr.heap.size wr).alloc (Nat.le_refl _) (.cells #[.int .i64 (s : Int)] 3)))
        have HB5 := Lib.hid (HB.out.alloc HB.out.size (.cells #[.int .i64 (s : Int)] 3))
        have hgm : w.heap.size ≤ g := HNR.out.mem.1
        clear HTS HB
        go_wp2_with (first
          | (at_builtin; refine appI _ rfl (.tmp 20) (.tmp 25) rfl w.heap.size _ g cap m 1 1 (nats _) [(s : Int)] (some ⟨wr.heap.size, 0, none⟩) rfl HR5.out (by rw [nats_len, HM.out]) rfl HX5.out rfl (by omega) HB5.out.size ?_; intro g6 cap6 w6 ho hg hgg; have HO6 : Hid (NatR w6 w.heap.size g6 cap6 (RkS.telL true x (l.take (k + 1)))) := Lib.hid (by have := ho; rw [HT2.out]; rw [show nats (RkS.telL true x (l.take k)) ++ [(s : Int)] = nats (RkS.telL true x (l.take k) ++ [s]) from by simp [nats]] at this; exact this); have HB6 := Lib.hid (HB5.out.grown hg HB5.out.size (fun e he => by have := Option.some.inj he; omega)); clear ho hg hgg)
          | fail)
        go_roundg (n - (k + 1))
        case rel => exact ⟨k + 1, m + 1, g6, cap6, by omega, rfl, by go_num, by go_num, by rw [HT2.out, ← HM.out]; simp, by omega, HO6.out, HB6.out⟩
        case measure => have := HQ.out; omega
    · obtain rfl : k = n := by omega
      have HT : Hid (RkS.telL true x l = RkS.telL true x (l.take k)) := Lib.hid (by rw [List.take_of_length_le (by rw [HL.out]; exact Nat.le_refl _)])
      go_wp2_with fail
      go_ret
      exact ⟨g, cap, by rw [HT.out, HM.out]; rfl, by rw [HT.out]; exact HNR.out, HB.out⟩

/-- Block rb is the document's ranking S, whose rows lie where base allows (all that is new may be used). -/
def RefC (w : World) (base : Nat → Prop) (rb : Nat) (vT vK : Value) (S : RkS) : Prop :=
  Blk w rb 107 [vT, vK, .int .i64 (S.n : Int)] ∧ RowF (fun k => base k ∧ k ≠ rb) w vT (iCells (nats S.T)) ∧ RowF (fun k => base k ∧ k ≠ rb) w vK (iCells (nats S.K)) ∧ ∀ k, w.heap.size ≤ k → base k
def RefM (w : World) (base : Nat → Prop) (rb : Nat) (S : RkS) : Prop := (∃ vT vK, RefC w base rb vT vK S) ∧ S.WF
theorem RefC.up {w w' : World} {base : Nat → Prop} {rb : Nat} {vT vK : Value} {S : RkS} (h : RefC w base rb vT vK S) (hb : Below w.heap.size w w') : RefC w' base rb vT vK S := ⟨h.1.up hb (lt_of_block h.1), h.2.1.up hb, h.2.2.1.up hb, fun k hk => h.2.2.2 k (Nat.le_trans hb.size hk)⟩
theorem RefM.up {w w' : World} {base : Nat → Prop} {rb : Nat} {S : RkS} (h : RefM w base rb S) (hb : Below w.heap.size w w') : RefM w' base rb S := by
  obtain ⟨⟨vT, vK, h⟩, hw⟩ := h
  exact ⟨⟨vT, vK, h.up hb⟩, hw⟩
theorem RefC.slices {w : World} {base : Nat → Prop} {rb : Nat} {vT vK : Value} {S : RkS} (h : RefC w base rb vT vK S) : ∃ A c A2 c2, vT = .slice A S.T.length c ∧ vK = .slice A2 S.K.length c2 := by
  obtain ⟨A, c, e, _⟩ := h.2.1
  obtain ⟨A2, c2, e2, _⟩ := h.2.2.1
  rw [iCells_len, nats_len] at e e2
  exact ⟨A, c, A2, c2, e, e2⟩
theorem RefC.keep {w w' : World} {base : Nat → Prop} {rb : Nat} {vT vK : Value} {S : RkS} {F : Nat → Prop} (h : RefC w base rb vT vK S) (hk : Kept F w w') (hr : ¬ F rb) (hF : ∀ k, F k → ¬ base k) : RefC w' base rb vT vK S :=
  ⟨hk.blk h.1 hr, h.2.1.keep hk (fun k e e2 => hF k e2 e.1), h.2.2.1.keep hk (fun k e e2 => hF k e2 e.1), fun k hk2 => h.2.2.2 k (Nat.le_trans hk.size hk2)⟩
theorem RefM.keep {w w' : World} {base : Nat → Prop} {rb : Nat} {S : RkS} {F : Nat → Prop} (h : RefM w base rb S) (hk : Kept F w w') (hr : ¬ F rb) (hF : ∀ k, F k → ¬ base k) : RefM w' base rb S := by
  obtain ⟨⟨vT, vK, h⟩, hw⟩ := h
  exact ⟨⟨vT, vK, h.keep hk hr hF⟩, hw⟩
theorem RefM.mono {w : World} {base base' : Nat → Prop} {rb : Nat} {S : RkS} (h : RefM w base rb S) (hb : ∀ k, base k → base' k) : RefM w base' rb S := by
  obtain ⟨⟨vT, vK, h⟩, hw⟩ := h
  exact ⟨⟨vT, vK, h.1, h.2.1.mono (fun k e => ⟨hb k e.1, e.2⟩), h.2.2.1.mono (fun k e => ⟨hb k e.1, e.2⟩), fun k hk => hb k (h.2.2.2 k hk)⟩, hw⟩
/-- Where nothing but what is told in base2 matters. -/
theorem RefM.ne {w : World} {base : Nat → Prop} {rb g : Nat} {S : RkS} (h : RefM w base rb S) (hg : ¬ base g) : RefM w (fun k => base k ∧ k ≠ g) rb S := by
  obtain ⟨⟨vT, vK, h⟩, hw⟩ := h
  exact ⟨⟨vT, vK, h.1, h.2.1.mono (fun k e => ⟨⟨e.1, fun e2 => hg (e2 ▸ e.1)⟩, e.2⟩), h.2.2.1.mono (fun k e => ⟨⟨e.1, fun e2 => hg (e2 ▸ e.1)⟩, e.2⟩), fun k hk => ⟨h.2.2.2 k hk, fun e2 => hg (e2 ▸ h.2.2.2 k hk)⟩⟩, hw⟩
theorem NatR.rowF {w : World} {B g cap : Nat} {base : Nat → Prop} {rb : Nat} {l : List Nat} (h : NatR w B g cap l) (h1 : ∀ k, B ≤ k → base k) (h2 : rb < B) : RowF (fun k => base k ∧ k ≠ rb) w (.slice (some ⟨g, 0, none⟩) l.length cap) (iCells (nats l)) := by
  have hm := h.mem
  exact ⟨some ⟨g, 0, none⟩, cap, by rw [iCells_len, nats_len], OwnG.cap h, h.rd, (InF.one ⟨h1 g hm.1, by omega⟩).n, fun e => by cases e⟩
def RefTo (base : Nat → Prop) (rb : Nat) (b : Bool) (S' : RkS) (w : World) (r : Ending) (w' : World) : Prop := r = .returned (.bool b) ∧ RefM w' base rb S' ∧ Kept (fun k => k = rb) w w'
/-- A new row on trial. -/
theorem RefC.newT {w w2 : World} {base : Nat → Prop} {rb B g cap m : Nat} {vT vK : Value} {S : RkS} {l : List Nat} (h : RefC w base rb vT vK S) (hb : Below w.heap.size w w2) (hn : NatR w2 B g cap l) (hB : w.heap.size ≤ B) (hm : l.length = m) :
    RefC (w2.setCell ⟨rb, 0, none⟩ (.slice (some ⟨g, 0, none⟩) m cap)) base rb (.slice (some ⟨g, 0, none⟩) m cap) vK ⟨l, S.K, S.n⟩ ∧ Kept (fun k => k = rb) w (w2.setCell ⟨rb, 0, none⟩ (.slice (some ⟨g, 0, none⟩) m cap)) := by
  have hlt := lt_of_block h.1
  have hbr := h.2.2.2
  have h2 := h.up hb
  have hk := kept_put w2 rb 0 (.slice (some ⟨g, 0, none⟩) m cap)
  have hrow := (hn.rowF (base := base) (rb := rb) (fun k hk => hbr k (Nat.le_trans hB hk)) (by omega)).keep hk (fun k e e2 => e.2 e2)
  rw [hm] at hrow
  exact ⟨⟨h2.1.put 0 _, hrow, h2.2.2.1.keep hk (fun k e e2 => e.2 e2), fun k hk2 => h2.2.2.2 k (Nat.le_trans hk.size hk2)⟩, (Kept.of_below hb).and hk⟩
/-- A new kept row. -/
theorem RefC.newK {w w2 : World} {base : Nat → Prop} {rb B g cap m : Nat} {vT vK : Value} {S : RkS} {l : List Nat} (h : RefC w base rb vT vK S) (hb : Below w.heap.size w w2) (hn : NatR w2 B g cap l) (hB : w.heap.size ≤ B) (hm : l.length = m) :
    RefC (w2.setCell ⟨rb, 1, none⟩ (.slice (some ⟨g, 0, none⟩) m cap)) base rb vT (.slice (some ⟨g, 0, none⟩) m cap) ⟨S.T, l, S.n⟩ ∧ Kept (fun k => k = rb) w (w2.setCell ⟨rb, 1, none⟩ (.slice (some ⟨g, 0, none⟩) m cap)) := by
  have hlt := lt_of_block h.1
  have hbr := h.2.2.2
  have h2 := h.up hb
  have hk := kept_put w2 rb 1 (.slice (some ⟨g, 0, none⟩) m cap)
  have hrow := (hn.rowF (base := base) (rb := rb) (fun k hk => hbr k (Nat.le_trans hB hk)) (by omega)).keep hk (fun k e e2 => e.2 e2)
  rw [hm] at hrow
  exact ⟨⟨h2.1.put 1 _, h2.2.1.keep hk (fun k e e2 => e.2 e2), hrow, fun k hk2 => h2.2.2.2 k (Nat.le_trans hk.size hk2)⟩, (Kept.of_below hb).and hk⟩
end Go.Proofs.YtajccmkdfmpapaaGreatDoor
namespace Go.Proofs.YtajccmkdfmpapaaGreatDoor
open Go.RowKit

section
variable {w : World} {base : Nat → Prop} {rb : Nat} {S : RkS}
theorem RefC.cells {vT vK : Value} (h : RefC w base rb vT vK S) : w.cell? ⟨rb, 0, none⟩ = some vT ∧ w.cell? ⟨rb, 1, none⟩ = some vK ∧ w.cell? ⟨rb, 2, none⟩ = some (.int .i64 (S.n : Int)) := ⟨h.1.cell 0 (by simp), h.1.cell 1 (by simp), h.1.cell 2 (by simp)⟩
theorem RefM.lens (h : RefM w base rb S) : S.T.length ≤ 64 ∧ S.K.length ≤ 64 ∧ S.n ≤ 64 := by
  have h1 := RkS.len_le h.2
  have h2 := h.2.n64
  omega
set_option maxHeartbeats 1000000 in
theorem rin_at (x : Int) (h : RefM w base rb S) : Calls Tryz.prog 56 #[.pointer (some ⟨rb, 0, none⟩), .int .i64 x] w (HasIs (S.has x) w) := by
  have hl := h.lens
  obtain ⟨⟨vT, vK, hc⟩, hwf⟩ := h
  obtain ⟨A, c, A2, c2, rfl, rfl⟩ := hc.slices
  obtain ⟨g0, g1, g2⟩ := hc.cells
  have HT := Lib.hid (rhas_at (c := c) x hc.2.1.rdI.1 rfl (by omega))
  have HK := Lib.hid (rhas_at (c := c2) x hc.2.2.1.rdI.1 rfl (by omega))
  have HH : Hid (S.has x = (hasL S.T x || hasL S.K x)) := Lib.hid rfl
  generalize S.T.length = tl at *
  generalize S.K.length = kl at *
  generalize S.has x = hh at *
  generalize hasL S.T x = b1 at *
  generalize hasL S.K x = b2 at *
  clear hc hwf g2 hl
  cases b1 with
  | true =>
    go_enter Tryz.func56, Tryz.ntmps56
    go_wp2_with fail
    refine HT.out.mono ?_
    rintro r w' ⟨rfl, rfl⟩
    go_wp2_with fail
    go_ret
    exact ⟨by rw [HH.out]; rfl, rfl⟩
  | false =>
    go_enter Tryz.func56, Tryz.ntmps56
    go_wp2_with fail
    refine HT.out.mono ?_
    rintro r w' ⟨rfl, rfl⟩
    go_wp2_with fail
    refine HK.out.mono ?_
    rintro r w' ⟨rfl, rfl⟩
    go_wp2_with fail
    go_ret
    exact ⟨by rw [HH.out]; rfl, rfl⟩
def RNewIs (n : Int) (w : World) (r : Ending) (w' : World) : Prop :=
  Below w.heap.size w w' ∧ if 1 ≤ n ∧ n ≤ 64 then r = .returned (.tuple #[.pointer (some ⟨w.heap.size, 0, none⟩), .int .i64 0]) ∧ RefM w' (fun k => w.heap.size ≤ k) w.heap.size ⟨[], [], n.toNat⟩ else r = .returned (.tuple #[.pointer none, .int .i64 1])
theorem rnew_at (n : Int) (w : World) : Calls Tryz.prog 28 #[.int .i64 n] w (RNewIs n w) := by
  by_cases h0 : n < 1
  · have hd : decide (n < 1) = true := by simpa using h0
    have HE : Hid (RNewIs n w (.returned (.tuple #[.pointer none, .int .i64 1])) w) := Lib.hid ⟨Below.refl _ _, by rw [if_neg (by omega)]⟩
    go_enter Tryz.func28, Tryz.ntmps28
    go_wp2_with fail
    go_ret2
    exact HE.out
  · have hd : decide (n < 1) = false := by simpa using h0
    by_cases h1 : 64 < n
    · have HE : Hid (RNewIs n w (.returned (.tuple #[.pointer none, .int .i64 1])) w) := Lib.hid ⟨Below.refl _ _, by rw [if_neg (by omega)]⟩
      go_enter Tryz.func28, Tryz.ntmps28
      go_wp2_with fail
      go_ret2
      exact HE.out
    · obtain ⟨m, rfl⟩ := Int.eq_ofNat_of_zero_le (show 0 ≤ n by omega)
      have HE : Hid (RNewIs (m : Int) w (.returned (.tuple #[.pointer (some ⟨w.heap.size, 0, none⟩), .int .i64 0])) (w.alloc (.cells #[.slice none 0 0, .slice none 0 0, .int .i64 (m : Int)] 107))) := Lib.hid ⟨(Below.refl _ _).alloc (Nat.le_refl _) _, by
        rw [if_pos (by omega)]
        exact ⟨rfl, ⟨.slice none 0 0, .slice none 0 0, heap_alloc_new w _, RowF.nil _ _, RowF.nil _ _, fun k hk => Nat.le_trans (by simp) hk⟩, ⟨List.nodup_nil, fun s hs => (by cases hs), by simp; omega, by simp; omega⟩⟩⟩
      go_enter Tryz.func28, Tryz.ntmps28
      go_wp2_with fail
      go_ret2
      exact HE.out
set_option maxHeartbeats 2000000 in
theorem rinsert_at (x : Int) (h : RefM w base rb S) : Calls Tryz.prog 57 #[.pointer (some ⟨rb, 0, none⟩), .int .i64 x] w (RefTo base rb (S.insB x) (S.insS x) w) := by
  have hl := h.lens
  have HH := Lib.hid h
  have HIN := Lib.hid (rin_at x h)
  obtain ⟨⟨vT, vK, hc⟩, hwf⟩ := h
  obtain ⟨A, c, A2, c2, rfl, rfl⟩ := hc.slices
  obtain ⟨g0, g1, g2⟩ := hc.cells
  have hn64 := hl.2.2
  obtain ⟨n, hn⟩ : ∃ n, S.n = n := ⟨_, rfl⟩
  rw [hn] at g2 hn64
  have no : S.insB x = false → RefTo base rb (S.insB x) (S.insS x) w (.returned (.bool false)) w := fun e => by
    refine ⟨by rw [e], ?_, Kept.refl _ _⟩
    unfold RkS.insS
    rw [e]
    exact HH.out
  by_cases h1 : x < 0
  · have HE := Lib.hid (no (by
      unfold RkS.insB
      have : ¬ 0 ≤ x := by omega
      simp [this]))
    have hd : decide (x < 0) = true := by simpa using h1
    clear hc hwf hn no g0 g1 hl
    go_enter Tryz.func57, Tryz.ntmps57
    go_wp2_with fail
    go_ret
    exact HE.out
  · have hd : decide (x < 0) = false := by simpa using h1
    by_cases h2 : (n : Int) ≤ x
    · have HE := Lib.hid (no (by
        unfold RkS.insB
        have : ¬ x < S.n := by omega
        simp [this]))
      clear hc hwf hn no g0 g1 hl
      go_enter Tryz.func57, Tryz.ntmps57
      go_wp2_with fail
      go_ret
      exact HE.out
    · cases e1 : S.has x with
      | true =>
        have HE := Lib.hid (no (by
          unfold RkS.insB
          simp [e1]))
        rw [e1] at HIN
        clear hc hwf hn no g0 g1 hl e1
        go_enter Tryz.func57, Tryz.ntmps57
        go_wp2_with fail
        refine HIN.out.mono ?_
        rintro r w' ⟨rfl, rfl⟩
        go_wp2_with fail
        go_ret
        exact HE.out
      | false =>
        have hx0 : 0 ≤ x := by omega
        have hy : S.insB x = true := by
          unfold RkS.insB
          have : x < S.n := by omega
          simp [e1, hx0, this]
        have HY := Lib.hid hy
        have HW := Lib.hid (RkS.insS_wf hwf x)
        obtain ⟨s, rfl⟩ := Int.eq_ofNat_of_zero_le hx0
        rw [e1] at HIN
        have HC := Lib.hid hc
        have HN1 : Hid (NatR (w.alloc (.cells #[.int .i64 (s : Int)] 3)) w.heap.size w.heap.size 1 [s]) := Lib.hid (NatR.new w _ (Nat.le_refl _) [s] (by simp))
        have HB1 : Hid (Below w.heap.size w (w.alloc (.cells #[.int .i64 (s : Int)] 3))) := Lib.hid ((Below.refl _ _).alloc (Nat.le_refl _) _)
        have k0 := (HB1.out.cell (p := ⟨rb, 0, none⟩) (lt_of_block hc.1)).trans g0
        obtain ⟨tl, htl⟩ : ∃ tl, S.T.length = tl := ⟨_, rfl⟩
        have HTL := Lib.hid htl
        have htl64 : tl ≤ 64 := by omega
        rw [htl] at k0
        clear hc hwf hn no e1 hy g0 g1 hl htl
        go_enter Tryz.func57, Tryz.ntmps57
        go_wp2_with fail
        refine HIN.out.mono ?_
        rintro r w' ⟨rfl, rfl⟩
        go_wp2_with (first
          | (at_builtin; refine appI _ rfl (.tmp 22) (.tmp 26) rfl w.heap.size w.heap.size w.heap.size 1 1 tl c [(s : Int)] (nats S.T) A rfl HN1.out rfl rfl (HC.out.2.1.rdI.1.below HB1.out) (by rw [nats_len]; exact HTL.out) (by omega) HB1.out.size ?_; intro g6 cap6 w6 ho hg hgg; have HO6 : Hid (NatR w6 w.heap.size g6 cap6 (s :: S.T)) := Lib.hid ho; have HB6 := Lib.hid (HB1.out.grown hg HB1.out.size (fun e he => by have := Option.some.inj he; omega)); have f0 := (HC.out.up HB6.out).1.free 0; have k6 := (HC.out.up HB6.out).cells.1; clear ho hg hgg)
          | fail)
        go_ret
        have hT := HC.out.newT HB6.out HO6.out (Nat.le_refl _) (m := 1 + tl) (by have := HTL.out; simp; omega)
        refine ⟨by rw [HY.out]; rfl, ⟨?_, HW.out⟩, hT.2⟩
        unfold RkS.insS
        rw [if_pos HY.out]
        exact ⟨_, _, hT.1⟩
theorem tel_has (l : List Nat) (s : Nat) : RkS.telL true (s : Int) l = butL l s := RkS.tel_yes s l
set_option maxHeartbeats 2000000 in
theorem rremove_at (x : Int) (h : RefM w base rb S) : Calls Tryz.prog 58 #[.pointer (some ⟨rb, 0, none⟩), .int .i64 x] w (RefTo base rb (S.has x) (S.remS x) w) := by
  have hl := h.lens
  have HIN := Lib.hid (rin_at x h)
  have HW := Lib.hid (RkS.remS_wf h.2 x)
  cases e1 : S.has x with
  | false =>
    have HE : Hid (RefTo base rb false (S.remS x) w (.returned (.bool false)) w) := Lib.hid ⟨rfl, by unfold RkS.remS; rw [e1]; exact h, Kept.refl _ _⟩
    rw [e1] at HIN
    clear h e1
    go_enter Tryz.func58, Tryz.ntmps58
    go_wp2_with fail
    refine HIN.out.mono ?_
    rintro r w' ⟨rfl, rfl⟩
    go_wp2_with fail
    go_ret
    exact HE.out
  | true =>
    have HY := Lib.hid e1
    rw [e1] at HIN
    obtain ⟨⟨vT, vK, hc⟩, hwf⟩ := h
    obtain ⟨s, rfl, hs⟩ := RkS.has_some e1
    obtain ⟨A, c, A2, c2, rfl, rfl⟩ := hc.slices
    obtain ⟨g0, g1, g2⟩ := hc.cells
    have HC := Lib.hid hc
    have HT := Lib.hid (rbut_at (c := c) (s : Int) hc.2.1.rdI.1 rfl (by omega))
    rw [tel_has] at HT
    obtain ⟨tl, htl⟩ : ∃ tl, S.T.length = tl := ⟨_, rfl⟩
    obtain ⟨kl, hkl⟩ : ∃ kl, S.K.length = kl := ⟨_, rfl⟩
    have HKL : Hid (S.K.length = kl ∧ kl ≤ 64) := Lib.hid ⟨hkl, by omega⟩
    rw [htl] at g0 HT
    rw [hkl] at g1
    clear hc hwf e1 g1 g2 hl htl hkl
    go_enter Tryz.func58, Tryz.ntmps58
    go_wp2_with fail
    refine HIN.out.mono ?_
    rintro r w' ⟨rfl, rfl⟩
    go_wp2_with fail
    refine HT.out.mono ?_
    rintro r w2 ⟨g, cap, rfl, hn, hb⟩
    obtain ⟨m, hm⟩ : ∃ m, (butL S.T s).length = m := ⟨_, rfl⟩
    have hT := HC.out.newT hb hn (Nat.le_refl _) hm
    have f0 := (HC.out.up hb).1.free 0
    have k0 := (HC.out.up hb).cells.1
    obtain ⟨w3, hw3⟩ : ∃ w3, w2.setCell ⟨rb, 0, none⟩ (.slice (some ⟨g, 0, none⟩) m cap) = w3 := ⟨_, rfl⟩
    rw [hw3] at hT
    have HT3 := Lib.hid hT
    rw [hm]
    clear hT hn hb hm g0
    obtain ⟨q0, q1, q2⟩ := HT3.out.1.cells
    rw [HKL.out.1] at q1
    clear q0 q2
    have HKB : Hid (∀ x : Int, Calls Tryz.prog 75 #[.slice A2 kl c2, .int .i64 x] w3 (ButIs (RkS.telL true x S.K) w3)) := Lib.hid (fun x => rbut_at x HT3.out.1.2.2.1.rdI.1 HKL.out.1 (by have := HKL.out.2; omega))
    go_wp2_with fail
    refine (HKB.out _).mono ?_
    rw [tel_has]
    rintro r w4 ⟨g4, cap4, rfl, hn, hb⟩
    obtain ⟨m4, hm⟩ : ∃ m, (butL S.K s).length = m := ⟨_, rfl⟩
    have hK := HT3.out.1.newK hb hn (Nat.le_refl _) hm
    have f1 := (HT3.out.1.up hb).1.free 1
    have k1 := (HT3.out.1.up hb).cells.2.1
    rw [hm]
    have HK4 := Lib.hid hK
    clear hK hn hb hm
    go_wp2_with fail
    go_ret
    refine ⟨rfl, ⟨?_, HW.out⟩, HT3.out.2.and HK4.out.2⟩
    unfold RkS.remS
    rw [if_pos HY.out]
    simp only [Int.toNat_natCast]
    exact ⟨_, _, HK4.out.1⟩
theorem last_at {l : List Nat} {m : Nat} (h : l.length = m + 1) : l.getLast? = l[m]? := by rw [List.getLast?_eq_getElem?, h]; rfl
def VicTo (S : RkS) (w : World) (r : Ending) (w' : World) : Prop := r = .returned (.tuple #[.int .i64 (S.vicN : Int), .bool S.vic.isSome]) ∧ Below w.heap.size w w'
theorem below_drewN {b : Nat} {w w' : World} (h : Below b w w') (n : Nat) : Below b w (w'.drewN n) := ⟨h.os, h.tape, h.output, h.size, h.block⟩
set_option maxHeartbeats 2000000 in
theorem rvictim_at (h : RefM w base rb S) : Calls Tryz.prog 43 #[.pointer (some ⟨rb, 0, none⟩)] w (VicTo S w) := by
  have hl := h.lens
  obtain ⟨⟨vT, vK, hc⟩, hwf⟩ := h
  obtain ⟨A, c, A2, c2, rfl, rfl⟩ := hc.slices
  obtain ⟨g0, g1, g2⟩ := hc.cells
  rcases Nat.eq_zero_or_pos S.T.length with hT | hT
  · have hTn : S.T = [] := List.eq_nil_of_length_eq_zero hT
    rw [hT] at g0
    rcases Nat.eq_zero_or_pos S.K.length with hK | hK
    · have hKn : S.K = [] := List.eq_nil_of_length_eq_zero hK
      rw [hK] at g1
      have HV : Hid (VicTo S w (.returned (.tuple #[.int .i64 0, .bool false])) w) := Lib.hid ⟨by unfold RkS.vicN RkS.vic; rw [hTn, hKn]; rfl, Below.refl _ _⟩
      clear hc hwf g2 hl hT hK hTn hKn
      go_enter Tryz.func43, Tryz.ntmps43
      go_wp2_with fail
      go_ret2
      exact HV.out
    · obtain ⟨m, hm⟩ : ∃ m, S.K.length = m + 1 := ⟨S.K.length - 1, by omega⟩
      have hml : m < S.K.length := by omega
      obtain ⟨b, o, rfl, hbl, hcell⟩ := hc.2.2.1.rdI.1 (by rw [iCells_len, nats_len]; omega)
      have c0 := rdv_i (B := 0) hcell m (by rw [nats_len]; exact hml)
      rw [show (nats S.K)[m]'(by rw [nats_len]; exact hml) = (S.K[m] : Int) by simp [nats]] at c0
      obtain ⟨s, hs⟩ : ∃ s, S.K[m] = s := ⟨_, rfl⟩
      have HV : Hid (∀ w', Below w.heap.size w w' → VicTo S w (.returned (.tuple #[.int .i64 (s : Int), .bool true])) w') := Lib.hid (fun w' hb => ⟨by
        have e : S.vic = some s := by unfold RkS.vic; rw [hTn, last_at hm, List.getElem?_eq_getElem hml, hs]; rfl
        unfold RkS.vicN; rw [e]; rfl, hb⟩)
      rw [hs] at c0
      rw [hm] at g1
      have e1 : (((m + 1 : Nat) : Int)) = (m : Int) + 1 := by omega
      have e2 : (m : Int) + 1 - 1 = (m : Int) := by omega
      have hm64 : m ≤ 63 := by omega
      have hq : 0 < (m : Int) + 1 := by omega
      clear hc hwf g2 hl hT hK hTn hm hml hs hcell
      go_enter Tryz.func43, Tryz.ntmps43
      go_wp2_with fail
      go_quiet (fail)
      all_goals
        go_wp2_with fail
        go_ret2
        exact HV.out _ (below_drewN (Below.refl _ _) _)
  · obtain ⟨m, hm⟩ : ∃ m, S.T.length = m + 1 := ⟨S.T.length - 1, by omega⟩
    have hml : m < S.T.length := by omega
    obtain ⟨b, o, rfl, hbl, hcell⟩ := hc.2.1.rdI.1 (by rw [iCells_len, nats_len]; omega)
    have c0 := rdv_i (B := 0) hcell m (by rw [nats_len]; exact hml)
    rw [show (nats S.T)[m]'(by rw [nats_len]; exact hml) = (S.T[m] : Int) by simp [nats]] at c0
    obtain ⟨s, hs⟩ : ∃ s, S.T[m] = s := ⟨_, rfl⟩
    have HV : Hid (∀ w', Below w.heap.size w w' → VicTo S w (.returned (.tuple #[.int .i64 (s : Int), .bool true])) w') := Lib.hid (fun w' hb => ⟨by
      have e : S.vic = some s := by unfold RkS.vic; rw [last_at hm, List.getElem?_eq_getElem hml, hs]; rfl
      unfold RkS.vicN; rw [e]; rfl, hb⟩)
    rw [hs] at c0
    rw [hm] at g0
    have e1 : (((m + 1 : Nat) : Int)) = (m : Int) + 1 := by omega
    have e2 : (m : Int) + 1 - 1 = (m : Int) := by omega
    have hm64 : m ≤ 63 := by omega
    have hq : 0 < (m : Int) + 1 := by omega
    clear hc hwf g1 g2 hl hT hm hml hs hcell
    go_enter Tryz.func43, Tryz.ntmps43
    go_wp2_with fail
    go_quiet (fail)
    all_goals
      go_wp2_with fail
      go_ret2
      exact HV.out _ (below_drewN (Below.refl _ _) _)
end
end Go.Proofs.YtajccmkdfmpapaaGreatDoor

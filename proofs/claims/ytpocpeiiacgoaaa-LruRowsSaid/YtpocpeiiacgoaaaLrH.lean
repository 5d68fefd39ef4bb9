/-
  platelayerlaw08.LruRows answers true.
-/
import Derived.Test.YtpocpeiiacgoaaaLrH0
import Derived.Test.YtpocpeiiacgoaaaLruMath2
import Derived.Deep.CutBlock
import Derived.Deep.DeepCutAuto
import Derived.Laws.MakeOwn
namespace Go.Proofs.Ytpocpeiiacgoaaa
open Go.RowKit

/-- A ranking of a call's own, behind acts. -/
structure RA (w0 w : World) (kb : Nat) (S : RkS) (n : Nat) : Prop where
  m : RkM w kb S
  ge : w0.heap.size ≤ kb
  en : S.n = n
  room : S.Room
  old : Below w0.heap.size w0 w
theorem RA.up {w0 w w' : World} {kb n : Nat} {S : RkS} (h : RA w0 w kb S n) (hb : Below w.heap.size w w') : RA w0 w' kb S n := ⟨h.m.up hb, h.ge, h.en, h.room, below_all h.old hb⟩
theorem RA.keep {w0 w w' : World} {kb n : Nat} {S : RkS} {F : Nat → Prop} (h : RA w0 w kb S n) (hk : Kept F w w') (hn : ¬ F kb) (hF : ∀ k, F k → w0.heap.size ≤ k) : RA w0 w' kb S n := ⟨h.m.keep hk hn, h.ge, h.en, h.room, h.old.trans (hk.below h.old.size hF)⟩
/-- A row of truths. -/
def bCells (l : List Bool) : List Value := l.map Value.bool
theorem boolInfo : (Try.prog.info? 4).map (fun i => (i.zero, i.size, i.bytes)) = some (some (.bool false), 1, 1) := by kernel_rfl
def zerosB (k : Nat) : Obj := .cells (madeCells (Value.bool false).cells (k * 1)) 4
theorem make_bools (k : Nat) (hk : k ≤ 1000) (w : World) : (Instr.makeSlice 34 (.int .i64 (k : Int)) (.int .i64 (k : Int))).run Try.prog w = .ok (.slice (some ⟨w.heap.size, 0, none⟩) k k) (w.alloc (zerosB k)) := by
  obtain ⟨i0, hi, hz0, hz1, hz2⟩ := info_parts boolInfo
  have := run_make (P := Try.prog) w 34 4 i0 (.bool false) Try.underlying34 hi hz0 .i64 .i64 (k : Int) (k : Int) (by omega) (Int.le_refl _) (by rw [hz2]; omega) (by omega)
  rw [hz1] at this
  simpa [zerosB] using this
/-- Which numbers were seen. -/
def seenL (n : Nat) (l : List Nat) : List Bool := (List.range n).map (fun s => decide (s ∈ l))
theorem seen_at (n : Nat) (l : List Nat) (s : Nat) (h : s < n) : (bCells (seenL n l))[s]? = some (.bool (decide (s ∈ l))) := by
  unfold bCells seenL
  simp [h]
theorem seen_len (n : Nat) (l : List Nat) : (bCells (seenL n l)).length = n := by simp [bCells, seenL]
theorem seen_set (n : Nat) (l : List Nat) (s : Nat) : (bCells (seenL n l)).set s (.bool true) = bCells (seenL n (l ++ [s])) := by
  refine List.ext_getElem (by simp [seen_len]) fun i h1 h2 => ?_
  simp only [List.getElem_set, bCells, seenL, List.getElem_map, List.getElem_range]
  by_cases e : s = i
  · subst e
    simp
  · have : ¬ i = s := fun h => e h.symm
    simp [e, this]
theorem zerosB_blk (k : Nat) (w : World) : Blk (w.alloc (zerosB k)) w.heap.size 4 (bCells (seenL k [])) := by
  have h := heap_alloc_new w (zerosB k)
  have e : zerosB k = .cells (bCells (seenL k [])).toArray 4 := by
    unfold zerosB
    congr 1
    refine Array.ext (by rw [size_madeCells]; simp [seen_len]) fun i h1 h2 => ?_
    simp [madeCells, Value.cells, Nat.mod_one, bCells, seenL]
  rw [e] at h ⊢
  exact h
/-- .. with a row of numbers, an act, and a row of what was seen, all of the call's own. -/
structure LP (w0 w : World) (kb : Nat) (S : RkS) (N g cap : Nat) (all : List Nat) (gs : Nat) (l : List Nat) (a : Nat) (d x : Int) : Prop where
  ra : RA w0 w kb S N
  nr : NatR w w0.heap.size g cap all
  ac : Blk w a 30 [.int .i64 d, .int .i64 x]
  sn : Blk w gs 4 (bCells (seenL N l))
  ne : gs ≠ kb ∧ gs ≠ g ∧ gs ≠ a ∧ w0.heap.size ≤ gs
theorem LP.put {w0 w : World} {kb N g cap gs a : Nat} {S : RkS} {all l : List Nat} {d x : Int} (h : LP w0 w kb S N g cap all gs l a d x) (s : Nat) : LP w0 (w.setCell ⟨gs, s, none⟩ (.bool true)) kb S N g cap all gs (l ++ [s]) a d x := by
  have hk := kept_put w gs s (.bool true)
  refine ⟨h.ra.keep hk (fun e => h.ne.1 e.symm) (fun k e => by rw [e]; exact h.ne.2.2.2), h.nr.keep hk (fun e => h.ne.2.1 e.symm), hk.blk h.ac (fun e => h.ne.2.2.1 e.symm), ?_, h.ne⟩
  have := h.sn.put s (.bool true)
  rwa [seen_set] at this
theorem LP.seen {w0 w : World} {kb N g cap gs a : Nat} {S : RkS} {all l : List Nat} {d x : Int} (h : LP w0 w kb S N g cap all gs l a d x) (s : Nat) (hs : s < N) : w.cell? ⟨gs, s, none⟩ = some (.bool (decide (s ∈ l))) := by
  have h1 := h.sn.cell s (by rw [seen_len]; exact hs)
  have h2 := seen_at N l s hs
  rw [List.getElem?_eq_getElem (by rw [seen_len]; exact hs)] at h2
  rw [h1, Option.some.inj h2]
set_option maxHeartbeats 8000000 in
set_option maxRecDepth 100000 in
theorem lrows_true {w : World} (n : Int) (A : Option Addr) (m c : Nat) (l : List (Int × Int)) (hl : l.length = m) (hr : RdA w A l) : Calls Try.prog 3 #[.int .i64 n, .slice A m c] w (BoolB true w) := by
  have HL := Lib.hid hl
  have HR := Lib.hid hr
  clear hl hr
  go_enter Try.func3, Try.ntmps3
  go_wp2_with fail
  refine (lawake_true w).mono ?_
  rintro r w1 ⟨rfl, hb⟩
  have HB1 := Lib.hid hb
  clear hb
  go_wp2_with fail
  refine (lnew_at n w1).mono ?_
  rintro r w2 h
  obtain ⟨hb, h⟩ := h
  by_cases hnn : 1 ≤ n ∧ n ≤ 64
  · rw [if_pos hnn] at h
    obtain ⟨rfl, hm⟩ := h
    obtain ⟨N, rfl⟩ := Int.eq_ofNat_of_zero_le (show 0 ≤ n by omega)
    rw [Int.toNat_natCast] at hm
    obtain ⟨kb, hkb⟩ : ∃ kb, w1.heap.size = kb := ⟨_, rfl⟩
    have HM2 : Hid (RA w w2 kb ⟨[], [], N⟩ N) := Lib.hid ⟨by rw [← hkb]; exact hm, by have := HB1.out.size; omega, rfl, by simp [RkS.Room], below_all HB1.out hb⟩
    clear hm hb HB1
    rw [hkb]
    have hN1 : 1 ≤ N ∧ N ≤ 64 := by omega
    clear hnn
    by_cases hmm : 200 < m
    · go_wp2_with fail
      go_ret
      exact ⟨rfl, HM2.out.old⟩
    · go_wp2_with fail
      go_loopg [7, 38] m (fun q x y wr => ∃ (i : Nat) (S : RkS), i ≤ m ∧ q = m - i ∧ x = .int .i64 (S.cnt : Int) ∧ y = .int .i64 i ∧ RA w wr kb S N)
      case atStart => exact ⟨0, _, by omega, by omega, rfl, rfl, HM2.out⟩
      case round =>
        clear HM2
        obtain ⟨i, S, hi, hq, rfl, rfl, hra⟩ := hrel
        have HQ := Lib.hid hq
        have HRA := Lib.hid hra
        clear hq hra
        by_cases hlt : i < m
        · have hll : i < l.length := by rw [HL.out]; exact hlt
          obtain ⟨b, o, rfl, hbl, hcell⟩ := (HR.out.below HRA.out.old) (by omega)
          obtain ⟨c0, c1⟩ := hcell i hll
          obtain ⟨d, hd⟩ : ∃ d, l[i].1 = d := ⟨_, rfl⟩
          obtain ⟨x, hx⟩ : ∃ x, l[i].2 = x := ⟨_, rfl⟩
          rw [hd] at c0
          rw [hx] at c1
          clear hcell hd hx
          obtain ⟨a, ha⟩ : ∃ a, wr.heap.size = a := ⟨_, rfl⟩
          obtain ⟨wa, hwa⟩ : ∃ wa, wr.alloc (.cells #[.int .i64 d, .int .i64 x] 30) = wa := ⟨_, rfl⟩
          have HA := Lib.hid (HRA.out.up (show Below wr.heap.size wr wa by rw [← hwa]; exact (Below.refl _ _).alloc (Nat.le_refl _) _))
          have HX : Hid (Blk wa a 30 [.int .i64 d, .int .i64 x] ∧ a ≠ kb ∧ w.heap.size ≤ a) := Lib.hid ⟨by rw [← hwa, ← ha]; exact heap_alloc_new wr _, by have := HRA.out.m.lt; omega, by have := HRA.out.old.size; omega⟩
          have y0 := HX.out.1.cell 0 (by simp)
          have y1 := HX.out.1.cell 1 (by simp)
          clear HRA
          go_wp2_with fail
          refine (ldo_at d x HA.out.m).mono ?_
          rintro r w4 h
          obtain ⟨rfl, hm, hk⟩ := h
          have HA4 : Hid (RA w w4 kb (S.doS d x) N) := Lib.hid ⟨hm, HA.out.ge, (RkS.n_do S d x).trans HA.out.en, RkS.room_do HA.out.room d x, HA.out.old.trans (hk.below HA.out.old.size (fun k e => by rw [e]; exact HA.out.ge))⟩
          have HX4 : Hid (Blk w4 a 30 [.int .i64 d, .int .i64 x]) := Lib.hid (hk.blk HX.out.1 HX.out.2.1)
          have HCN := Lib.hid (RkS.cnt_do HA.out.m.2 d x)
          have HC64 := Lib.hid (RkS.len_le HA.out.m.2)
          have HT1 : Hid (S.doB d x = true → d = 1 → 1 < N → 1 < (S.doS d x).cnt → ((S.doS d x).vicN : Int) ≠ x) := Lib.hid (fun h1 h2 h3 h4 => by
            subst h2
            exact RkS.touched_stays HA.out.m.2 h1 (by rw [HA.out.en]; exact h3) h4)
          clear hm hk hwa ha HA y0 y1
          have x0 := HX4.out.cell 0 (by simp)
          have x1 := HX4.out.cell 1 (by simp)
          obtain ⟨S', hS'⟩ : ∃ S', S.doS d x = S' := ⟨_, rfl⟩
          obtain ⟨bb, hbb⟩ : ∃ bb, S.doB d x = bb := ⟨_, rfl⟩
          obtain ⟨cn, hcn⟩ : ∃ cn, S'.cnt = cn := ⟨_, rfl⟩
          obtain ⟨c0', hc0'⟩ : ∃ c0', S.cnt = c0' := ⟨_, rfl⟩
          rw [hS'] at HA4 HCN HT1
          rw [hbb] at HCN HT1 ⊢
          rw [hcn] at HCN HT1
          rw [hc0'] at HCN ⊢
          have hc64 : c0' ≤ 64 := by have := HC64.out; unfold RkS.cnt at hc0'; omega
          have HCN2 := Lib.hid hcn
          clear hS' hbb hcn hc0' HC64
          go_upto_block 2 with fail
          go_cut [7] (fun s7 wx => s7 = .int .i64 (cn : Int) ∧ w4 = wx)
          case first =>
            have HC := HCN.out
            cases bb
            · have e : (c0' : Int) = (cn : Int) := by simpa using HC.symm
              have HE := Lib.hid e
              clear e HC
              go_wp2_with fail
              go_meet
              case rel => exact ⟨by rw [HE.out], rfl⟩
            · by_cases d0 : d = 0
              · subst d0
                have e : (c0' : Int) + 1 = (cn : Int) := by simpa using HC.symm
                have HE := Lib.hid e
                clear e HC
                go_wp2_with fail
                go_meet
                case rel => exact ⟨by rw [← HE.out], rfl⟩
              · have q0 : (d == 0) = false := by simpa using d0
                by_cases d1 : 1 < d
                · have e : (c0' : Int) - 1 = (cn : Int) := by
                    rw [if_pos rfl, if_neg d0, if_pos d1] at HC
                    omega
                  have HE := Lib.hid e
                  have q1 : decide (1 < d) = true := by simpa using d1
                  clear e HC
                  go_wp2_with fail
                  go_meet
                  case rel => exact ⟨by rw [← HE.out], rfl⟩
                · have e : (c0' : Int) = (cn : Int) := by
                    rw [if_pos rfl, if_neg d0, if_neg d1] at HC
                    omega
                  have HE := Lib.hid e
                  have q1 : decide (1 < d) = false := by simpa using d1
                  clear e HC
                  go_wp2_with fail
                  go_meet
                  case rel => exact ⟨by rw [HE.out], rfl⟩
          case rest =>
            obtain ⟨rfl, rfl⟩ := hcut
            clear HCN
            obtain ⟨h2, eh2⟩ : ∃ h2, N / 2 = h2 := ⟨_, rfl⟩
            have e2 : (N : Int) / 2 = (h2 : Int) := by omega
            have HROOM : Hid (S'.K.length ≤ h2) := Lib.hid (by have h1 := HA4.out.room; unfold RkS.Room at h1; rw [HA4.out.en, eh2] at h1; exact h1)
            clear eh2
            go_wp2_with fail
            refine (ltrial_at HA4.out.m).mono ?_
            rintro r w5 ⟨A5, c5, rfl, hF, hb⟩
            have HT5 := Lib.hid hF
            have HA5 := Lib.hid (HA4.out.up hb)
            have HX5 := Lib.hid (HX4.out.up hb (lt_of_block HX4.out))
            clear hF hb HA4 HX4 x0 x1
            obtain ⟨tl, htl⟩ : ∃ tl, S'.T.length = tl := ⟨_, rfl⟩
            rw [htl] at HT5 ⊢
            go_wp2_with fail
            refine (lkept_at HA5.out.m).mono ?_
            rintro r w6 ⟨A6, c6, rfl, hF, hb⟩
            have HK6 := Lib.hid hF
            have HT6 := Lib.hid (HT5.out.up hb)
            have HA6 := Lib.hid (HA5.out.up hb)
            have HX6 := Lib.hid (HX5.out.up hb (lt_of_block HX5.out))
            clear hF hb HA5 HX5 HT5
            obtain ⟨kl, hkl⟩ : ∃ kl, S'.K.length = kl := ⟨_, rfl⟩
            rw [hkl] at HK6 HROOM ⊢
            have HTK : Hid (tl + kl = cn) := Lib.hid (by have := HCN2.out; unfold RkS.cnt at this; omega)
            have h64 : tl + kl ≤ 64 := by have := RkS.len_le HA6.out.m.2; omega
            have d1 : decide (h2 < kl) = false := by have := HROOM.out; simp; omega
            have q1 : ((tl : Int) + (kl : Int) != (cn : Int)) = false := by have := HTK.out; simp; omega
            obtain ⟨gs, hgs⟩ : ∃ gs, w6.heap.size = gs := ⟨_, rfl⟩
            obtain ⟨w7, hw7⟩ : ∃ w7, w6.alloc (zerosB N) = w7 := ⟨_, rfl⟩
            have hmk := make_bools N (by omega) w6
            rw [hgs, hw7] at hmk
            have HB7 : Hid (Below w6.heap.size w6 w7) := Lib.hid (by rw [← hw7]; exact (Below.refl _ _).alloc (Nat.le_refl _) _)
            have HS7 : Hid (Blk w7 gs 4 (bCells (seenL N []))) := Lib.hid (by rw [← hw7, ← hgs]; exact zerosB_blk N w6)
            have HGS : Hid (w.heap.size ≤ gs ∧ gs ≠ kb ∧ gs ≠ a) := Lib.hid ⟨by have := HA6.out.old.size; omega, by have := HA6.out.m.lt; omega, by have := lt_of_block HX6.out; omega⟩
            clear hw7 hgs
            have HA7 := Lib.hid (HA6.out.up HB7.out)
            have HX7 := Lib.hid (HX6.out.up HB7.out (lt_of_block HX6.out))
            have HT7 := Lib.hid (HT6.out.up HB7.out)
            have HK7 := Lib.hid (HK6.out.up HB7.out)
            clear HA6 HX6 HT6 HK6 HB7
            have HB8 : Hid (Below w7.heap.size w7 (w7.alloc (.cells #[] 3))) := Lib.hid ((Below.refl _ _).alloc (Nat.le_refl _) _)
            have HN8 : Hid (NatR (w7.alloc (.cells #[] 3)) w7.heap.size w7.heap.size 0 []) := Lib.hid (NatR.new w7 _ (Nat.le_refl _) [] (by simp))
            obtain ⟨L, hL⟩ : ∃ L, S'.T ++ S'.K = L := ⟨_, rfl⟩
            have HLL : Hid (S'.T ++ S'.K = L ∧ L.Nodup ∧ (∀ s ∈ L, s < N) ∧ L.length = cn) := Lib.hid ⟨hL, by rw [← hL]; exact HA7.out.m.2.nd, fun s hs => by rw [← hL] at hs; rw [← HA7.out.en]; exact HA7.out.m.2.lt s hs, by rw [← hL, List.length_append, htl, hkl]; exact HTK.out⟩
            clear htl hkl hL
            go_wp2_with (first
              | (at_builtin; refine appI _ rfl (.tmp 83) (.tmp 84) rfl w7.heap.size w7.heap.size w7.heap.size 0 0 tl c5 [] (nats S'.T) A5 rfl HN8.out rfl rfl (HT7.out.rdI.1.below HB8.out) HT7.out.rdI.2.1 (by omega) HB8.out.size ?_; intro g6 cap6 w9 ho hg hgg; rw [Nat.zero_add, List.nil_append] at *; have HO9 : Hid (NatR w9 w7.heap.size g6 cap6 S'.T) := Lib.hid ho; have HB9 := Lib.hid (HB8.out.grown hg HB8.out.size (fun e he => by have := Option.some.inj he; omega)); clear ho hg hgg)
              | (at_builtin; refine appI _ rfl (.tmp 85) (.tmp 86) rfl w7.heap.size w7.heap.size g6 cap6 tl kl c6 (nats S'.T) (nats S'.K) A6 rfl HO9.out HT7.out.rdI.2.1 rfl (HK7.out.rdI.1.below HB9.out) HK7.out.rdI.2.1 (by omega) HB9.out.size ?_; intro g7 cap7 w10 ho hg hgg; rw [← nats_app, HLL.out.1] at ho; have HO10 : Hid (NatR w10 w7.heap.size g7 cap7 L) := Lib.hid ho; have HG6 := HO9.out.mem.1; have HB10 := Lib.hid (HB9.out.grown hg HB9.out.size (fun e he => by have := Option.some.inj he; omega)); clear ho hg hgg HG6; rw [HTK.out])
              | fail)
            have HLP : Hid (LP w w10 kb S' N g7 cap7 L gs [] a d x) := Lib.hid ⟨HA7.out.up HB10.out, OwnG.le HO10.out HA7.out.old.size, HX7.out.up HB10.out (lt_of_block HX7.out), HS7.out.up HB10.out (lt_of_block HS7.out), HGS.out.2.1, by have := HO10.out.mem.1; have := lt_of_block HS7.out; omega, HGS.out.2.2, HGS.out.1⟩
            clear HB10 HO10 HB9 HO9 HB8 HN8 HA7 HX7 HT7 HK7 HS7 HGS hmk q1 d1 e2
            have hcn64 : cn ≤ 64 := by have := HTK.out; omega
            go_loopg [89] cn (fun q y wq => ∃ k : Nat, k ≤ cn ∧ q = cn - k ∧ y = .int .i64 k ∧ LP w wq kb S' N g7 cap7 L gs (L.take k) a d x)
            case atStart => exact ⟨0, by omega, by omega, rfl, HLP.out⟩
            case round =>
              clear HLP
              obtain ⟨k, hk, hq2, rfl, hlp⟩ := hrel
              have HQ2 := Lib.hid hq2
              have HLP := Lib.hid hlp
              clear hq2 hlp
              by_cases hlt2 : k < cn
              · have hkl : k < L.length := by rw [HLL.out.2.2.2]; exact hlt2
                have y0 := HLP.out.nr.cell k hkl
                obtain ⟨s, hs⟩ : ∃ s, L[k] = s := ⟨_, rfl⟩
                have hsN : s < N := by rw [← hs]; exact HLL.out.2.2.1 _ (List.getElem_mem _)
                have y1 := HLP.out.seen s hsN
                have hno : decide (s ∈ L.take k) = false := by
                  rw [decide_eq_false_iff_not, ← hs]
                  intro hm
                  obtain ⟨j, hj, e⟩ := List.getElem_of_mem hm
                  rw [List.getElem_take] at e
                  have hj2 : j < k := by simp at hj; omega
                  exact (List.pairwise_iff_getElem.1 (List.nodup_iff_pairwise_ne.1 HLL.out.2.1)) j k (by omega) hkl hj2 e
                rw [hno] at y1
                rw [hs] at y0
                have y2 := HLP.out.sn.free s
                have HP := Lib.hid (HLP.out.put s)
                rw [show L.take k ++ [s] = L.take (k + 1) by rw [List.take_add_one, List.getElem?_eq_getElem hkl, hs]; rfl] at HP
                have d0 : decide ((s : Int) < 0) = false := by simp
                have d3 : decide (N ≤ s) = false := by simp; omega
                clear hs hkl hno HLP
                go_wp2_with fail
                go_roundg (cn - (k + 1))
                case rel => exact ⟨k + 1, by omega, rfl, by go_num, HP.out⟩
                case measure => have := HQ2.out; omega
              · obtain rfl : k = cn := by omega
                rw [List.take_of_length_le (by rw [HLL.out.2.2.2]; exact Nat.le_refl _)] at HLP
                go_wp2_with fail
                refine (lvictim_at HLP.out.ra.m).mono ?_
                rintro r wv ⟨rfl, rfl⟩
                have HV := Lib.hid (RkS.vic_cnt S')
                rw [HCN2.out] at HV
                obtain ⟨sm, hsm⟩ : ∃ sm, S'.vic.isSome = sm := ⟨_, rfl⟩
                obtain ⟨v, hv⟩ : ∃ v, S'.vicN = v := ⟨_, rfl⟩
                have HVM : Hid (sm = true → v ∈ L) := Lib.hid (fun h => by
                  rw [← HLL.out.1]
                  rw [h] at hsm
                  obtain ⟨u, hu⟩ := Option.isSome_iff_exists.1 hsm
                  have := RkS.vic_mem hu
                  rw [← hv]
                  unfold RkS.vicN
                  rw [hu]
                  exact this)
                rw [hv] at HT1 ⊢
                rw [hsm] at HV ⊢
                clear hv hsm
                have x0 := HLP.out.ac.cell 0 (by simp)
                have x1 := HLP.out.ac.cell 1 (by simp)
                go_upto_region 27 with fail
                go_cut [150] (fun s150 wx => s150 = .bool false ∧ wr = wx)
                case first =>
                  by_cases hc0 : 0 < k
                  · obtain rfl : sm = true := by rw [HV.out]; simpa using hc0
                    have hvL := HVM.out rfl
                    have hvN : v < N := HLL.out.2.2.1 v hvL
                    have y1 := HLP.out.seen v hvN
                    rw [decide_eq_true hvL] at y1
                    have dc : decide (0 < k) = true := by simpa using hc0
                    clear hvL
                    cases bb with
                    | false =>
                      go_wp2_with fail
                      go_meet
                      case rel => exact ⟨rfl, rfl⟩
                    | true =>
                      by_cases hd1 : d = 1
                      · subst hd1
                        by_cases hx : x = (v : Int)
                        · have q1 : ((v : Int) == x) = true := by rw [hx]; simp
                          by_cases h1 : 1 < k
                          · by_cases h2 : 1 < N
                            · exact absurd hx.symm (HT1.out rfl rfl h2 h1)
                            · have d2 : decide (1 < N) = false := by simpa using h2
                              have d1 : decide (1 < k) = true := by simpa using h1
                              go_wp2_with fail
                              go_meet
                              case rel => exact ⟨by simp; omega, rfl⟩
                          · have d1 : decide (1 < k) = false := by simpa using h1
                            go_wp2_with fail
                            go_meet
                            case rel => exact ⟨rfl, rfl⟩
                        · have q1 : ((v : Int) == x) = false := by simp; exact fun e => hx e.symm
                          go_wp2_with fail
                          go_meet
                          case rel => exact ⟨rfl, rfl⟩
                      · have q0 : (d == 1) = false := by simpa using hd1
                        go_wp2_with fail
                        go_meet
                        case rel => exact ⟨rfl, rfl⟩
                  · obtain rfl : k = 0 := by omega
                    obtain rfl : sm = false := by rw [HV.out]; simp
                    cases bb with
                    | false =>
                      go_wp2_with fail
                      go_meet
                      case rel => exact ⟨rfl, rfl⟩
                    | true =>
                      by_cases hd1 : d = 1
                      · subst hd1
                        by_cases hx : x = (v : Int)
                        · have q1 : ((v : Int) == x) = true := by rw [hx]; simp
                          go_wp2_with fail
                          go_meet
                          case rel => exact ⟨rfl, rfl⟩
                        · have q1 : ((v : Int) == x) = false := by simp; exact fun e => hx e.symm
                          go_wp2_with fail
                          go_meet
                          case rel => exact ⟨rfl, rfl⟩
                      · have q0 : (d == 1) = false := by simpa using hd1
                        go_wp2_with fail
                        go_meet
                        case rel => exact ⟨rfl, rfl⟩
                case rest =>
                  obtain ⟨rfl, rfl⟩ := hcut
                  go_wp2_with fail
                  go_roundg (m - (i + 1))
                  case rel => exact ⟨i + 1, S', by omega, rfl, by rw [HCN2.out], by go_num, HLP.out.ra⟩
                  case measure => have := HQ.out; omega
        · go_wp2_with fail
          go_ret
          exact ⟨rfl, HRA.out.old⟩
  · rw [if_neg hnn] at h
    obtain rfl := h
    have HB2 := Lib.hid (below_all HB1.out hb)
    clear hb HB1
    go_wp2_with fail
    go_ret
    exact ⟨rfl, HB2.out⟩
end Go.Proofs.Ytpocpeiiacgoaaa

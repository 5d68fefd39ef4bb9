/-
  platelayerlaw14.ChainMore answers true.
-/
import Derived.Test.YtckkgjggoopjiaaChE
namespace Go.Proofs.Ytckkgjggoopjiaa
open Go.RowKit

theorem he_n : Try.prog.underlying 26 = some (.slice (Try.prog.elem 26)) := by kernel_rfl
theorem hz_n : ∀ W : World, (sizeOf (Try.prog.elem 26)).run Try.prog W = .ok 1 W := by
  intro W
  have h : Try.prog.elem 26 = 3 := by kernel_rfl
  rw [h]
  simp [Try.sizeOf3]
theorem fl_step {s : Int} {l : List HdS} {i : Nat} (hi : i < l.length) : (l.take (i + 1)).filter (HdS.isL s) = (l.take i).filter (HdS.isL s) ++ (if HdS.isL s l[i] = true then [l[i]] else []) := by
  rw [List.take_succ_eq_append_getElem hi, List.filter_append]
  congr 1
  by_cases h : HdS.isL s l[i] = true
  · rw [if_pos h, List.filter_cons_of_pos h]
    rfl
  · rw [if_neg h, List.filter_cons_of_neg h]
    rfl
theorem er_step {l : List HdS} {i j : Nat} (hi : i < l.length) : (l.take (i + 1)).eraseIdx j = if i = j then (l.take i).eraseIdx j else (l.take i).eraseIdx j ++ [l[i]] := by
  rw [List.take_succ_eq_append_getElem hi]
  have hl : (l.take i).length = i := by rw [List.length_take]; omega
  by_cases h : i = j
  · subst h
    have e1 : (l.take i ++ [l[i]]).eraseIdx i = l.take i := by
      rw [List.eraseIdx_append_of_length_le (by rw [hl]; exact Nat.le_refl _), hl, Nat.sub_self]
      simp
    have e2 : (l.take i).eraseIdx i = l.take i := List.eraseIdx_of_length_le (by rw [hl]; exact Nat.le_refl _)
    rw [if_pos rfl, e1, e2]
  · rw [if_neg h]
    by_cases h2 : j < i
    · rw [List.eraseIdx_append_of_lt_length (by omega)]
    · have e1 : (l.take i ++ [l[i]]).eraseIdx j = l.take i ++ [l[i]] := List.eraseIdx_of_length_le (by rw [List.length_append, hl]; simp; omega)
      have e2 : (l.take i).eraseIdx j = l.take i := List.eraseIdx_of_length_le (by rw [hl]; omega)
      rw [e1, e2]
theorem cnt_snoc (p : HdS → Bool) (l : List HdS) (h : HdS) : (l ++ [h]).countP p = l.countP p + (if p h = true then 1 else 0) := by
  rw [List.countP_append, List.countP_cons, List.countP_nil, Nat.zero_add]
theorem Blk.off {w w' : World} {g : Nat} {T : TypeId} {cs : List Value} {row : Option Nat} (h : Blk w g T cs) (hg : w.grownBy w' row) (hn : ∀ b, row = some b → b ≠ g) : Blk w' g T cs := h.kept hg (fun e => hn g e.symm rfl)
theorem below_dn {B : Nat} (w : World) (n : Nat) : Below B w (w.drewN n) := ⟨rfl, rfl, rfl, Nat.le_refl _, fun _ _ => rfl⟩
theorem OwnK.ltV {w : World} {base k n : Nat} {T : TypeId} {v : Value} {cs : List Value} (h : OwnK w base T k v n cs) : ∀ j, v.ownBlock = some j → j < w.heap.size := by
  rcases h.2 with ⟨rfl, _⟩ | ⟨g, cap, cur, rfl, hb, hg, _⟩
  · intro j hj
    cases hj
  · intro j hj
    simp [Value.ownBlock] at hj
    subst hj
    exact lt_of_block hg
set_option maxHeartbeats 16000000 in
set_option maxRecDepth 100000 in
theorem cnmore_true (O : COps) {w : World} (s q : Int) (q0 : 0 ≤ q) (q1 : q < 4294967296) (A : Option Addr) (n c : Nat) (l : List HdS) (hl : l.length = n) (hr : RdV w w.heap.size A (hsC l)) (hnc : n ≤ c) (hz : A = none → c = 0) (hb : SeqOk l) (A2 : Option Addr) (n2 c2 : Nat) (l2 : List HdS) (hl2 : l2.length = n2) (hr2 : RdV w w.heap.size A2 (hsC l2)) (hz2 : A2 = none → c2 = 0) (hb2 : SeqOk l2) (t : Int) : Calls Try.prog 5 #[.int .u32 s, .int .u32 q, .slice A n c, .slice A2 n2 c2, .int .i64 t] w (BoolB true w) := by
  have HR := Lib.hid hr
  have HN := Lib.hid hl
  have HNC := Lib.hid hnc
  have HZ := Lib.hid hz
  have HSO := Lib.hid hb
  have HRM := Lib.hid hr2
  have HNM := Lib.hid hl2
  have HZM := Lib.hid hz2
  have HSM2 := Lib.hid hb2
  clear hr hl hnc hz hb hr2 hl2 hz2 hb2
  go_enter Try.func5, Try.ntmps5
  go_wp2_with fail
  refine (cnawake_true O w).mono ?_
  rintro r w1 ⟨rfl, hb⟩
  have HB1 := Lib.hid hb
  clear hb
  by_cases hmm : 200 < n
  · have d : decide ((200 : Int) < (n : Int)) = true := by simp; omega
    go_wp2_with fail
    go_ret
    exact ⟨rfl, HB1.out⟩
  have d : decide ((200 : Int) < (n : Int)) = false := by simp; omega
  by_cases hmm2 : 200 < n2
  · have d2 : decide ((200 : Int) < (n2 : Int)) = true := by simp; omega
    go_wp2_with fail
    go_ret
    exact ⟨rfl, HB1.out⟩
  have d2 : decide ((200 : Int) < (n2 : Int)) = false := by simp; omega
  have HC1 := Lib.hid (O.of s q l HN.out (HR.out.up HB1.out) HNC.out HZ.out (by omega) HSO.out q0 q1)
  go_wp2_with fail
  refine HC1.out.mono ?_
  rintro r w3 ⟨A3, k3, rfl, hr3, _, _, hb⟩
  have HB3 := Lib.hid (below_all HB1.out hb)
  have HR3 := Lib.hid hr3
  obtain ⟨ch1, lk, ch3, e1, e2, e3, HT, HCH, HLK, HCUT, HML0⟩ : ∃ (ch1 : List Nat) (lk : List HdS) (ch3 : List Nat), HdS.chL s q l = ch1 ∧ l.filter (HdS.isL s) = lk ∧ HdS.chL s q lk = ch3 ∧ Hid (ch1.length ≤ (HdS.chL s q (l ++ l2)).length ∧ (HdS.chL s q (l ++ l2)).take ch1.length = ch1) ∧ Hid (HdS.ChS s q l ch1) ∧ Hid (ch3.length = ch1.length ∧ ∀ k (h1 : k < ch3.length) (h2 : k < ch1.length), ∃ (h3 : ch3[k] < lk.length) (h4 : ch1[k] < l.length), lk[ch3[k]] = l[ch1[k]]) ∧ Hid (∀ (k j : Nat) (hk : k < ch1.length) (hj : ch1[k] = j), ∃ hjl : j < l.length, (0 < HdS.same s l j l[j].q → (HdS.chL s q (l.eraseIdx j)).length = ch1.length) ∧ (HdS.same s l j l[j].q = 0 → (HdS.chL s q (l.eraseIdx j)).length = k) ∧ l[j].s = s) ∧ Hid (ch1.length ≤ l.length) :=
    ⟨_, _, _, rfl, rfl, rfl, Lib.hid (HdS.more_take s q l l2), Lib.hid (HdS.ch_is s q l), Lib.hid (HdS.links_same s q l), Lib.hid (fun k j hk hj => HdS.cut_len hk hj), Lib.hid (HdS.ch_len s q l)⟩
  have HE2 := Lib.hid e2
  have HE3 := Lib.hid e3
  rw [e1] at HR3 ⊢
  obtain ⟨m, hm⟩ : ∃ x, ch1.length = x := ⟨_, rfl⟩
  have HM := Lib.hid hm
  rw [hm]
  have hmn : m ≤ n := by have := HML0.out; rw [hm, HN.out] at this; exact this
  clear e1 e2 e3 hm hb hr3 HC1 HB1 d d2 HML0
  obtain ⟨w4, hw4⟩ : ∃ u, w3.alloc (.cells #[] 34) = u := ⟨_, rfl⟩
  have hb4 : Below w3.heap.size w3 w4 := by rw [← hw4]; exact (Below.refl _ _).alloc (Nat.le_refl _) _
  have HO4 : Hid (OwnK w4 w3.heap.size 34 4 (.slice (some ⟨w3.heap.size, 0, none⟩) 0 0) 0 []) := Lib.hid (by rw [← hw4]; exact OwnK.new w3 w3.heap.size 34 4 0 [] (Nat.le_refl _) rfl (by omega))
  have HB4 := Lib.hid hb4
  have HR4 := Lib.hid (HR.out.up (below_all HB3.out hb4))
  have HRM3 := Lib.hid (HRM.out.up HB3.out)
  clear hb4
  go_wp2_with (first
    | (at_builtin; (refine appP _ rfl (.tmp 40) (.tmp 41) 23 34 (.agg #[.int .u8 0, .int .u32 0, .int .u32 0, .int .u32 0]) 4 16 rfl Try.underlying23 cnInfo rfl (by decide) (by decide) w3.heap.size 0 n c (.slice (some ⟨w3.heap.size, 0, none⟩) 0 0) [] (hsC l) A rfl HO4.out rfl (by rw [hsC_len, HN.out]) HR4.out HZ.out (hsC_one _) (by omega) HB4.out.size ?_; intro v5 w5 ho hg; rw [Nat.zero_add, List.nil_append] at ho; have HO5 := Lib.hid ho; have HB5 := Lib.hid (below_grown HB4.out hg (fun e he => HO4.out.own e he)); have HRM5 := Lib.hid (HRM3.out.up HB5.out); clear ho hg))
    | (at_builtin; (refine appP _ rfl (.tmp 42) (.tmp 43) 23 34 (.agg #[.int .u8 0, .int .u32 0, .int .u32 0, .int .u32 0]) 4 16 rfl Try.underlying23 cnInfo rfl (by decide) (by decide) w3.heap.size n n2 c2 v5 (hsC l) (hsC l2) A2 rfl HO5.out rfl (by rw [hsC_len, HNM.out]) HRM5.out HZM.out (hsC_one _) (by omega) HB5.out.size ?_; intro v6 w6 ho hg; rw [← hsC_app] at ho; obtain ⟨A6, c6, rfl, hn6, _, hz6⟩ := ho.form; have HR6 := Lib.hid ho.rd; have HN6 := Lib.hid hn6; have HZ6 := Lib.hid hz6; have HB6 := Lib.hid (below_grown HB5.out hg (fun e he => HO5.out.own e he)); clear ho hg hn6 hz6))
    | fail)
  have HL6 : Hid ((l ++ l2).length = n + n2) := Lib.hid (by rw [List.length_append, HN.out, HNM.out])
  have HS6 : Hid (SeqOk (l ++ l2)) := Lib.hid (fun h hm => (List.mem_append.1 hm).elim (HSO.out h) (HSM2.out h))
  refine (O.of s q (l ++ l2) HL6.out HR6.out HN6.out HZ6.out (by omega) HS6.out q0 q1).mono ?_
  rintro r w7 ⟨A7, k7, rfl, hr7, hk7, hz7, hb⟩
  have HB7 := Lib.hid (below_all HB6.out hb)
  have HLE2 := Lib.hid (HdS.ch_len s q (l ++ l2))
  obtain ⟨ch2, hch2⟩ : ∃ x, HdS.chL s q (l ++ l2) = x := ⟨_, rfl⟩
  rw [hch2] at hr7 hk7 HT HLE2 ⊢
  obtain ⟨m2, hm2⟩ : ∃ x, ch2.length = x := ⟨_, rfl⟩
  rw [hm2] at hk7 HT ⊢
  have hmm2 : m ≤ m2 := by have := HT.out.1; rw [HM.out] at this; exact this
  have hm400 : m2 ≤ 400 := by have := HLE2.out; rw [hm2, HL6.out] at this; omega
  have HB37 := Lib.hid (below_all HB3.out HB7.out)
  have HR37 := Lib.hid (HR3.out.up HB7.out)
  obtain ⟨A8, k8, hcut8, _, hrd8⟩ := cut_head (w := w7) (Ts := 26) (k := 1) (n := m2) (c := k7) (j := m) he_n hz_n hr7 hz7 hk7 hmm2
  obtain ⟨g1, g2⟩ := hcut8
  have HR8 := Lib.hid (hrd8 w7 (Below.refl _ _))
  have HTK : Hid ((iCells (nats ch2)).take (m * 1) = iCells (nats ch1)) := Lib.hid (by
    have := HT.out.2
    rw [HM.out] at this
    rw [Nat.mul_one]
    conv => rhs; rw [← this]
    simp [iCells, nats, List.map_take])
  rw [HTK.out] at HR8
  have HNM1 : Hid ((nats ch1).length = m) := Lib.hid (by rw [nats_len]; exact HM.out)
  have dd : decide (m2 < m) = false := by simp; omega
  clear hb hr7 hk7 hz7 hrd8 hch2 HT HTK HLE2 HB6 HB5 HB4 HO5 HO4 HR4 HRM5 HRM3 HR6 HN6 HZ6 HS6 HL6 hw4 hm2
  go_wp2_with fail
  refine (rsame_is (xs := nats ch1) (ys := nats ch1) (n := m) (m := m) HR8.out HR37.out HNM1.out HNM1.out (by have := HNM1.out; omega)).mono ?_
  rw [show decide (nats ch1 = nats ch1) = true by simp]
  rintro r wb ⟨rfl, hb⟩
  have HBB := Lib.hid (below_all HB37.out hb)
  have HCB := Lib.hid (HR37.out.up hb)
  have HR := Lib.hid (HR.out.up HBB.out)
  clear hb HR8 HR37 HB37 HB7 HB3 HR3 g1 g2 hm400
  go_wp2_with fail
  clear dd hmm2
  go_loopg [13, 62] n (fun g u y wr => ∃ (i e : Nat), i ≤ n ∧ g = n - i ∧ y = .int .i64 (i : Int) ∧ ((l.take i).filter (HdS.isL s)).length = e ∧ e ≤ i ∧ OwnK wr wb.heap.size 34 4 u e (hsC ((l.take i).filter (HdS.isL s))) ∧ Below wb.heap.size wb wr)
  case atStart => exact ⟨0, 0, by omega, by omega, rfl, rfl, by omega, OwnK.nil _ _ _ _, Below.refl _ _⟩
  case round =>
    obtain ⟨i, e, hi, hg, rfl, hel, hei, ho, hb⟩ := hrel
    have HG := Lib.hid hg
    have HEL := Lib.hid hel
    have HO := Lib.hid ho
    have HB := Lib.hid hb
    clear hg hel ho hb
    by_cases hlt : i < n
    · have hil : i < l.length := by rw [HN.out]; exact hlt
      obtain ⟨bl, ol, rfl, _, hcl⟩ := (HR.out.up HB.out) (by rw [hsC_len, HN.out]; omega)
      obtain ⟨c0, c1, c2, c3⟩ := h_cells hcl i hil
      obtain ⟨k0, hk0⟩ : ∃ x, (l[i]'hil).k = x := ⟨_, rfl⟩
      obtain ⟨s0, hs0⟩ : ∃ x, (l[i]'hil).s = x := ⟨_, rfl⟩
      obtain ⟨i0, hi0⟩ : ∃ x, (l[i]'hil).i = x := ⟨_, rfl⟩
      obtain ⟨p0, hp0⟩ : ∃ x, (l[i]'hil).q = x := ⟨_, rfl⟩
      have he : l[i]'hil = ⟨k0, s0, i0, p0⟩ := by rw [← hk0, ← hs0, ← hi0, ← hp0]
      rw [hk0] at c0
      rw [hs0] at c1
      rw [hi0] at c2
      rw [hp0] at c3
      obtain ⟨w6, hw6⟩ : ∃ w6, wr.alloc (.cells #[.int .u8 k0, .int .u32 s0, .int .u32 i0, .int .u32 p0] 34) = w6 := ⟨_, rfl⟩
      have hb6 : Below wr.heap.size wr w6 := by rw [← hw6]; exact (Below.refl _ _).alloc (Nat.le_refl _) _
      have hx6 : Blk w6 wr.heap.size 34 [.int .u8 k0, .int .u32 s0, .int .u32 i0, .int .u32 p0] := by rw [← hw6]; exact heap_alloc_new wr _
      have HX6 := Lib.hid hx6
      have z0 := hx6.cell 0 (by simp)
      have z1 := hx6.cell 1 (by simp)
      have z2 := hx6.cell 2 (by simp)
      have z3 := hx6.cell 3 (by simp)
      simp only [List.getElem_cons_zero, List.getElem_cons_succ] at z0 z1 z2 z3
      have HB6 := Lib.hid (below_all HB.out hb6)
      have HO6 := Lib.hid (HO.out.up hb6)
      obtain ⟨a, ha⟩ : ∃ a, wr.heap.size = a := ⟨_, rfl⟩
      have HNE : Hid (∀ b, Value.ownBlock u13 = some b → b ≠ a) := Lib.hid (fun b hb e => by have := HO.out.ltV b hb; omega)
      rw [ha] at z0 z1 z2 z3 HX6
      obtain ⟨w7, hw7⟩ : ∃ w7, w6.alloc (.cells #[.int .u8 k0, .int .u32 s0, .int .u32 i0, .int .u32 p0] 34) = w7 := ⟨_, rfl⟩
      have hb7 : Below w6.heap.size w6 w7 := by rw [← hw7]; exact (Below.refl _ _).alloc (Nat.le_refl _) _
      have HO7 := Lib.hid (HO6.out.up hb7)
      have HB7 := Lib.hid (below_all HB6.out hb7)
      have HX7 := Lib.hid (HX6.out.up hb7 (lt_of_block HX6.out))
      have HR7 : Hid (RdV w7 w7.heap.size (some ⟨w6.heap.size, 0, none⟩) [.int .u8 k0, .int .u32 s0, .int .u32 i0, .int .u32 p0]) := Lib.hid (fun _ => ⟨w6.heap.size, 0, rfl, by rw [← hw7]; simp, fun j hj => by rw [Nat.zero_add, ← hw7]; exact Blk.cell (T := 34) (heap_alloc_new w6 _) j hj⟩)
      clear hcl hk0 hs0 hi0 hp0 hb6 hb7 hx6 HO
      have HFS := Lib.hid (fl_step (s := s) hil)
      rw [he] at HFS
      obtain ⟨lst, hlst⟩ : ∃ x, (l.take i).filter (HdS.isL s) = x := ⟨_, rfl⟩
      rw [hlst] at HFS HEL HO6 HO7
      clear he hlst hil HNE HX7 HX6
      by_cases h1 : s0 = s
      · have q1 : (s0 == s) = true := by simpa using h1
        by_cases h2 : k0 = 1
        · have q2 : (k0 == 1) = true := by simpa using h2
          have HF2 : Hid ((l.take (i + 1)).filter (HdS.isL s) = lst ++ [⟨k0, s0, i0, p0⟩]) := Lib.hid (by rw [HFS.out, if_pos (by unfold HdS.isL; exact decide_eq_true ⟨h1, .inl h2⟩)])
          clear h1 h2 HFS
          go_wp2_with (first
            | (at_builtin; go_loud (refine appP _ rfl (.tmp 80) (.tmp 82) 23 34 (.agg #[.int .u8 0, .int .u32 0, .int .u32 0, .int .u32 0]) 4 16 rfl Try.underlying23 cnInfo rfl (by decide) (by decide) wb.heap.size e 1 1 u13 (hsC lst) [.int .u8 k0, .int .u32 s0, .int .u32 i0, .int .u32 p0] (some ⟨w6.heap.size, 0, none⟩) rfl HO7.out rfl rfl HR7.out (fun e => by cases e) (fun u hu => by simp only [List.mem_cons, List.not_mem_nil, or_false] at hu; rcases hu with rfl | rfl | rfl | rfl <;> rfl) (by omega) HB7.out.size ?_; intro v8 w8 ho hg; have HO8 : Hid (OwnK w8 wb.heap.size 34 4 v8 (e + 1) (hsC (lst ++ [⟨k0, s0, i0, p0⟩]))) := Lib.hid (by rw [hsC_app]; exact ho); have HB8 := Lib.hid (below_grown HB7.out hg (fun e he => HO7.out.own e he)); clear ho hg))
            | fail)
          go_roundg (n - (i + 1))
          case rel => exact ⟨i + 1, e + 1, by omega, rfl, by go_num, by rw [HF2.out, List.length_append, HEL.out]; rfl, by omega, by rw [HF2.out]; exact HO8.out, HB8.out⟩
          case measure => have := HG.out; omega
        · have q2 : (k0 == 1) = false := by simpa using h2
          by_cases h3 : k0 = 2
          · have q3 : (k0 == 2) = true := by simpa using h3
            have HF2 : Hid ((l.take (i + 1)).filter (HdS.isL s) = lst ++ [⟨k0, s0, i0, p0⟩]) := Lib.hid (by rw [HFS.out, if_pos (by unfold HdS.isL; exact decide_eq_true ⟨h1, .inr h3⟩)])
            clear h1 h2 h3 HFS
            go_wp2_with (first
              | (at_builtin; go_loud (refine appP _ rfl (.tmp 80) (.tmp 82) 23 34 (.agg #[.int .u8 0, .int .u32 0, .int .u32 0, .int .u32 0]) 4 16 rfl Try.underlying23 cnInfo rfl (by decide) (by decide) wb.heap.size e 1 1 u13 (hsC lst) [.int .u8 k0, .int .u32 s0, .int .u32 i0, .int .u32 p0] (some ⟨w6.heap.size, 0, none⟩) rfl HO7.out rfl rfl HR7.out (fun e => by cases e) (fun u hu => by simp only [List.mem_cons, List.not_mem_nil, or_false] at hu; rcases hu with rfl | rfl | rfl | rfl <;> rfl) (by omega) HB7.out.size ?_; intro v8 w8 ho hg; have HO8 : Hid (OwnK w8 wb.heap.size 34 4 v8 (e + 1) (hsC (lst ++ [⟨k0, s0, i0, p0⟩]))) := Lib.hid (by rw [hsC_app]; exact ho); have HB8 := Lib.hid (below_grown HB7.out hg (fun e he => HO7.out.own e he)); clear ho hg))
              | fail)
            go_roundg (n - (i + 1))
            case rel => exact ⟨i + 1, e + 1, by omega, rfl, by go_num, by rw [HF2.out, List.length_append, HEL.out]; rfl, by omega, by rw [HF2.out]; exact HO8.out, HB8.out⟩
            case measure => have := HG.out; omega
          · have q3 : (k0 == 2) = false := by simpa using h3
            have HF2 : Hid ((l.take (i + 1)).filter (HdS.isL s) = lst) := Lib.hid (by rw [HFS.out, if_neg (by unfold HdS.isL; simp only [decide_eq_true_eq]; exact fun h => h.2.elim h2 h3), List.append_nil])
            clear h1 h2 h3 HFS
            go_wp2_with fail
            go_roundg (n - (i + 1))
            case rel => exact ⟨i + 1, e, by omega, rfl, by go_num, by rw [HF2.out]; exact HEL.out, by omega, by rw [HF2.out]; exact HO6.out, HB6.out⟩
            case measure => have := HG.out; omega
      · have q1 : (s0 == s) = false := by simpa using h1
        have HF2 : Hid ((l.take (i + 1)).filter (HdS.isL s) = lst) := Lib.hid (by rw [HFS.out, if_neg (by unfold HdS.isL; simp only [decide_eq_true_eq]; exact fun h => h1 h.1), List.append_nil])
        clear h1 HFS
        go_wp2_with fail
        go_roundg (n - (i + 1))
        case rel => exact ⟨i + 1, e, by omega, rfl, by go_num, by rw [HF2.out]; exact HEL.out, by omega, by rw [HF2.out]; exact HO6.out, HB6.out⟩
        case measure => have := HG.out; omega
    · obtain rfl : i = n := by omega
      obtain ⟨n, rfl⟩ : ∃ x, x = i := ⟨_, rfl⟩
      have hto : l.take n = l := List.take_of_length_le (by rw [HN.out]; exact Nat.le_refl _)
      rw [hto] at HEL HO
      have hSL : SeqOk (l.filter (HdS.isL s)) := fun h hm => HSO.out h (List.mem_filter.1 hm).1
      obtain ⟨A13, c13, rfl, hn13, _, hz13⟩ := HO.out.form
      have HN13 := Lib.hid hn13
      have HZ13 := Lib.hid hz13
      have HR13 := Lib.hid HO.out.rd
      have HC3 := Lib.hid (O.of s q (l.filter (HdS.isL s)) HEL.out HR13.out HN13.out HZ13.out (by omega) hSL q0 q1)
      rw [HE2.out] at HEL HR13 HC3
      obtain ⟨wl, rfl⟩ : ∃ u : World, u = wr := ⟨_, rfl⟩
      have HBL := Lib.hid (below_all HBB.out HB.out)
      have HCL := Lib.hid (HCB.out.up HB.out)
      have HRL := Lib.hid (HR.out.up HB.out)
      clear hto hSL hn13 hz13 HO HG hlt hi HN13 HZ13 HBB HB HCB HR
      go_wp2_with fail
      refine HC3.out.mono ?_
      rintro r wb ⟨A14, k14, rfl, hr14, _, _, hb⟩
      rw [HE3.out] at hr14 ⊢
      have HM3 : Hid (ch3.length = m) := Lib.hid (by rw [HLK.out.1]; exact HM.out)
      rw [HM3.out]
      have HR14 := Lib.hid hr14
      have HBB := Lib.hid (below_all HBL.out hb)
      have HCB := Lib.hid (HCL.out.up hb)
      have HRB := Lib.hid (HRL.out.up hb)
      have HKB := Lib.hid (HR13.out.up hb)
      have qm : ((m : Int) != (m : Int)) = false := by simp
      clear hr14 hb HC3 HBL HCL HRL HR13
      go_wp2_with fail
      clear qm
      go_loopg [96] m (fun g y wx => ∃ k : Nat, k ≤ m ∧ g = m - k ∧ y = .int .i64 (k : Int) ∧ Below wb.heap.size wb wx)
      case atStart => exact ⟨0, by omega, by omega, rfl, Below.refl _ _⟩
      case round =>
        obtain ⟨k, hk, hg, rfl, hb⟩ := hrel
        have HG := Lib.hid hg
        have HB := Lib.hid hb
        clear hg hb
        by_cases hkm : k < m
        · have hk1 : k < ch1.length := by rw [HM.out]; exact hkm
          have hk2 : k < ch3.length := by rw [HM3.out]; exact hkm
          obtain ⟨h3, h4, he⟩ := HLK.out.2 k hk2 hk1
          obtain ⟨b1, o1, rfl, _, hcell1⟩ := (HCB.out.up HB.out) (by rw [iCells_len, nats_len, HM.out]; omega)
          have y1 := i_cellN hcell1 k hk1
          obtain ⟨b2, o2, rfl, _, hcell2⟩ := (HR14.out.up HB.out) (by rw [iCells_len, nats_len, HM3.out]; omega)
          have y2 := i_cellN hcell2 k hk2
          obtain ⟨bl, ol, rfl, _, hcl⟩ := (HRB.out.up HB.out) (by rw [hsC_len]; omega)
          obtain ⟨c0, c1, c2, c3⟩ := h_cells hcl _ h4
          obtain ⟨bm, om, rfl, _, hcm⟩ := (HKB.out.up HB.out) (by rw [hsC_len]; omega)
          obtain ⟨f0, f1, f2, f3⟩ := h_cells hcm _ h3
          rw [he] at f0 f1 f2 f3
          obtain ⟨k0, hk0⟩ : ∃ x, (l[ch1[k]]'h4).k = x := ⟨_, rfl⟩
          obtain ⟨s0, hs0⟩ : ∃ x, (l[ch1[k]]'h4).s = x := ⟨_, rfl⟩
          obtain ⟨i0, hi0⟩ : ∃ x, (l[ch1[k]]'h4).i = x := ⟨_, rfl⟩
          obtain ⟨p0, hp0⟩ : ∃ x, (l[ch1[k]]'h4).q = x := ⟨_, rfl⟩
          rw [hk0] at c0 f0
          rw [hs0] at c1 f1
          rw [hi0] at c2 f2
          rw [hp0] at c3 f3
          have h4n : ch1[k] < n := by rw [← HN.out]; exact h4
          have h3n : ch3[k] < e := by rw [← HEL.out]; exact h3
          obtain ⟨x1, hx1⟩ : ∃ x, ch1[k] = x := ⟨_, rfl⟩
          obtain ⟨x2, hx2⟩ : ∃ x, ch3[k] = x := ⟨_, rfl⟩
          rw [hx1] at c0 c1 c2 c3 y1 h4n
          rw [hx2] at f0 f1 f2 f3 y2 h3n
          have hgd := guard_h
          have hnq := neq_same k0 s0 i0 p0
          clear hcell1 hcell2 hcl hcm
          go_wp2_with fail
          go_region
          go_wp2_with fail
          go_roundg (m - (k + 1))
          case rel => exact ⟨k + 1, by omega, rfl, by go_num, HB.out.drew⟩
          case measure => have := HG.out; omega
        · obtain rfl : k = m := by omega
          obtain ⟨m, rfl⟩ : ∃ x, x = k := ⟨_, rfl⟩
          have HBW := Lib.hid (below_all HBB.out HB.out)
          by_cases ht0 : t < 0
          · have d1 : decide (t < 0) = true := by simpa using ht0
            clear ht0
            go_wp2_with fail
            go_ret
            exact ⟨rfl, HBW.out⟩
          have d1 : decide (t < 0) = false := by simpa using ht0
          by_cases htm : (m : Int) ≤ t
          · have d2 : decide ((m : Int) ≤ t) = true := by simpa using htm
            clear htm ht0
            go_wp2_with fail
            go_ret
            exact ⟨rfl, HBW.out⟩
          obtain ⟨t, rfl⟩ : ∃ x : Nat, t = (x : Int) := ⟨t.toNat, by omega⟩
          have htn : t < m := by omega
          have htc : t < ch1.length := by rw [HM.out]; exact htn
          obtain ⟨j, hj⟩ : ∃ x, ch1[t] = x := ⟨_, rfl⟩
          obtain ⟨hjl, hcu1, hcu2, hcu3⟩ := HCUT.out t j htc hj
          have hjn : j < n := by rw [← HN.out]; exact hjl
          obtain ⟨wk, rfl⟩ : ∃ u : World, u = wr := ⟨_, rfl⟩
          have HCB2 := Lib.hid (HCB.out.up HB.out)
          have HRB2 := Lib.hid (HRB.out.up HB.out)
          obtain ⟨b1, o1, rfl, _, hcell1⟩ := HCB2.out (by rw [iCells_len, nats_len, HM.out]; omega)
          have y1 := i_cellN hcell1 t htc
          rw [hj] at y1
          obtain ⟨bl, ol, rfl, _, hcl⟩ := HRB2.out (by rw [hsC_len]; omega)
          have f3 := (h_cells hcl j hjl).2.2.2
          have hb5 : Below wk.heap.size wk (wk.alloc (.cells #[] 34)) := (Below.refl _ _).alloc (Nat.le_refl _) _
          have HO5 : Hid (OwnK (wk.alloc (.cells #[] 34)) wk.heap.size 34 4 (.slice (some ⟨wk.heap.size, 0, none⟩) 0 0) 0 []) := Lib.hid (OwnK.new wk wk.heap.size 34 4 0 [] (Nat.le_refl _) rfl (by omega))
          have HB5 := Lib.hid hb5
          have HBK := Lib.hid HBW.out
          have HCU1 := Lib.hid hcu1
          have HCU2 := Lib.hid hcu2
          unfold HdS.same at HCU1 HCU2
          obtain ⟨qj, hqj⟩ : ∃ x, (l[j]'hjl).q = x := ⟨_, rfl⟩
          rw [hqj] at f3 HCU1 HCU2
          have HY1 : Hid (∀ u, Below wk.heap.size wk u → u.cell? ⟨b1, o1 + t, none⟩ = some (.int .i64 (j : Int))) := Lib.hid (fun u hu => (hu.cell (p := ⟨b1, o1 + t, none⟩) (World.block_lt_of_cell? wk _ y1)).trans y1)
          have HYQ : Hid (∀ u, Below wk.heap.size wk u → u.cell? ⟨bl, ol + j * 4 + 3, none⟩ = some (.int .u32 qj)) := Lib.hid (fun u hu => (hu.cell (p := ⟨bl, ol + j * 4 + 3, none⟩) (World.block_lt_of_cell? wk _ f3)).trans f3)
          have HRB := Lib.hid HRB2.out
          clear hcu3 htc hj hcu1 hcu2 hcell1 hcl y1 f3 hqj hjl hb5 HCB2 HRB2 HCB HBB HR14 HKB HLK HB HG hkm hk HBW ht0 htm
          obtain ⟨wb, rfl⟩ : ∃ u : World, u = wk := ⟨_, rfl⟩
          have htm2 : ¬ (m ≤ t) := by omega
          go_wp2_with fail
          go_loopg [19, 20, 125] n (fun g u v y wr => ∃ (i e sm : Nat), i ≤ n ∧ g = n - i ∧ v = .int .i64 (sm : Int) ∧ y = .int .i64 (i : Int) ∧ ((l.take i).eraseIdx j).length = e ∧ e ≤ i ∧ sm ≤ i ∧ ((l.take i).eraseIdx j).countP (HdS.hit s qj) = sm ∧ OwnK wr wb.heap.size 34 4 u e (hsC ((l.take i).eraseIdx j)) ∧ Below wb.heap.size wb wr)
          case atStart => exact ⟨0, 0, 0, by omega, by omega, rfl, rfl, rfl, by omega, by omega, rfl, HO5.out, HB5.out⟩
          case round =>
            clear HO5 HB5
            obtain ⟨i, e, sm, hi, hg, rfl, rfl, hel, hei, hsm, hct, ho, hb⟩ := hrel
            have HG := Lib.hid hg
            have HEL := Lib.hid hel
            have HSM := Lib.hid hct
            have HO := Lib.hid ho
            have HB := Lib.hid hb
            clear hg hel hct ho hb
            by_cases hlt : i < n
            · have hil : i < l.length := by rw [HN.out]; exact hlt
              obtain ⟨bl', ol', e9, _, hcl⟩ := (HRB.out.up HB.out) (by rw [hsC_len, HN.out]; omega)
              have e9 := Option.some.inj e9
              injection e9 with e91 e92
              subst e91 e92
              obtain ⟨c0, c1, c2, c3⟩ := h_cells hcl i hil
              obtain ⟨k0, hk0⟩ : ∃ x, (l[i]'hil).k = x := ⟨_, rfl⟩
              obtain ⟨s0, hs0⟩ : ∃ x, (l[i]'hil).s = x := ⟨_, rfl⟩
              obtain ⟨i0, hi0⟩ : ∃ x, (l[i]'hil).i = x := ⟨_, rfl⟩
              obtain ⟨p0, hp0⟩ : ∃ x, (l[i]'hil).q = x := ⟨_, rfl⟩
              have he : l[i]'hil = ⟨k0, s0, i0, p0⟩ := by rw [← hk0, ← hs0, ← hi0, ← hp0]
              rw [hk0] at c0
              rw [hs0] at c1
              rw [hi0] at c2
              rw [hp0] at c3
              obtain ⟨w6, hw6⟩ : ∃ w6, wr.alloc (.cells #[.int .u8 k0, .int .u32 s0, .int .u32 i0, .int .u32 p0] 34) = w6 := ⟨_, rfl⟩
              have hb6 : Below wr.heap.size wr w6 := by rw [← hw6]; exact (Below.refl _ _).alloc (Nat.le_refl _) _
              have hx6 : Blk w6 wr.heap.size 34 [.int .u8 k0, .int .u32 s0, .int .u32 i0, .int .u32 p0] := by rw [← hw6]; exact heap_alloc_new wr _
              have HX6 := Lib.hid hx6
              have z0 := hx6.cell 0 (by simp)
              have z1 := hx6.cell 1 (by simp)
              have z2 := hx6.cell 2 (by simp)
              have z3 := hx6.cell 3 (by simp)
              simp only [List.getElem_cons_zero, List.getElem_cons_succ] at z0 z1 z2 z3
              have HB6 := Lib.hid (below_all HB.out hb6)
              have HO6 := Lib.hid (HO.out.up hb6)
              obtain ⟨a, ha⟩ : ∃ a, wr.heap.size = a := ⟨_, rfl⟩
              have HNE : Hid (∀ b, Value.ownBlock u19 = some b → b ≠ a) := Lib.hid (fun b hb e => by have := HO.out.ltV b hb; omega)
              rw [ha] at z0 z1 z2 z3 HX6
              obtain ⟨w7, hw7⟩ : ∃ w7, w6.alloc (.cells #[.int .u8 k0, .int .u32 s0, .int .u32 i0, .int .u32 p0] 34) = w7 := ⟨_, rfl⟩
              have hb7 : Below w6.heap.size w6 w7 := by rw [← hw7]; exact (Below.refl _ _).alloc (Nat.le_refl _) _
              have HO7 := Lib.hid (HO6.out.up hb7)
              have HB7 := Lib.hid (below_all HB6.out hb7)
              have HX7 := Lib.hid (HX6.out.up hb7 (lt_of_block HX6.out))
              have HR7 : Hid (RdV w7 w7.heap.size (some ⟨w6.heap.size, 0, none⟩) [.int .u8 k0, .int .u32 s0, .int .u32 i0, .int .u32 p0]) := Lib.hid (fun _ => ⟨w6.heap.size, 0, rfl, by rw [← hw7]; simp, fun j hj => by rw [Nat.zero_add, ← hw7]; exact Blk.cell (T := 34) (heap_alloc_new w6 _) j hj⟩)
              clear hcl hk0 hs0 hi0 hp0 hb6 hb7 hx6 HO
              have HES := Lib.hid (er_step (j := j) hil)
              rw [he] at HES
              obtain ⟨lst, hlst⟩ : ∃ x, (l.take i).eraseIdx j = x := ⟨_, rfl⟩
              rw [hlst] at HES HEL HO6 HO7 HSM
              have y1 := HY1.out _ HB6.out
              clear he hlst hil
              by_cases hij : i = j
              · have qij : ((i : Int) != (j : Int)) = false := by simp; omega
                have HF2 : Hid ((l.take (i + 1)).eraseIdx j = lst) := Lib.hid (by rw [HES.out, if_pos hij])
                clear hij HES
                go_wp2_with fail
                go_roundg (n - (i + 1))
                case rel => exact ⟨i + 1, e, sm, by omega, rfl, rfl, by go_num, by rw [HF2.out]; exact HEL.out, by omega, by omega, by rw [HF2.out]; exact HSM.out, by rw [HF2.out]; exact HO6.out, HB6.out⟩
                case measure => have := HG.out; omega
              · have qij : ((i : Int) != (j : Int)) = true := by simp; omega
                have HF2 : Hid ((l.take (i + 1)).eraseIdx j = lst ++ [⟨k0, s0, i0, p0⟩]) := Lib.hid (by rw [HES.out, if_neg hij])
                clear hij HES
                go_wp2_with (first
                  | (at_builtin; go_loud (refine appP _ rfl (.tmp 136) (.tmp 138) 23 34 (.agg #[.int .u8 0, .int .u32 0, .int .u32 0, .int .u32 0]) 4 16 rfl Try.underlying23 cnInfo rfl (by decide) (by decide) wb.heap.size e 1 1 u19 (hsC lst) [.int .u8 k0, .int .u32 s0, .int .u32 i0, .int .u32 p0] (some ⟨w6.heap.size, 0, none⟩) rfl HO7.out rfl rfl HR7.out (fun e => by cases e) (fun u hu => by simp only [List.mem_cons, List.not_mem_nil, or_false] at hu; rcases hu with rfl | rfl | rfl | rfl <;> rfl) (by omega) HB7.out.size ?_; intro v8 w8 ho hg; have HO8 : Hid (OwnK w8 wb.heap.size 34 4 v8 (e + 1) (hsC (lst ++ [⟨k0, s0, i0, p0⟩]))) := Lib.hid (by rw [hsC_app]; exact ho); have HB8 := Lib.hid (below_grown HB7.out hg (fun e he => HO7.out.own e he)); have HX8 := Lib.hid (HX7.out.off hg HNE.out); clear ho hg z0 z1 z2 z3 c0 c1 c2 c3 y1))
                  | fail)
                have x0 := HX8.out.cell 0 (by simp)
                have x1 := HX8.out.cell 1 (by simp)
                have x3 := HX8.out.cell 3 (by simp)
                simp only [List.getElem_cons_zero, List.getElem_cons_succ] at x0 x1 x3
                have y2 := HY1.out _ HB8.out
                have f3 := HYQ.out _ HB8.out
                by_cases h1 : s0 = s
                · have q1 : (s0 == s) = true := by simpa using h1
                  by_cases h4 : p0 = qj
                  · have q4 : (p0 == qj) = true := by simpa using h4
                    by_cases h2 : k0 = 1
                    · have q2 : (k0 == 1) = true := by simpa using h2
                      have HHT : Hid (HdS.hit s qj ⟨k0, s0, i0, p0⟩ = true) := Lib.hid (HdS.hit_iff.2 ⟨⟨h1, .inl h2⟩, h4⟩)
                      clear h1 h2 h4
                      go_quiet (fail)
                      have HB9 := Lib.hid (HB8.out.trans (below_dn (B := wb.heap.size) w8 nq))
                      have HO9 := Lib.hid (HO8.out.up (below_dn (B := w8.heap.size) w8 nq))
                      obtain ⟨w9, hw9⟩ : ∃ u, w8.drewN nq = u := ⟨_, rfl⟩
                      rw [hw9] at HB9 HO9 ⊢
                      clear x0 x1 x3 y2 f3 hw9
                      go_wp2_with fail
                      go_roundg (n - (i + 1))
                      case rel => exact ⟨i + 1, e + 1, sm + 1, by omega, rfl, by go_num, by go_num, by rw [HF2.out, List.length_append, HEL.out]; rfl, by omega, by omega, by rw [HF2.out, cnt_snoc, HSM.out, HHT.out]; rfl, by rw [HF2.out]; exact HO9.out, HB9.out⟩
                      case measure => have := HG.out; omega
                    · have q2 : (k0 == 1) = false := by simpa using h2
                      by_cases h3 : k0 = 2
                      · have q3 : (k0 == 2) = true := by simpa using h3
                        have HHT : Hid (HdS.hit s qj ⟨k0, s0, i0, p0⟩ = true) := Lib.hid (HdS.hit_iff.2 ⟨⟨h1, .inr h3⟩, h4⟩)
                        clear h1 h2 h3 h4
                        go_quiet (fail)
                        have HB9 := Lib.hid (HB8.out.trans (below_dn (B := wb.heap.size) w8 nq))
                        have HO9 := Lib.hid (HO8.out.up (below_dn (B := w8.heap.size) w8 nq))
                        obtain ⟨w9, hw9⟩ : ∃ u, w8.drewN nq = u := ⟨_, rfl⟩
                        rw [hw9] at HB9 HO9 ⊢
                        clear x0 x1 x3 y2 f3 hw9
                        go_wp2_with fail
                        go_roundg (n - (i + 1))
                        case rel => exact ⟨i + 1, e + 1, sm + 1, by omega, rfl, by go_num, by go_num, by rw [HF2.out, List.length_append, HEL.out]; rfl, by omega, by omega, by rw [HF2.out, cnt_snoc, HSM.out, HHT.out]; rfl, by rw [HF2.out]; exact HO9.out, HB9.out⟩
                        case measure => have := HG.out; omega
                      · have q3 : (k0 == 2) = false := by simpa using h3
                        have HHT : Hid (HdS.hit s qj ⟨k0, s0, i0, p0⟩ = false) := Lib.hid (hit_no1 h2 h3)
                        clear h1 h2 h3 h4
                        go_quiet (fail)
                        have HB9 := Lib.hid (HB8.out.trans (below_dn (B := wb.heap.size) w8 nq))
                        have HO9 := Lib.hid (HO8.out.up (below_dn (B := w8.heap.size) w8 nq))
                        obtain ⟨w9, hw9⟩ : ∃ u, w8.drewN nq = u := ⟨_, rfl⟩
                        rw [hw9] at HB9 HO9 ⊢
                        clear x0 x1 x3 y2 f3 hw9
                        go_wp2_with fail
                        go_roundg (n - (i + 1))
                        case rel => exact ⟨i + 1, e + 1, sm, by omega, rfl, rfl, by go_num, by rw [HF2.out, List.length_append, HEL.out]; rfl, by omega, by omega, by rw [HF2.out, cnt_snoc, HSM.out, HHT.out]; rfl, by rw [HF2.out]; exact HO9.out, HB9.out⟩
                        case measure => have := HG.out; omega
                  · have q4 : (p0 == qj) = false := by simpa using h4
                    have HHT : Hid (HdS.hit s qj ⟨k0, s0, i0, p0⟩ = false) := Lib.hid (hit_no3 h4)
                    clear h1 h4
                    go_quiet (fail)
                    have HB9 := Lib.hid (HB8.out.trans (below_dn (B := wb.heap.size) w8 nq))
                    have HO9 := Lib.hid (HO8.out.up (below_dn (B := w8.heap.size) w8 nq))
                    obtain ⟨w9, hw9⟩ : ∃ u, w8.drewN nq = u := ⟨_, rfl⟩
                    rw [hw9] at HB9 HO9 ⊢
                    clear x0 x1 x3 y2 f3 hw9
                    go_wp2_with fail
                    go_roundg (n - (i + 1))
                    case rel => exact ⟨i + 1, e + 1, sm, by omega, rfl, rfl, by go_num, by rw [HF2.out, List.length_append, HEL.out]; rfl, by omega, by omega, by rw [HF2.out, cnt_snoc, HSM.out, HHT.out]; rfl, by rw [HF2.out]; exact HO9.out, HB9.out⟩
                    case measure => have := HG.out; omega
                · have q1 : (s0 == s) = false := by simpa using h1
                  have HHT : Hid (HdS.hit s qj ⟨k0, s0, i0, p0⟩ = false) := Lib.hid (hit_no2 h1)
                  clear h1
                  go_quiet (fail)
                  have HB9 := Lib.hid (HB8.out.trans (below_dn (B := wb.heap.size) w8 nq))
                  have HO9 := Lib.hid (HO8.out.up (below_dn (B := w8.heap.size) w8 nq))
                  obtain ⟨w9, hw9⟩ : ∃ u, w8.drewN nq = u := ⟨_, rfl⟩
                  rw [hw9] at HB9 HO9 ⊢
                  clear x0 x1 x3 y2 f3 hw9
                  go_wp2_with fail
                  go_roundg (n - (i + 1))
                  case rel => exact ⟨i + 1, e + 1, sm, by omega, rfl, rfl, by go_num, by rw [HF2.out, List.length_append, HEL.out]; rfl, by omega, by omega, by rw [HF2.out, cnt_snoc, HSM.out, HHT.out]; rfl, by rw [HF2.out]; exact HO9.out, HB9.out⟩
                  case measure => have := HG.out; omega
            · obtain rfl : i = n := by omega
              have hto : l.take i = l := List.take_of_length_le (by rw [HN.out]; exact Nat.le_refl _)
              rw [hto] at HEL HO HSM
              have hSL : SeqOk (l.eraseIdx j) := fun h hm => HSO.out h (List.mem_of_mem_eraseIdx hm)
              obtain ⟨A19, c19, rfl, hn19, _, hz19⟩ := HO.out.form
              have HN19 := Lib.hid hn19
              have HZ19 := Lib.hid hz19
              have HR19 := Lib.hid HO.out.rd
              have HC4 := Lib.hid (O.of s q (l.eraseIdx j) HEL.out HR19.out HN19.out HZ19.out (by omega) hSL q0 q1)
              rw [HSM.out] at HCU1 HCU2
              have HBF := Lib.hid (below_all HBK.out HB.out)
              clear hto hSL hn19 hz19 HO HSM HG hlt hi HN19 HZ19 HR19 HEL HB HY1 HYQ HRB
              go_wp2_with fail
              refine HC4.out.mono ?_
              rintro r w20 ⟨A20, k20, rfl, _, _, _, hb⟩
              have HB20 := Lib.hid (below_all HBF.out hb)
              obtain ⟨m4, hm4⟩ : ∃ x, (HdS.chL s q (l.eraseIdx j)).length = x := ⟨_, rfl⟩
              rw [hm4] at HCU1 HCU2 ⊢
              rw [HM.out] at HCU1
              clear hb HC4 hm4 HBF
              by_cases hs0 : 0 < sm
              · have e4 := HCU1.out hs0
                subst e4
                have ds : decide ((0 : Int) < (sm : Int)) = true := by simp; omega
                have qmm : ((m4 : Int) == (m4 : Int)) = true := by simp
                clear HCU1 HCU2
                go_wp2_with fail
                go_ret
                exact ⟨rfl, HB20.out⟩
              · have e4 := HCU2.out (by omega)
                obtain rfl : sm = 0 := by omega
                subst e4
                have qmm : ((m4 : Int) == (m4 : Int)) = true := by simp
                clear HCU1 HCU2 hs0
                go_wp2_with fail
                go_ret
                exact ⟨rfl, HB20.out⟩
end Go.Proofs.Ytckkgjggoopjiaa

/-
  The document's Bytes.
-/
import Derived.Test.YtnkkifnglkajfaaDoorHeadF
namespace Go.Proofs.YtnkkifnglkajfaaDoor
open Go.RowKit

/-- append of bytes onto a row of the call's own: the lengths as numbers. -/
theorem app8 (w : World) {ops : Array Oper} {rest : List Oper} {o : Oper} {a : Act} {Q : Exit → Act → World → Prop} (hgd : o.guard = none) (s x : Operand) (ho : o.op = .call { callee := .builtin .append, args := #[s, x], argTypes := #[25, 25] })
    (base B g cap n m c : Nat) (ys xs : List Int) (A : Option Addr) (hs : a.eval s = .slice (some ⟨g, 0, none⟩) n cap) (hown : Own8 w base g cap ys) (hn : ys.length = n) (hx : a.eval x = .slice A m c) (hr : Rd w B A xs) (hm : xs.length = m) (hnil : A = none → c = 0)
    (hlen : n + m ≤ 1000000) (hpos : 0 < n + m) (hbase : base ≤ w.heap.size)
    (h : ∀ g' cap' w', Own8 w' base g' cap' (ys ++ xs) → w.grownBy w' (some g) → wpList Tryd.prog ops Q rest (a.put o.dst (.slice (some ⟨g', 0, none⟩) (n + m) cap')) w') : wpList Tryd.prog ops Q (o :: rest) a w := by
  subst hn hm
  refine append_rd w hgd s x ho base B _ ys hs hown A xs c hx hr hnil hlen hbase ?_
  intro v' w' zs hz hown' hg
  obtain rfl := hz.out
  obtain ⟨g', cap', rfl, ho'⟩ := Own8.of hown' (by simp; omega)
  have e : (ys ++ xs).length = ys.length + xs.length := List.length_append
  rw [e]
  exact h g' cap' w' ho' hg
theorem Own8.one (w : World) (base : Nat) (k : Int) (hb : base ≤ w.heap.size) : Own8 (w.alloc (.cells #[.int .u8 k] 5)) base w.heap.size 1 [k] :=
  Blk8.own (xs := [k]) (show Blk8 _ _ _ from heap_alloc_new w _) hb (by simp)
theorem Own8.none (w : World) (base : Nat) (hb : base ≤ w.heap.size) : Own8 (w.alloc (.cells #[] 5)) base w.heap.size 0 [] := own_empty w base hb
theorem Own8.up {w w' : World} {base g cap : Nat} {xs : List Int} (h : Own8 w base g cap xs) (hb : Below w.heap.size w w') (_hp : 0 < xs.length) : Own8 w' base g cap xs :=
  ⟨h.1, h.2.imp id fun ⟨g', c', cur, hv, hg, hc, r⟩ => ⟨g', c', cur, hv, hg, (hb.block g' (lt_of_block hc)).trans hc, r⟩⟩

theorem rbytes_no (k s i q : Int) (A : Option Addr) (n c : Nat) (w : World) (e : Int) (h : (rightK k = false ∧ e = 1) ∨ (rightK k = true ∧ n ≠ 16 ∧ e = 3)) :
    Calls Tryd.prog 8 #[.agg #[.int .u8 k, .int .u32 s, .int .u32 i, .int .u32 q], .slice A n c] w fun r w' => r = .returned (.tuple #[.slice none 0 0, .int .i64 e]) ∧ Below w.heap.size w w' := by
  have HB0 := Lib.hid ((Below.refl w.heap.size w).alloc (Nat.le_refl _) (.cells #[.int .u8 k, .int .u32 s, .int .u32 i, .int .u32 q] 34))
  rcases h with ⟨hk, rfl⟩ | ⟨hk, hn, rfl⟩
  · go_enter Tryd.func8, Tryd.ntmps8
    go_wp2_with fail
    refine (rright_is k s i q _).mono ?_
    rintro r w1 ⟨rfl, hb⟩
    have HB1 := Lib.hid (HB0.out.trans (hb.mono HB0.out.size))
    clear hb
    rw [hk]
    go_wp2_with fail
    go_ret2
    exact ⟨rfl, HB1.out⟩
  · have q1 : ((n : Int) == 16) = false := by simp; omega
    go_enter Tryd.func8, Tryd.ntmps8
    go_wp2_with fail
    refine (rright_is k s i q _).mono ?_
    rintro r w1 ⟨rfl, hb⟩
    have HB1 := Lib.hid (HB0.out.trans (hb.mono HB0.out.size))
    clear hb
    rw [hk]
    go_wp2_with fail
    go_ret2
    exact ⟨rfl, HB1.out⟩

theorem rof_at {A : Option Addr} {xs : List Int} {n c : Nat} {m : Int} {w : World} (hx : Byt xs) (hr : Rd w w.heap.size A xs) (hl : xs.length = n) (hn : n ≤ 20000) (hm : sumN xs = m) : Calls Tryd.prog 19 #[.slice A n c] w (NumIs m w) := by
  subst hl hm
  exact rof_is A xs c w hx hr hn
def RBytesOk (k s i q : Int) (blk : List Int) (w : World) (r : Ending) (w' : World) : Prop :=
  ∃ g cap, r = .returned (.tuple #[.slice (some ⟨g, 0, none⟩) 33 cap, .int .i64 0]) ∧ Own8 w' w.heap.size g cap (pageB k s i q blk) ∧ Below w.heap.size w w'
set_option maxHeartbeats 4000000 in
set_option maxRecDepth 100000 in
theorem rbytes_ok (k s i q : Int) (b o : Nat) (blk : List Int) (c : Nat) (w : World) (hr : Rd w w.heap.size (some ⟨b, o, none⟩) blk) (hbb : Byt blk) (hl : blk.length = 16) (_hc : 16 ≤ c) (hk : rightK k = true) (s0 : 0 ≤ s ∧ s ≤ 4294967295) (i0 : 0 ≤ i ∧ i ≤ 4294967295) (q0 : 0 ≤ q ∧ q ≤ 4294967295) :
    Calls Tryd.prog 8 #[.agg #[.int .u8 k, .int .u32 s, .int .u32 i, .int .u32 q], .slice (some ⟨b, o, none⟩) 16 c] w (RBytesOk k s i q blk w) := by
  have HR := Lib.hid hr
  have HBB := Lib.hid hbb
  have HL := Lib.hid hl
  have HB0 := Lib.hid ((Below.refl w.heap.size w).alloc (Nat.le_refl _) (.cells #[.int .u8 k, .int .u32 s, .int .u32 i, .int .u32 q] 34))
  have HH0 : Hid (Blk (w.alloc (.cells #[.int .u8 k, .int .u32 s, .int .u32 i, .int .u32 q] 34)) w.heap.size 34 [.int .u8 k, .int .u32 s, .int .u32 i, .int .u32 q]) := Lib.hid (heap_alloc_new w _)
  clear hr hbb hl
  go_enter Tryd.func8, Tryd.ntmps8
  go_wp2_with fail
  refine (rright_is k s i q _).mono ?_
  rintro r w1 ⟨rfl, hb⟩
  have HB1 := Lib.hid (HB0.out.trans (hb.mono HB0.out.size))
  have HH1 := Lib.hid (HH0.out.up hb (lt_of_block HH0.out))
  clear hb HB0 HH0
  rw [hk]
  have hwg := lt_of_block HH1.out
  have l0 := HH1.out.cell 0 (by simp)
  have HB2 := Lib.hid (HB1.out.alloc HB1.out.size (.cells #[.int .u8 k] 5))
  have HO2 := Lib.hid (Own8.one w1 (w.heap.size + 1) k hwg)
  have HH2 := Lib.hid (HH1.out.up (Below.alloc (Below.refl w1.heap.size w1) (Nat.le_refl _) (.cells #[.int .u8 k] 5)) hwg)
  have l1 := HH2.out.cell 1 (by simp)
  clear HB1 HH1
  go_wp2_with fail
  obtain ⟨w2, hw2⟩ : ∃ w2 : World, w2 = w1.alloc (.cells #[.int .u8 k] 5) := ⟨_, rfl⟩
  rw [← hw2] at HB2 HO2 HH2 l1 ⊢
  clear hw2 l0
  refine (four_is s _ s0.1 s0.2).mono ?_
  rintro r w' ⟨rfl, rfl⟩
  have HB2f := Lib.hid (HB2.out.alloc HB2.out.size (fourObj s))
  have HO2f := Lib.hid (HO2.out.up (Below.alloc (Below.refl (w2).heap.size (w2)) (Nat.le_refl _) (fourObj s)) (by simp))
  have HH2f := Lib.hid (HH2.out.up (Below.alloc (Below.refl (w2).heap.size (w2)) (Nat.le_refl _) (fourObj s)) (lt_of_block HH2.out))
  go_wp2_with (first
    | (at_builtin; refine app8 _ rfl (.tmp 17) (.tmp 20) rfl (w.heap.size + 1) ((w2).heap.size + 1) w1.heap.size 1 1 4 4 ([k]) (four s) (some ⟨(w2).heap.size, 0, none⟩) rfl HO2f.out rfl rfl (rd_four s (w2)) rfl (fun h => by cases h) (by omega) (by omega) (Nat.le_trans (lt_of_block HH2.out) (by simp)) ?_; intro g3 cap3 w3 ho hg; have HO3 := Lib.hid ho; have HB3 := Lib.hid (HB2f.out.grown hg HB2f.out.size (fun j hj => by injection hj; have := (HO2f.out.base (by simp)).1; omega)); have HH3 := Lib.hid (HH2f.out.kept hg (fun e => by injection e; have := (HO2f.out.base (by simp)).1; omega)); clear ho hg HB2f HO2f HH2f HB2 HO2 HH2; have l2 := HH3.out.cell 2 (by simp);)
    | fail)
  refine (four_is i _ i0.1 i0.2).mono ?_
  rintro r w' ⟨rfl, rfl⟩
  have HB3f := Lib.hid (HB3.out.alloc HB3.out.size (fourObj i))
  have HO3f := Lib.hid (HO3.out.up (Below.alloc (Below.refl (w3).heap.size (w3)) (Nat.le_refl _) (fourObj i)) (by simp))
  have HH3f := Lib.hid (HH3.out.up (Below.alloc (Below.refl (w3).heap.size (w3)) (Nat.le_refl _) (fourObj i)) (lt_of_block HH3.out))
  go_wp2_with (first
    | (at_builtin; refine app8 _ rfl (.tmp 22) (.tmp 25) rfl (w.heap.size + 1) ((w3).heap.size + 1) g3 cap3 5 4 4 ([k] ++ four s) (four i) (some ⟨(w3).heap.size, 0, none⟩) rfl HO3f.out rfl rfl (rd_four i (w3)) rfl (fun h => by cases h) (by omega) (by omega) (Nat.le_trans (lt_of_block HH3.out) (by simp)) ?_; intro g4 cap4 w4 ho hg; have HO4 := Lib.hid ho; have HB4 := Lib.hid (HB3f.out.grown hg HB3f.out.size (fun j hj => by injection hj; have := (HO3f.out.base (by simp)).1; omega)); have HH4 := Lib.hid (HH3f.out.kept hg (fun e => by injection e; have := (HO3f.out.base (by simp)).1; omega)); clear ho hg HB3f HO3f HH3f HB3 HO3 HH3; have l3 := HH4.out.cell 3 (by simp);)
    | fail)
  refine (four_is q _ q0.1 q0.2).mono ?_
  rintro r w' ⟨rfl, rfl⟩
  have HB4f := Lib.hid (HB4.out.alloc HB4.out.size (fourObj q))
  have HO4f := Lib.hid (HO4.out.up (Below.alloc (Below.refl (w4).heap.size (w4)) (Nat.le_refl _) (fourObj q)) (by simp))
  have HH4f := Lib.hid (HH4.out.up (Below.alloc (Below.refl (w4).heap.size (w4)) (Nat.le_refl _) (fourObj q)) (lt_of_block HH4.out))
  go_wp2_with (first
    | (at_builtin; refine app8 _ rfl (.tmp 27) (.tmp 30) rfl (w.heap.size + 1) ((w4).heap.size + 1) g4 cap4 9 4 4 ([k] ++ four s ++ four i) (four q) (some ⟨(w4).heap.size, 0, none⟩) rfl HO4f.out rfl rfl (rd_four q (w4)) rfl (fun h => by cases h) (by omega) (by omega) (Nat.le_trans (lt_of_block HH4.out) (by simp)) ?_; intro g5 cap5 w5 ho hg; have HO5 := Lib.hid ho; have HB5 := Lib.hid (HB4f.out.grown hg HB4f.out.size (fun j hj => by injection hj; have := (HO4f.out.base (by simp)).1; omega)); have HH5 := Lib.hid (HH4f.out.kept hg (fun e => by injection e; have := (HO4f.out.base (by simp)).1; omega)); clear ho hg HB4f HO4f HH4f HB4 HO4 HH4;)
    | (at_builtin; refine app8 _ rfl (.tmp 32) (.tmp 33) rfl w5.heap.size w5.heap.size w5.heap.size 0 0 13 cap5 [] ([k] ++ four s ++ four i ++ four q) (some ⟨g5, 0, none⟩) rfl (Own8.none w5 w5.heap.size (Nat.le_refl _)) rfl rfl (Rd.mono (HO5.out.rd) (Nat.le_refl _) |>.below (Below.alloc (Below.refl w5.heap.size w5) (Nat.le_refl _) _)) rfl (fun h => by cases h) (by omega) (by omega) (by simp) ?_; intro g6 cap6 w6 ho hg; have HB6 := Lib.hid ((HB5.out.alloc HB5.out.size (.cells #[] 5)).grown hg (HB5.out.alloc HB5.out.size (.cells #[] 5)).size (fun j hj => by injection hj; have := HB5.out.size; omega)); have hg5 := HO5.out.base (by simp); have HO56 := Lib.hid ((HO5.out.up (Below.alloc (Below.refl w5.heap.size w5) (Nat.le_refl _) (.cells #[] 5)) (by simp)).kept hg (fun e => by injection e; omega)); have HT6 := Lib.hid ho; clear ho hg HB5)
    | (at_builtin; refine app8 _ rfl (.tmp 34) (.tmp 35) rfl w5.heap.size w.heap.size g6 cap6 13 16 c ([] ++ ([k] ++ four s ++ four i ++ four q)) blk (some ⟨b, o, none⟩) rfl HT6.out rfl rfl (HR.out.below HB6.out) HL.out (fun h => by cases h) (by omega) (by omega) (Nat.le_of_lt (Nat.lt_of_le_of_lt (HT6.out.base (by simp)).1 (HT6.out.base (by simp)).2)) ?_; intro g7 cap7 w7 ho hg; have hg6 := HT6.out.base (by simp); have HB7 := Lib.hid (HB6.out.grown hg HB6.out.size (fun j hj => by injection hj; omega)); have HO7 := Lib.hid (HO56.out.kept hg (fun e => by injection e; omega)); have HT7 := Lib.hid ho; clear ho hg HB6 HO5 HO56)
    | fail)
  obtain ⟨n, hn⟩ : ∃ n, sumN (headB k s i q ++ blk) = n := ⟨_, rfl⟩
  have hpage : [k] ++ four s ++ four i ++ four q ++ four n ++ blk = pageB k s i q blk := by
    rw [← hn]
    simp [pageB, headB]
  have hnb := sumN_bd (headB k s i q ++ blk)
  rw [hn] at hnb
  have n0 : 0 ≤ n ∧ n ≤ 4294967295 := by omega
  have HP := Lib.hid hpage
  have HN := Lib.hid hn
  have hkp := right_pos hk
  have HX7 : Hid (Byt ([] ++ ([k] ++ four s ++ four i ++ four q) ++ blk)) := Lib.hid (show Byt (headB k s i q ++ blk) from (byt_head s i q (by omega) (by omega)).app HBB.out)
  clear hn hpage hnb
  refine (rof_at (n := 29) (c := cap7) HX7.out HT7.out.rd (by simp [HL.out, four_len]) (by omega) (show sumN ([] ++ ([k] ++ four s ++ four i ++ four q) ++ blk) = n from HN.out)).mono ?_
  rintro r w' ⟨rfl, rfl⟩
  have HB8 := Lib.hid HB7.out
  have HO8 := Lib.hid HO7.out
  clear HB7 HO7 HT7 HX7 HT6
  go_wp2_with fail
  refine (four_is n _ n0.1 n0.2).mono ?_
  rintro r w' ⟨rfl, rfl⟩
  have HB8f := Lib.hid (HB8.out.alloc HB8.out.size (fourObj n))
  have HO8f := Lib.hid (HO8.out.up (Below.alloc (Below.refl w7.heap.size w7) (Nat.le_refl _) (fourObj n)) (by simp))
  have hwb8 := (HO8.out.base (by simp)).2
  have hwb9 := (HO8.out.base (by simp)).1
  go_wp2_with (first
    | (at_builtin; refine app8 _ rfl (.tmp 38) (.tmp 40) rfl (w.heap.size + 1) (w7.heap.size + 1) g5 cap5 13 4 4 ([k] ++ four s ++ four i ++ four q) (four n) (some ⟨w7.heap.size, 0, none⟩) rfl HO8f.out rfl rfl (rd_four n w7) rfl (fun h => by cases h) (by omega) (by omega) (by simp; omega) ?_; intro g9 cap9 w9 ho hg; have HO9 := Lib.hid ho; have HB9 := Lib.hid (HB8f.out.grown hg HB8f.out.size (fun j hj => by injection hj; omega)); clear ho hg HB8f HO8f HB8 HO8)
    | (at_builtin; refine app8 _ rfl (.tmp 42) (.tmp 43) rfl (w.heap.size + 1) w.heap.size g9 cap9 17 16 c (([k] ++ four s ++ four i ++ four q) ++ four n) blk (some ⟨b, o, none⟩) rfl HO9.out rfl rfl (HR.out.below HB9.out) HL.out (fun h => by cases h) (by omega) (by omega) (by have := HO9.out.base (by simp); omega) ?_; intro g10 cap10 w10 ho hg; have hg9 := HO9.out.base (by simp); have HO10 := Lib.hid ho; have HB10 := Lib.hid (HB9.out.grown hg HB9.out.size (fun j hj => by injection hj; omega)); clear ho hg)
    | fail)
  go_ret2
  refine ⟨g10, cap10, rfl, ?_, HB10.out⟩
  have := HO10.out.le (show w.heap.size ≤ w.heap.size + 1 by omega)
  rwa [HP.out] at this
end Go.Proofs.YtnkkifnglkajfaaDoor

/-
  A ranking's rows as lists: slots (a range over a function), list, Trial, Kept.
-/
import Derived.Test.YtpocpeiiacgoaaaLrB
import Derived.Test.YtpocpeiiacgoaaaRng
import Derived.Deep.Cut
import Derived.OwnWalkIn
import Derived.TacticsInMore
import Derived.RangeFuncBox
import Derived.Shelf.Abstract
import Derived.Maps.AppendAt
namespace Go.Proofs.Ytpocpeiiacgoaaa
open Go.RowKit
attribute [local go_sem] Oper.semAt_some

/-- Numbers of slots as numbers. -/
def nats (l : List Nat) : List Int := l.map (fun (x : Nat) => (x : Int))
theorem nats_len (l : List Nat) : (nats l).length = l.length := by simp [nats]
/-- What lay ahead of block NB lies as it lay, but block L. -/
structure KeepR (NB L : Nat) (A B : World) : Prop where
  size : A.heap.size ≤ B.heap.size
  block : ∀ k, k < NB → k ≠ L → B.heap[k]? = A.heap[k]?
theorem KeepR.refl {NB L : Nat} (A : World) : KeepR NB L A A := ⟨Nat.le_refl _, fun _ _ _ => rfl⟩
theorem KeepR.trans {NB L : Nat} {A B C : World} (h : KeepR NB L A B) (k : KeepR NB L B C) : KeepR NB L A C := ⟨Nat.le_trans h.size k.size, fun i hi hn => (k.block i hi hn).trans (h.block i hi hn)⟩
theorem KeepR.putObj {NB L : Nat} {W : World} {l : Nat} (o' : Obj) (hl : NB ≤ l) : KeepR NB L W (W.putObj l o') :=
  ⟨by simp, fun _ hk _ => World.putObj_heap_other (by omega)⟩
theorem KeepR.blk {NB L g : Nat} {T : TypeId} {cs : List Value} {A B : World} (h : KeepR NB L A B) (hb : Blk A g T cs) (h1 : g < NB) (h2 : g ≠ L) : Blk B g T cs := (h.block g h1 h2).trans hb

set_option maxHeartbeats 2000000 in
set_option maxRecDepth 100000 in
theorem slotsA_in {l : List Nat} {cs : List Value} {kb o PB NB L : Nat} (hk1 : kb < NB) (hk2 : kb ≠ L) (hp1 : PB < NB) (hp2 : PB ≠ L) (hM : RowM cs o l) (ly : Nat) (J : List Nat → World → Prop) (W : World)
    (hY : ∀ pre x W1, J pre W1 → pre.length < l.length → YieldAt Fence.wide 1 Try.prog ly #[.int .i64 ((x : Nat) : Int)] W1 fun e W' => e = .returned (.bool true) ∧ J (pre ++ [x]) W' ∧ KeepR NB L W1 W')
    (h0 : J [] W) (hbox : Boxed W PB 51 (.pointer (some ⟨kb, o, none⟩))) (hB : Blk W kb 49 cs) :
    Calls Try.prog 23 #[.func (.yield ly) #[] #[], .pointer (some ⟨PB, 0, none⟩)] W fun e W' => (∃ v, e = .returned v) ∧ ∃ xs, xs = l ∧ J xs W' := by
  obtain ⟨A, hC, hW⟩ := hM
  have HBE : Hid (∀ (u : World) (j : Nat), Blk u kb 49 cs → j < l.length → u.cell? ⟨kb, o + nx l j * 3 + 1, none⟩ = some (.int .i64 (nx l (j + 1) : Int))) := Lib.hid (fun u j hu hj => by
    have e := hW.beS j hj
    rw [← nx_lt hj] at e
    have := hu.at (hC.1 (nx l j) (nx_le hW.lt j)).2.1
    rwa [e.1] at this)
  have cb := hbox.cell
  have c0 := hB.at (hC.1 0 (by omega)).2.1
  rw [hW.be0.1, Nat.zero_mul, Nat.add_zero] at c0
  have HLT := Lib.hid hW.lt
  have HY := Lib.hid hY
  have H0 := Lib.hid h0
  have HBX := Lib.hid hbox
  have HB := Lib.hid hB
  have HK := Lib.hid (And.intro hk1 (And.intro hk2 (And.intro hp1 hp2)))
  clear hY h0 hbox hC hW hk1 hk2 hp1 hp2 hB
  obtain ⟨len, hlen⟩ : ∃ len, l.length = len := ⟨_, rfl⟩
  have HLN := Lib.hid hlen
  clear hlen
  go_enter Try.func23, Try.ntmps23
  go_wp2_with fail
  go_loopg [3] len (fun q x wr => ∃ j : Nat, j ≤ len ∧ q = len - j ∧ x = .int .i64 (nx l j : Int) ∧ J (l.take j) wr ∧ KeepR NB L W wr)
  case atStart => exact ⟨0, by omega, by omega, rfl, H0.out, KeepR.refl _⟩
  case round =>
    clear H0 c0 cb
    obtain ⟨j, hj, hq, rfl, hjp, hkr⟩ := hrel
    have HQ := Lib.hid hq
    have HJP := Lib.hid hjp
    have HKR := Lib.hid hkr
    clear hq hjp hkr
    by_cases hlt : j < len
    · have hll : j < l.length := by rw [HLN.out]; exact hlt
      have HN : Hid (nx l j = l[j] + 1) := Lib.hid (nx_lt hll)
      have hx64 := HLT.out _ (List.getElem_mem hll)
      obtain ⟨x, hx⟩ : ∃ x, l[j] = x := ⟨_, rfl⟩
      have HX := Lib.hid hx
      rw [hx] at HN hx64
      have HBJ : Hid (∀ u, Blk u kb 49 cs → u.cell? ⟨kb, o + (x + 1) * 3 + 1, none⟩ = some (.int .i64 (nx l (j + 1) : Int))) := Lib.hid (fun u hu => by
        have := HBE.out u j hu hll
        rwa [HN.out] at this)
      rw [HN.out]
      obtain ⟨t, ht⟩ : ∃ t, x + 1 = t := ⟨_, rfl⟩
      rw [ht] at HBJ
      have htl : t < 65 := by omega
      have ht0 : ((t : Int) != 0) = true := by simp; omega
      have ht1 : (t : Int) - 1 = (x : Int) := by omega
      clear hx ht
      rw [show x + 1 = t by omega]
      go_upto_region 3 with fail
      obtain ⟨fn, tmps, assign, body, hy, hR⟩ := HY.out (l.take j) x wr HJP.out (by simp; omega)
      have HRI := Lib.hid hR
      clear hR
      refine (wpIn_wide (n := 2)).1 ?_
      gi_wp2
      refine HRI.out.mono ?_
      rintro e w4 ⟨rfl, hj4, hk4⟩
      have HJ4 : Hid (J (l.take (j + 1)) w4) := Lib.hid (by
        rw [List.take_succ_eq_append_getElem hll, HX.out]
        exact hj4)
      have HK4 := Lib.hid (HKR.out.trans hk4)
      have cb : w4.cell? ⟨PB, 0, none⟩ = some (.pointer (some ⟨kb, o, none⟩)) := by
        have : Boxed w4 PB 51 (.pointer (some ⟨kb, o, none⟩)) := (HK4.out.block PB HK.out.2.2.1 HK.out.2.2.2).trans HBX.out
        exact this.cell
      have cn := HBJ.out w4 (HK4.out.blk HB.out HK.out.1 HK.out.2.1)
      clear hj4 hk4 HRI hy HJP HKR HBJ HN HX
      gi_wp2
      go_wp2_with fail
      go_roundg (len - (j + 1))
      case rel => exact ⟨j + 1, by omega, rfl, rfl, HJ4.out, HK4.out⟩
      case measure => have := HQ.out; omega
    · obtain rfl : j = len := by omega
      rw [nx_ge (l := l) (by rw [HLN.out]; exact Nat.le_refl _)]
      have HE : Hid (J l wr) := Lib.hid (by
        have := HJP.out
        rwa [← HLN.out, List.take_length] at this)
      clear HJP HKR
      go_wp2_with fail
      go_end0
      exact ⟨⟨_, rfl⟩, l, rfl, HE.out⟩
theorem slots_at (kb o : Nat) (w : World) : Calls Try.prog 22 #[.pointer (some ⟨kb, o, none⟩)] w fun r w' => r = .returned (.func (.func 23) #[] #[.pointer (some ⟨w.heap.size, 0, none⟩)]) ∧ w' = w.alloc (.cells #[.pointer (some ⟨kb, o, none⟩)] 51) := by
  go_enter Try.func22, Try.ntmps22
  go_wp2_with fail
  go_ret
  exact ⟨rfl, rfl⟩
theorem ownsRow_le {w : World} {base base' e size n : Nat} {v : Value} {xs : List Value} (h : w.ownsRow base e size v n xs) (hb : base' ≤ base) : w.ownsRow base' e size v n xs :=
  ⟨h.1, h.2.imp id fun ⟨g', c', cur, hv, hg, r⟩ => ⟨g', c', cur, hv, Nat.le_trans hb hg, r⟩⟩
/-- A list of one's own. -/
def ListIs (l : List Nat) (w : World) (r : Ending) (w' : World) : Prop := ∃ A c, r = .returned (.slice A l.length c) ∧ RowF (fun k => w.heap.size ≤ k) w' (.slice A l.length c) (iCells (nats l)) ∧ Below w.heap.size w w'
theorem row_putR {W w1 : World} {NB L k e : Nat} {v v' : Value} {xs : List Value} {tmp : Obj} (hrow : W.ownsRow NB e 1 v k xs) (hgrow : (W.alloc tmp).grownBy w1 v.ownBlock) (hN : NB ≤ W.heap.size) : KeepR NB L W (w1.setCell ⟨L, 0, none⟩ v') := by
  refine ⟨?_, fun j hj hn => ?_⟩
  · have := hgrow.size
    simp [World.setCell] at this ⊢
    omega
  · refine (Below.heap_setCell w1 ⟨L, 0, none⟩ v' j hn).trans ((hgrow.block j (by rw [World.size_alloc]; omega) ?_).trans (Below.heap_alloc W tmp j (by omega)))
    rcases hrow.2 with ⟨rfl, _⟩ | ⟨g, cap, cur, rfl, hbase, hg, _⟩
    · intro e; cases e
    · intro e
      obtain rfl : j = g := by simpa [Value.ownBlock] using e
      omega
theorem nats_snoc (l : List Nat) (x : Nat) : iCells (nats (l ++ [x])) = iCells (nats l) ++ [.int .i64 (x : Int)] := by simp [iCells, nats]
theorem rowF_own {W : World} {NB B : Nat} {v : Value} {vs : List Value} {n : Nat} (h : W.ownsRow NB 3 1 v n vs) (hB : B ≤ NB) : ∃ A c, v = .slice A n c ∧ RowF (fun k => B ≤ k) W (.slice A n c) vs := by
  have hl : vs.length = n := by simpa using h.1
  rcases h.2 with ⟨rfl, h0⟩ | ⟨g, cap, cur, rfl, hb, hg, hn, _, _, ht⟩
  · subst h0
    obtain rfl := List.eq_nil_of_length_eq_zero hl
    exact ⟨none, 0, rfl, RowF.nil _ _⟩
  · subst hl
    refine ⟨some ⟨g, 0, none⟩, cap, rfl, _, _, rfl, hn, OwnG.rdV (base := NB) (T := 3) h, fun _ => InF.one (by omega), fun e => by cases e⟩
set_option maxHeartbeats 4000000 in
set_option maxRecDepth 100000 in
theorem llist_at {w : World} {kb o : Nat} {cs : List Value} {l : List Nat} (hB : Blk w kb 49 cs) (hM : RowM cs o l) : Calls Try.prog 16 #[.pointer (some ⟨kb, o, none⟩)] w (ListIs l w) := by
  have HB := Lib.hid hB
  have HM := Lib.hid hM
  have hkb := lt_of_block hB
  have hlen : l.length ≤ 64 := by
    obtain ⟨A, _, hW⟩ := hM
    exact hW.len
  clear hB hM
  refine (callsIn_wide (n := 6)).1 ?_
  refine callsIn_of_wp_marks Try.func16 rfl trivial ?_ rfl
  simp only [Try.ntmps16, List.size_toArray, List.length_cons, List.length_nil, Nat.reduceAdd, Nat.reduceSub, Array.replicate_succ, Array.replicate_zero, List.push_toArray, List.append_toArray, List.nil_append, List.cons_append]
  refine wpIn_wide.2 ?_
  go_wp2_with (first
    | (go_at_call 22; refine (slots_at kb o _).mono ?_; rintro r w11 ⟨rfl, rfl⟩)
    | fail)
  obtain ⟨L, hL⟩ : ∃ L, w.heap.size = L := ⟨_, rfl⟩
  obtain ⟨W0, hW0⟩ : ∃ W0 : World, W0 = (w.alloc (.cells #[.slice none 0 0] 32)).alloc (.cells #[.pointer (some ⟨kb, o, none⟩)] 51) := ⟨_, rfl⟩
  have hs0 : W0.heap.size = L + 2 := by rw [hW0]; simp [hL]
  have HBX0 : Hid (Boxed W0 L 32 (.slice none 0 0)) := Lib.hid (by
    rw [hW0, ← hL]
    exact (Boxed.new w 32 (.slice none 0 0)).alloc _)
  have HPB0 : Hid (Boxed W0 (L + 1) 51 (.pointer (some ⟨kb, o, none⟩))) := Lib.hid (by
    have := Boxed.new (w.alloc (.cells #[.slice none 0 0] 32)) 51 (.pointer (some ⟨kb, o, none⟩))
    rw [World.size_alloc, hL] at this
    rw [hW0]
    exact this)
  have HBW0 : Hid (Below w.heap.size w W0) := Lib.hid (by
    rw [hW0]
    exact ((Below.refl w.heap.size w).alloc (Nat.le_refl _) _).alloc (by rw [World.size_alloc]; omega) _)
  rw [← hW0, hL]
  clear hW0
  refine (wpIn_wide (n := 3)).1 ?_
  refine range_seen (α := Nat) (gf := 23) (lb := #[.pointer (some ⟨L + 1, 0, none⟩)]) rfl (by omega) rfl trivial (enters_of Try.func23 (by kernel_rfl) rfl) (encs := fun (x : Nat) => #[Value.int .i64 (x : Int)]) (Kp := KeepR (L + 2) L) (S := fun ys _ => ys = l) (N := l.length) ?seq (fun h k => h.trans k)
    (fun W q o o' hq _ _ => KeepR.putObj o' (by omega)) (fun ys W q o o' _ hs _ _ => hs) (fun _ => rfl)
    (fun ys W => (∃ v, Boxed W L 32 v ∧ W.ownsRow (L + 2) 3 1 v ys.length (iCells (nats ys)) ∧ True) ∧ (Below w.heap.size w W ∧ W0.heap.size ≤ W.heap.size))
    (OwnFrom.and (Own.from (holdsRow_own (L + 2) L 32 3 1 (fun (ys : List Nat) => ys.length) (fun (ys : List Nat) => iCells (nats ys)) (fun _ _ => True)) _) (OwnFrom.and (ownFrom_below (Nat.le_refl _) (by rw [hs0]; omega)) (fun _ _ _ _ hs hg _ => Nat.le_trans hs hg.size)))
    ⟨⟨_, HBX0.out, World.ownsRow_nil _ _ _ _, trivial⟩, HBW0.out, Nat.le_refl _⟩
    (fun x => { tmps := #[.pointer (some ⟨kb, o, none⟩), undef, .slice none 0 0, .pointer (some ⟨L, 0, none⟩), .int .i64 (x : Int), .pointer (some ⟨kb, o, none⟩), .func (Fn.func 23) #[] #[.pointer (some ⟨L + 1, 0, none⟩)], .int .i64 (x : Int), undef, undef, undef, undef, undef], defers := [] }) ?assign ?body ?done
  case seq =>
    intro ly J W hbW hJ hY h0
    refine callsIn_wide.2 ?_
    exact slotsA_in (NB := L + 2) (L := L) (by omega) (by omega) (by omega) (by omega) HM.out ly J W hY h0 ((hbW.block (L + 1) (by omega)).trans HPB0.out) ((HB.out.up HBW0.out hkb).up hbW (by omega))
  case assign =>
    intro ly x W K hK
    gi_wp2
    exact hK
  case body =>
    rintro ly ys x W ⟨⟨v, hv, hrow, _⟩, hB, hWs⟩ hlt
    have hc := hv.cell
    obtain ⟨i0, hi, hz0, hz1, hz2⟩ := info_parts intInfo
    have hyl : ys.length ≤ 64 := by omega
    gi_wp2_with (gi_at_builtin; refine wpListIn_append_own _ rfl _ _ 32 rfl (L + 2) 3 i0 (.int .i64 0) 1 8 Try.underlying32 hi hz0 hz1 hz2 rfl (by decide) _ _ _ rfl (hrow.alloc _) ⟨W.heap.size, 0, none⟩ 1 1 [.int .i64 (x : Int)] rfl rfl (cell_one_new _ _ _) (by simp [Value.oneCell']) (by unfold maxLen; omega) (by omega) (by simp; omega) ?_; intro v' w1' hown' hgrow _; obtain ⟨g', cap', rfl⟩ := ownsRow_succ hown'; obtain ⟨hv1, hv2, hr2, hk2, hb2⟩ := hv.appended (by decide) (ownsRow_le hrow (base' := w.heap.size) (by omega)) (by omega) (by omega) (ownsRow_le hown' (by omega)) hgrow; have hc1 := hv1.cell; have hf1 := hv1.frozen)
    have hr3 := hown'.kept (grownBy_setCell' w1' L (.slice (some ⟨g', 0, none⟩) (ys.length + 1) cap')) (.inr (hv1.not_row (by decide) hown').symm)
    have hsz := hk2.size
    simp [World.setCell] at hsz
    exact ⟨row_putR hrow hgrow (by omega), ⟨_, hv2, by rw [nats_snoc]; exact hr3⟩, (by have := hB.trans hb2; rw [hL] at this; exact this), by omega⟩
  case done =>
    rintro D ys W hD rfl ⟨⟨v, hv, hrow, _⟩, hB, hWs⟩ hK
    have hc := hv.cell
    obtain ⟨A, c, rfl, hF⟩ := rowF_own hrow (B := w.heap.size) (by omega)
    go_wp2_with fail
    refine ⟨by simp, .inl ⟨_, _, rfl, run_takeDeferred hK, ?_⟩⟩
    have hr2 := ownsRow_putObj hrow (.deferred none) hK rfl
    obtain ⟨A', c', e', hF2⟩ := rowF_own hr2 (B := w.heap.size) (by omega)
    injection e' with e1 _ e2
    subst e1 e2
    exact ⟨.slice A ys.length c, by simp [results, Try.results16, go_sem], A, c, rfl, hF2, hB.trans (belowK_b (w := w) (Nat.le_refl _) W D _ _ (by have := HBW0.out.size; omega) hK rfl rfl)⟩
end Go.Proofs.Ytpocpeiiacgoaaa

/-
  What sum.Add and sum.Of answer, and the document's Of. For a later stage's seat (SumA, B, C upon MemB).
  The document's Blocks of a checkpoint.
  Package ckpt's lay: the bytes of numbers, in a row of the call's own.
-/
import Derived.Test.YthmpimjmajoimaaGreatDoorSw02
import Derived.Below
import Derived.Deep.LoopGhost
import Derived.Laws.BitsAllLaws
import Derived.Laws.Shifts
import Derived.Lib.Hide
import Derived.OneCell
import Derived.Outline
import Derived.RegionTactic
import Derived.WalkKit
import Derived.WalkLawsBesides
import Derived.Test.YthmpimjmajoimaaGreatDoorSw05
import Derived.Test.YthmpimjmajoimaaGreatDoorSw16
namespace Go.Proofs.YthmpimjmajoimaaGreatDoor
open Go.RowKit


theorem and_low {n : Int} (h : 0 ≤ n) (h2 : n ≤ 4294967295) : bits .and .u32 n 65535 = n % 65536 := by
  rw [u32_and n 65535 h (by omega) (by omega) (by omega)]
  have e : n.toNat &&& (65535 : Int).toNat = n.toNat % 65536 := Nat.and_two_pow_sub_one_eq_mod n.toNat 16
  rw [e]
  omega
theorem or_low {l h : Int} (h0 : 0 ≤ l) (h1 : l ≤ 65520) (g0 : 0 ≤ h) (g1 : h ≤ 65520) : bits .or .u32 (h * 65536) l = wN l h := by
  rw [u32_or (h * 65536) l (by omega) (by omega) h0 (by omega)]
  have e : (h * 65536).toNat = 2 ^ 16 * h.toNat := by omega
  rw [e, ← Nat.two_pow_add_eq_or_of_lt (i := 16) (by omega)]
  unfold wN
  omega
theorem ret_u32s {a b c d : Int} (h : a = b) (k : c = d) : Ending.returned (.tuple #[.int .u32 a, .int .u32 c]) = .returned (.tuple #[.int .u32 b, .int .u32 d]) := by rw [h, k]

def PartsIs (l h : Int) (w : World) (r : Ending) (w' : World) : Prop := r = .returned (.tuple #[.int .u32 l, .int .u32 h]) ∧ w = w'
theorem parts_any (n : Int) (w : World) (h : 0 ≤ n) (h2 : n ≤ 4294967295) : Calls Tryz.prog 138 #[.int .u32 n] w (PartsIs (n % 65536) (n / 65536) w) := by
  have HA := Lib.hid (and_low h h2)
  go_enter Tryz.func138, Tryz.ntmps138
  go_wp2
  go_ret2
  exact ⟨ret_u32s HA.out rfl, rfl⟩
theorem parts_is (l h : Int) (w : World) (h0 : 0 ≤ l) (h1 : l ≤ 65520) (g0 : 0 ≤ h) (g1 : h ≤ 65520) : Calls Tryz.prog 138 #[.int .u32 (wN l h)] w (PartsIs l h w) := by
  have hb := wN_bd h0 h1 g0 g1
  have := parts_any (wN l h) w hb.1 (by omega)
  rwa [wN_low h0 h1, wN_high h0 h1] at this
theorem whole_is (l h : Int) (w : World) (h0 : 0 ≤ l) (h1 : l ≤ 65520) (g0 : 0 ≤ h) (g1 : h ≤ 65520) : Calls Tryz.prog 140 #[.int .u32 l, .int .u32 h] w (NumIs (wN l h) w) := by
  have HA := Lib.hid (or_low h0 h1 g0 g1)
  go_enter Tryz.func140, Tryz.ntmps140
  go_wp2
  go_ret
  exact ⟨ret_u32 HA.out, rfl⟩

theorem aL_step (l : Int) (xs : List Int) (k : Nat) (h : k < xs.length) : aL l (xs.take (k + 1)) = (aL l (xs.take k) + xs[k]) % 65521 := by
  rw [List.take_succ_eq_append_getElem h]
  unfold aL
  rw [rL_snoc]
  omega
theorem aH_step (l g : Int) (xs : List Int) (k : Nat) (h : k < xs.length) : aH l g (xs.take (k + 1)) = (aH l g (xs.take k) + aL l (xs.take (k + 1))) % 65521 := by
  rw [List.take_succ_eq_append_getElem h]
  unfold aH aL
  rw [rH_snoc, rL_snoc]
  omega

theorem rof_is (A : Option Addr) (xs : List Int) (c : Nat) (w : World) (hx : Byt xs) (hr : Rd w w.heap.size A xs) (hn : xs.length ≤ 20000) : Calls Tryz.prog 81 #[.slice A xs.length c] w (NumIs (sumN xs) w) := by
  have HX := Lib.hid hx
  have HR := Lib.hid hr
  clear hx hr
  go_enter Tryz.func81, Tryz.ntmps81
  go_wp2_with fail
  go_loop [3, 4, 5] (fun lo hi i => ∃ k : Nat, k ≤ xs.length ∧ i = .int .i64 k ∧ lo = .int .i64 (aL 1 (xs.take k)) ∧ hi = .int .i64 (aH 1 0 (xs.take k))) (fun _ _ i => xs.length - (intOf i).toNat)
  case atStart => exact ⟨0, by omega, rfl, by simp [aL_nil], by simp [aH_nil]⟩
  case round =>
    obtain ⟨k, hk, rfl, rfl, rfl⟩ := hrel
    obtain ⟨a1, a2⟩ := aL_bd 1 (xs.take k)
    obtain ⟨a3, a4⟩ := aH_bd 1 0 (xs.take k)
    by_cases hlt : k < xs.length
    · obtain ⟨b, o, rfl, hbl, hcell⟩ := HR.out (by omega)
      have c0 := hcell k hlt
      obtain ⟨x1, x2⟩ := HX.out.get k hlt
      have HS := Lib.hid (aL_step 1 xs k hlt)
      have HT := Lib.hid (aH_step 1 0 xs k hlt)
      clear hcell
      generalize hxk : xs[k] = x at *
      generalize hla : aL 1 (xs.take k) = la at *
      generalize hha : aH 1 0 (xs.take k) = ha at *
      have H1 := Lib.hid hxk
      have H2 := Lib.hid hla
      have H3 := Lib.hid hha
      clear hxk hla hha
      go_wp2_with fail
      go_round
      case rel => exact ⟨k + 1, by omega, by go_num, by rw [HS.out], by rw [HT.out, HS.out]⟩
      case measure => simp [intOf]; omega
    · obtain rfl : k = xs.length := by omega
      rw [List.take_length] at *
      have HW := Lib.hid (show wN (aL 1 xs) (aH 1 0 xs) = aH 1 0 xs * 65536 + aL 1 xs from rfl)
      generalize hla : aL 1 xs = la at *
      generalize hha : aH 1 0 xs = ha at *
      have H2 := Lib.hid hla
      have H3 := Lib.hid hha
      clear hla hha
      go_wp2_with fail
      go_ret
      exact ⟨ret_u32 (by unfold sumN; rw [H2.out, H3.out, HW.out]), rfl⟩


/-- Block g is one uint32. -/
def One (w : World) (g : Nat) (n : Int) : Prop := w.heap[g]? = some (.cells #[.int .u32 n] 35 (0, 0))
theorem One.cell {w : World} {g : Nat} {n : Int} (h : One w g n) : w.cell? ⟨g, 0, none⟩ = some (.int .u32 n) := cell_of_one h
theorem One.free {w : World} {g : Nat} {n : Int} (h : One w g n) : w.frozen? ⟨g, 0, none⟩ = false := free_of_one h
theorem One.put {w : World} {g : Nat} {n : Int} (h : One w g n) (m : Int) : One (w.setCell ⟨g, 0, none⟩ (.int .u32 m)) g m := one_setCell h
theorem One.far {w : World} {g k : Nat} {n : Int} (h : One w g n) (hk : g ≠ k) (u : Value) : One (w.setCell ⟨k, 0, none⟩ u) g n := (Below.heap_setCell w ⟨k, 0, none⟩ u g hk).trans h
theorem One.drew {w : World} {g : Nat} {n : Int} (h : One w g n) : One w.drew g n := h
theorem One.below {w w' : World} {B g : Nat} {n : Int} (h : One w g n) (hb : Below B w w') (hg : g < B) : One w' g n := (hb.block g hg).trans h

def TakeIs (B p q : Nat) (l h : Int) (w : World) (r : Ending) (w' : World) : Prop := r = .returned (.tuple #[]) ∧ One w' p l ∧ One w' q h ∧ Below B w w'
def TakeAt (B p q : Nat) (l h : Int) (xs : List Int) (w : World) (n : Nat) (i : Value) (wr : World) : Prop :=
  ∃ j : Nat, j ≤ xs.length ∧ n = xs.length - j ∧ i = .int .i64 j ∧ One wr p (rL l (xs.take j)) ∧ One wr q (rH l h (xs.take j)) ∧ Below B w wr

set_option maxHeartbeats 1000000 in
theorem take_is (B p q : Nat) (A : Option Addr) (xs : List Int) (c : Nat) (l h : Int) (w : World) (hx : Byt xs) (hr : Rd w B A xs) (hn : xs.length ≤ 5552) (hp : B ≤ p) (hq : B ≤ q) (hpq : p ≠ q) (h1 : One w p l) (h2 : One w q h)
    (l0 : 0 ≤ l) (l1 : l ≤ 65520) (g0 : 0 ≤ h) (g1 : h ≤ 65520) : Calls Tryz.prog 139 #[.slice A xs.length c, .pointer (some ⟨p, 0, none⟩), .pointer (some ⟨q, 0, none⟩)] w (TakeIs B p q (aL l xs) (aH l h xs) w) := by
  have HX := Lib.hid hx
  have HR := Lib.hid hr
  have H1 := Lib.hid h1
  have H2 := Lib.hid h2
  have HPQ := Lib.hid hpq
  clear hx hr h1 h2 hpq
  go_enter Tryz.func139, Tryz.ntmps139
  go_wp2_with fail
  go_loopg [8] xs.length (fun n i wr => TakeAt B p q l h xs w n i wr)
  case atStart => exact ⟨0, by omega, by omega, rfl, by rw [List.take_zero, rL_nil]; exact H1.out, by rw [List.take_zero, rH_nil]; exact H2.out, Below.refl _ _⟩
  case round =>
    clear H1 H2
    obtain ⟨k, hk, hm, rfl, o1, o2, hb⟩ := hrel
    have HB := Lib.hid hb
    have HM := Lib.hid hm
    clear hb hm
    by_cases hlt : k < xs.length
    · obtain ⟨b, o, rfl, hbl, hcell⟩ := (HR.out.below HB.out) (by omega)
      have c0 := hcell k hlt
      obtain ⟨x1, x2⟩ := HX.out.get k hlt
      have hT : xs.take (k + 1) = xs.take k ++ [xs[k]] := List.take_succ_eq_append_getElem hlt
      have HL : Hid (rL l (xs.take (k + 1)) = _) := Lib.hid (by rw [hT, rL_snoc])
      have HH : Hid (rH l h (xs.take (k + 1)) = _) := Lib.hid (by rw [hT, rH_snoc])
      obtain ⟨b1, b2⟩ := rL_bd (HX.out.take k) l0 l1 (by simp; omega)
      obtain ⟨b3, b4⟩ := rH_bd (HX.out.take (k + 1)) l0 l1 g0 g1 (by simp; omega)
      obtain ⟨b5, b6⟩ := rH_bd (HX.out.take k) l0 l1 g0 g1 (by simp; omega)
      rw [HH.out] at b3 b4
      clear hcell hT
      generalize hxk : xs[k] = x at *
      generalize hla : rL l (xs.take k) = la at *
      generalize hha : rH l h (xs.take k) = ha at *
      have H4 := Lib.hid hxk
      have H5 := Lib.hid hla
      have H6 := Lib.hid hha
      clear hxk hla hha
      have O1 := Lib.hid o1
      have O2 := Lib.hid o2
      have P1 := Lib.hid (o1.put (la + x))
      have P2 := Lib.hid (o2.far (k := p) (fun e => HPQ.out e.symm) (.int .u32 (la + x)))
      have P3 := Lib.hid (P2.out.put (ha + (la + x)))
      have P4 := Lib.hid (P1.out.far (k := q) HPQ.out (.int .u32 (ha + (la + x))))
      clear o1 o2
      have a1 := O1.out.cell
      have a2 := O1.out.free
      have a3 := P2.out.cell
      have a4 := P2.out.free
      have a5 := P1.out.cell
      go_wp2_with fail
      go_roundg (xs.length - (k + 1))
      case rel => exact ⟨k + 1, by omega, rfl, by go_num, by rw [HL.out]; exact P4.out, by rw [HH.out]; exact P3.out, (HB.out.setCell (p := ⟨p, 0, none⟩) hp _).setCell (p := ⟨q, 0, none⟩) hq _⟩
      case measure => have := HM.out; omega
    · obtain rfl : k = xs.length := by omega
      rw [List.take_length] at o1 o2
      obtain ⟨b1, b2⟩ := rL_bd HX.out l0 l1 hn
      obtain ⟨b3, b4⟩ := rH_bd HX.out l0 l1 g0 g1 hn
      have HLa : Hid (rL l xs % 65521 = aL l xs) := Lib.hid rfl
      have HHa : Hid (rH l h xs % 65521 = aH l h xs) := Lib.hid rfl
      generalize rL l xs = la at *
      generalize rH l h xs = ha at *
      have O1 := Lib.hid o1
      have O2 := Lib.hid o2
      clear o1 o2
      have a1 := O1.out.cell
      have a2 := O1.out.free
      have a3 := O2.out.cell
      have P1 := Lib.hid (O1.out.put (la % 65521))
      have P2 := Lib.hid (O2.out.far (k := p) (fun e => HPQ.out e.symm) (.int .u32 (la % 65521)))
      have P3 := Lib.hid (P2.out.put (ha % 65521))
      have P4 := Lib.hid (P1.out.far (k := q) HPQ.out (.int .u32 (ha % 65521)))
      have a5 := P2.out.cell
      have a6 := P2.out.free
      go_wp2_with fail
      go_region
      all_goals (go_end0; exact ⟨rfl, by rw [← HLa.out]; exact P4.out.drew, by rw [← HHa.out]; exact P3.out.drew, ((HB.out.setCell (p := ⟨p, 0, none⟩) hp _).setCell (p := ⟨q, 0, none⟩) hq _).drew⟩)


/-- Behind some of the bytes. -/
def AddAt (l h : Int) (xs : List Int) (w : World) (n : Nat) (b : Value) (wr : World) : Prop :=
  ∃ (A : Option Addr) (c : Nat) (done todo : List Int), xs = done ++ todo ∧ n = todo.length ∧ b = .slice A todo.length c ∧ todo.length ≤ c ∧ Rd wr w.heap.size A todo ∧
    One wr w.heap.size (aL l done) ∧ One wr (w.heap.size + 1) (aH l h done) ∧ Below w.heap.size w wr

theorem two_new (w : World) (l h : Int) : One ((w.alloc (.cells #[.int .u32 l] 35)).alloc (.cells #[.int .u32 h] 35)) w.heap.size l ∧ One ((w.alloc (.cells #[.int .u32 l] 35)).alloc (.cells #[.int .u32 h] 35)) (w.heap.size + 1) h := by
  have n1 : One (w.alloc (.cells #[.int .u32 l] 35)) w.heap.size l := heap_alloc_new w _
  refine ⟨(Below.heap_alloc _ _ _ (by simp)).trans n1, ?_⟩
  have := heap_alloc_new (w.alloc (.cells #[.int .u32 l] 35)) (.cells #[.int .u32 h] 35)
  rw [World.size_alloc] at this
  exact this
theorem two_below (w : World) (l h : Int) : Below w.heap.size w ((w.alloc (.cells #[.int .u32 l] 35)).alloc (.cells #[.int .u32 h] 35)) := ((Below.refl _ _).alloc (Nat.le_refl _) _).alloc (by simp) _

set_option maxHeartbeats 1000000 in
theorem add_is (A : Option Addr) (xs : List Int) (c : Nat) (l h : Int) (w : World) (hx : Byt xs) (hr : Rd w w.heap.size A xs) (hc : xs.length ≤ c) (hn : xs.length ≤ 1000000)
    (l0 : 0 ≤ l) (l1 : l ≤ 65520) (g0 : 0 ≤ h) (g1 : h ≤ 65520) : Calls Tryz.prog 132 #[.int .u32 (wN l h), .slice A xs.length c] w (NumB (addN l h xs) w) := by
  have HX := Lib.hid hx
  have HR := Lib.hid hr
  have HN := Lib.hid (two_new w l h)
  have HB0 := Lib.hid (two_below w l h)
  clear hx hr
  go_enter Tryz.func132, Tryz.ntmps132
  go_wp2_with fail
  refine (parts_is l h _ l0 l1 g0 g1).mono ?_
  rintro r w' ⟨rfl, rfl⟩
  go_wp2_with fail
  go_loopg [1] xs.length (fun n b wr => AddAt l h xs w n b wr)
  case atStart => exact ⟨A, c, [], xs, rfl, rfl, rfl, hc, HR.out.below HB0.out, by rw [aL_nil l0 l1]; exact HN.out.1, by rw [aH_nil g0 g1]; exact HN.out.2, HB0.out⟩
  case round =>
    clear HN HB0
    obtain ⟨A1, c1, done, todo, he, hm, rfl, hc1, hrd, o1, o2, hb⟩ := hrel
    have HE := Lib.hid he
    have HM := Lib.hid hm
    have HRD := Lib.hid hrd
    have HB := Lib.hid hb
    have O1 := Lib.hid o1
    have O2 := Lib.hid o2
    have HBY := Lib.hid (show Byt todo from by have := HX.out.drop done.length; rw [he] at this; simpa using this)
    have hle : todo.length ≤ xs.length := by rw [he]; simp
    clear he hm hrd hb o1 o2
    obtain ⟨a1, a2⟩ := aL_bd l done
    obtain ⟨a3, a4⟩ := aH_bd l h done
    by_cases h0 : 0 < todo.length
    · by_cases h5 : todo.length ≤ 5552
      · go_wp2_with fail
        refine (take_is w.heap.size w.heap.size (w.heap.size + 1) A1 todo _ _ _ wr HBY.out HRD.out h5 (Nat.le_refl _) (by omega) (by omega) O1.out O2.out a1 a2 a3 a4).mono ?_
        rintro r w2 ⟨rfl, o3, o4, hb2⟩
        rw [aL_app] at o3
        rw [aH_app] at o4
        have O3 := Lib.hid o3
        have O4 := Lib.hid o4
        have HB2 := Lib.hid (HB.out.trans hb2)
        clear o3 o4 hb2 O1 O2
        go_wp2_with fail
        all_goals
          go_roundg 0
          case rel => exact ⟨_, _, done ++ todo, [], by simpa using HE.out, rfl, rfl, by simp, Rd.nil, O3.out, O4.out, HB2.out⟩
          case measure => have := HM.out; omega
      · have h6 : 5552 < todo.length := by omega
        obtain ⟨b, o, rfl, hbl, _⟩ := HRD.out h0
        have HLN : Hid ((todo.take 5552).length = 5552) := Lib.hid (by simp; omega)
        have HT := Lib.hid (take_is w.heap.size w.heap.size (w.heap.size + 1) (some ⟨b, o, none⟩) (todo.take 5552) 5552 _ _ wr (HBY.out.take 5552) (HRD.out.take 5552) (by rw [HLN.out]; omega) (Nat.le_refl _) (by omega) (by omega) O1.out O2.out a1 a2 a3 a4)
        rw [HLN.out] at HT
        go_wp2_with fail
        refine HT.out.mono ?_
        rintro r w2 ⟨rfl, o3, o4, hb2⟩
        rw [aL_app] at o3
        rw [aH_app] at o4
        have O3 := Lib.hid o3
        have O4 := Lib.hid o4
        have HB2 := Lib.hid (HB.out.trans hb2)
        have HR2 := Lib.hid ((HRD.out.below hb2).drop 5552)
        clear o3 o4 hb2 O1 O2 HT
        go_wp2_with fail
        go_roundg (todo.drop 5552).length
        case rel => exact ⟨some ⟨b, o + 5552, none⟩, c1 - 5552, done ++ todo.take 5552, todo.drop 5552, by rw [List.append_assoc, List.take_append_drop]; exact HE.out, rfl, by simp, by simp; omega, HR2.out, O3.out, O4.out, HB2.out⟩
        case measure => have := HM.out; simp; omega
    · have HD : Hid (xs = done) := Lib.hid (by
        have := HE.out
        have e : todo = [] := List.eq_nil_of_length_eq_zero (by omega)
        rw [e] at this
        simpa using this)
      have q1 := O1.out.cell
      have q2 := O2.out.cell
      go_wp2_with fail
      refine (whole_is _ _ _ a1 a2 a3 a4).mono ?_
      rintro r w' ⟨rfl, rfl⟩
      go_wp2_with fail
      go_ret
      exact ⟨ret_u32 (by rw [HD.out]; rfl), HB.out⟩

theorem of_is (A : Option Addr) (xs : List Int) (c : Nat) (w : World) (hx : Byt xs) (hr : Rd w w.heap.size A xs) (hc : xs.length ≤ c) (hn : xs.length ≤ 1000000) : Calls Tryz.prog 116 #[.slice A xs.length c] w (NumB (sumN xs) w) := by
  have HX := Lib.hid hx
  have HR := Lib.hid hr
  clear hx hr
  go_enter Tryz.func116, Tryz.ntmps116
  go_wp2_with fail
  refine (add_is A xs c 1 0 w HX.out HR.out hc hn (by omega) (by omega) (by omega) (by omega)).mono ?_
  rintro r w2 ⟨rfl, hb⟩
  have HB := Lib.hid hb
  clear hb
  go_wp2_with fail
  go_ret
  exact ⟨rfl, HB.out⟩
end Go.Proofs.YthmpimjmajoimaaGreatDoor
namespace Go.Proofs.YthmpimjmajoimaaGreatDoor
open Go.RowKit

/-- The value v is a row of rows of bytes. -/
def RowsAt (w : World) (v : Value) (l : List (List Int)) : Prop := ∃ A c vs, v = .slice A l.length c ∧ l.length ≤ c ∧ RdV w w.heap.size A vs ∧ RdR w vs l
theorem RowsAt.up {w u : World} {v : Value} {l : List (List Int)} (h : RowsAt w v l) (hb : Below w.heap.size w u) : RowsAt u v l := by
  obtain ⟨A, c, vs, e, hc, hv, hr⟩ := h
  exact ⟨A, c, vs, e, hc, hv.up hb, hr.up hb⟩
theorem RowsAt.nil (w : World) : RowsAt w (.slice none 0 0) [] := ⟨none, 0, [], rfl, by simp, RdV.nil, RdR.nil⟩
/-- Rows and an error's value. -/
def BlocksIs (e : Value) (l : List (List Int)) (w : World) (r : Ending) (w' : World) : Prop := ∃ v, r = .returned (.tuple #[v, e]) ∧ RowsAt w' v l ∧ Below w.heap.size w w'

theorem infoU32 : (Tryz.prog.info? 35).map (fun i => (i.zero, i.size, i.bytes)) = some (some (.int .u32 0), 1, 4) := by kernel_rfl
theorem one_u32s (ns : List Int) : ∀ u ∈ u32s ns, u.oneCell' = true := by
  intro u hu
  simp only [u32s, List.mem_map] at hu
  obtain ⟨y, _, rfl⟩ := hu
  rfl
theorem RdV.src {w : World} {B b o : Nat} {vs : List Value} (h : RdV w B (some ⟨b, o, none⟩) vs) : ∀ j (hj : j < vs.length), w.cell? ((⟨b, o, none⟩ : Addr).add j) = some vs[j] := by
  intro j hj
  obtain ⟨b', o', hA, _, hc⟩ := h (by omega)
  have hA := Option.some.inj hA
  injection hA with e1 e2
  subst e1 e2
  have := hc j hj
  rcases j with _ | j
  · simpa [Addr.add] using this
  · simpa [Addr.add] using this
theorem flat_snoc {ns : List Int} {i : Nat} (h : i < ns.length) : flatM (ns.take i) ++ four ns[i] = flatM (ns.take (i + 1)) := by
  rw [List.take_succ_eq_append_getElem h]
  unfold flatM
  rw [List.flatMap_append]
  simp only [List.flatMap_cons, List.flatMap_nil, List.append_nil]
theorem byt_flatM (ns : List Int) : Byt (flatM ns) := by
  induction ns with
  | nil => exact Byt.nil
  | cons n ns ih => exact (byt_four n).app ih
/-- What a geometry that may be is bounded by. -/
theorem right_bd {z p b : Int} {n : Nat} (h : rightC z p b n = true) : (11 ≤ z ∧ z ≤ 24) ∧ (4 ≤ p ∧ p ≤ 16) ∧ (1 ≤ b ∧ b ≤ 64) ∧ (n : Int) = tab b ∧ 1 ≤ n ∧ n ≤ 16 := by
  unfold rightC at h
  simp only [Bool.and_eq_true, decide_eq_true_eq] at h
  obtain ⟨h1, h2⟩ := h
  unfold rightB at h1
  simp only [decide_eq_true_eq] at h1
  have h3 := (bnd_bd z p).2
  have h4 := (bnd_room (z := z) (p := p) (by omega)).1
  have h5 := tab_le (n := b) (by omega) (by omega)
  have h6 := insB_iff.1 h4
  omega

theorem rof_at {A : Option Addr} {xs : List Int} {n c : Nat} {m : Int} {w : World} (hx : Byt xs) (hr : Rd w w.heap.size A xs) (hl : xs.length = n) (hn : n ≤ 20000) (hm : sumN xs = m) : Calls Tryz.prog 81 #[.slice A n c] w (NumIs m w) := by
  subst hl hm
  exact rof_is A xs c w hx hr hn
theorem Rd.kept {w w' : World} {g o : Nat} {xs : List Int} {row : Option Nat} (h : Rd w w.heap.size (some ⟨g, o, none⟩) xs) (hg : w.grownBy w' row) (hne : some g ≠ row) : Rd w' w'.heap.size (some ⟨g, o, none⟩) xs := by
  intro hn
  obtain ⟨b', o', hA, hlt, hc⟩ := h hn
  have hA' := Option.some.inj hA
  injection hA' with e1 e2
  subst e1 e2
  exact ⟨g, o, rfl, Nat.lt_of_lt_of_le hlt hg.size, fun i hi => hg.cell (hc i hi) hne⟩
/-- Rows of bytes in blocks of their own, none of them block g7. -/
def Elems (w : World) (g7 : Nat) (vs : List Value) (l : List (List Int)) : Prop :=
  vs.length = l.length ∧ ∀ i (h : i < vs.length) (h2 : i < l.length), ∃ gi ci, vs[i] = .slice (some ⟨gi, 0, none⟩) l[i].length ci ∧ l[i].length ≤ ci ∧ Rd w w.heap.size (some ⟨gi, 0, none⟩) l[i] ∧ gi ≠ g7 ∧ gi < w.heap.size
theorem Elems.nil {w : World} {g7 : Nat} : Elems w g7 [] [] := ⟨rfl, fun i h => by simp at h⟩
theorem Elems.rows {w : World} {g7 : Nat} {vs : List Value} {l : List (List Int)} (h : Elems w g7 vs l) : RdR w vs l :=
  ⟨h.1, fun i h1 h2 => by obtain ⟨gi, ci, e, hc, hr, _⟩ := h.2 i h1 h2; exact ⟨_, ci, e, hc, hr⟩⟩
theorem Elems.up {w u : World} {g7 : Nat} {vs : List Value} {l : List (List Int)} (h : Elems w g7 vs l) (hb : Below w.heap.size w u) : Elems u g7 vs l :=
  ⟨h.1, fun i h1 h2 => by obtain ⟨gi, ci, e, hc, hr, hne, hlt⟩ := h.2 i h1 h2; exact ⟨gi, ci, e, hc, rd_up hr hb, hne, Nat.lt_of_lt_of_le hlt hb.size⟩⟩
/-- One row more, where the row of rows has grown. -/
theorem Elems.snoc {w w' : World} {g7 g' gn cn : Nat} {vs : List Value} {l : List (List Int)} {xs : List Int} (h : Elems w g7 vs l) (hg : w.grownBy w' (some g7)) (hg' : g' = g7 ∨ g' = w.heap.size) (hx : Rd w w.heap.size (some ⟨gn, 0, none⟩) xs) (hc : xs.length ≤ cn) (hne : gn ≠ g7) (hlt : gn < w.heap.size) :
    Elems w' g' (vs ++ [.slice (some ⟨gn, 0, none⟩) xs.length cn]) (l ++ [xs]) := by
  refine ⟨by simp [h.1], fun i h1 h2 => ?_⟩
  by_cases hi : i < vs.length
  · have hi2 : i < l.length := by rw [← h.1]; exact hi
    obtain ⟨gi, ci, e, hc, hr, hn, hl⟩ := h.2 i hi hi2
    rw [List.getElem_append_left hi, List.getElem_append_left hi2]
    exact ⟨gi, ci, e, hc, hr.kept hg (fun e => hn (Option.some.inj e)), by rcases hg' with rfl | rfl <;> omega, Nat.lt_of_lt_of_le hl hg.size⟩
  · have e1 : i = vs.length := by simp at h1; omega
    subst e1
    have e2 : vs.length = l.length := h.1
    rw [List.getElem_append_right (by omega), List.getElem_append_right (by omega)]
    simp only [e2, Nat.sub_self, List.getElem_cons_zero]
    exact ⟨gn, cn, rfl, hc, hx.kept hg (fun e => hne (Option.some.inj e)), by rcases hg' with rfl | rfl <;> omega, Nat.lt_of_lt_of_le hlt hg.size⟩
theorem rkblocks_no (nu se sq z p b : Int) (A : Option Addr) (n c : Nat) (w : World) (h : rightC z p b n = false) : Calls Tryz.prog 40 #[kV nu se sq z p b (.slice A n c)] w (BlocksIs (.int .i64 1) [] w) := by
  have HB0 := Lib.hid ((Below.refl w.heap.size w).alloc (Nat.le_refl _) (.cells (kCellsq1 nu se sq z p b (.slice A n c)) 46))
  go_enter Tryz.func40, Tryz.ntmps40
  go_wp2_with fail
  refine (rkright_is nu se sq z p b A n c _).mono ?_
  rintro r w1 ⟨rfl, hb⟩
  have HB1 := Lib.hid (HB0.out.trans (hb.mono HB0.out.size))
  clear hb
  rw [h]
  go_wp2_with fail
  go_ret2
  exact ⟨_, rfl, RowsAt.nil _, HB1.out⟩

end Go.Proofs.YthmpimjmajoimaaGreatDoor
namespace Go.Proofs.YthmpimjmajoimaaGreatDoor
open Go.RowKit

/-- The value v is the call's own row of these bytes; nil, where there are none. -/
def R8 (w : World) (base : Nat) (v : Value) (xs : List Int) : Prop := w.ownsRow base 5 1 v xs.length (cellsOf8 xs)
theorem R8.nil (w : World) (base : Nat) : R8 w base (.slice none 0 0) [] := ⟨by simp [cellsOf8], .inl ⟨rfl, rfl⟩⟩
theorem R8.rise {w w' : World} {base : Nat} {v : Value} {xs : List Int} (h : R8 w base v xs) (hb : Below w.heap.size w w') : R8 w' base v xs :=
  ⟨h.1, h.2.imp id fun ⟨g', c', cur, hv, hg, hc, r⟩ => ⟨g', c', cur, hv, hg, (hb.block g' (lt_of_block hc)).trans hc, r⟩⟩
theorem R8.own {w : World} {base : Nat} {v : Value} {xs : List Int} (h : R8 w base v xs) : ∀ j, v.ownBlock = some j → base ≤ j := by
  rcases h.2 with ⟨rfl, _⟩ | ⟨g, cap, cur, rfl, hb, _⟩
  · intro j hj
    cases hj
  · intro j hj
    simp [Value.ownBlock] at hj
    omega
theorem lay_put {L : List Int} {x k : Int} {j : Nat} (h : (four x)[j]? = some k) : (L ++ (four x).take j) ++ [k] = L ++ (four x).take (j + 1) := by
  obtain ⟨hj, rfl⟩ := List.getElem?_eq_some_iff.1 h
  rw [List.append_assoc, List.take_succ_eq_append_getElem hj]
theorem four_at (x : Int) (h : Word x) : (four x)[0]? = some (x % 256) ∧ (four x)[1]? = some (x / 256 % 256) ∧ (four x)[2]? = some (x / 65536 % 256) ∧ (four x)[3]? = some (x / 16777216) := by
  obtain ⟨h0, h1⟩ := h
  have e : x / 16777216 = x / 16777216 % 256 := by omega
  rw [e]
  exact ⟨rfl, rfl, rfl, rfl⟩
theorem rd_one (w : World) (k : Int) : Rd (w.alloc (.cells #[.int .u8 k] 5)) (w.heap.size + 1) (some ⟨w.heap.size, 0, none⟩) [k] := by
  intro _
  refine ⟨w.heap.size, 0, rfl, by omega, fun i hi => ?_⟩
  have hi' : i < 1 := hi
  obtain rfl : i = 0 := by omega
  simp

def LayIs (xs : List Int) (w : World) (r : Ending) (w' : World) : Prop := ∃ v, r = .returned v ∧ R8 w' w.heap.size v xs ∧ Below w.heap.size w w'
set_option maxHeartbeats 2000000 in
set_option maxRecDepth 100000 in
theorem lay_any {A : Option Addr} {ns : List Int} {c : Nat} {w : World} (hr : RdV w w.heap.size A (u32s ns)) (hW : Words ns) (hn : ns.length ≤ 1000) : Calls Tryz.prog 122 #[.slice A ns.length c] w (LayIs (flatM ns) w) := by
  have HR := Lib.hid hr
  have HW := Lib.hid hW
  clear hr hW
  go_enter Tryz.func122, Tryz.ntmps122
  go_wp2_with fail
  go_loopg [3, 9] ns.length (fun k s' x wr => ∃ (i : Nat) (s : Value), i ≤ ns.length ∧ k = ns.length - i ∧ x = .int .i64 i ∧ s = s' ∧ R8 wr w.heap.size s (flatM (ns.take i)) ∧ Below w.heap.size w wr)
  case atStart => exact ⟨0, _, by omega, by omega, rfl, rfl, R8.nil _ _, Below.refl _ _⟩
  case round =>
    obtain ⟨i, s, hi, hk, rfl, rfl, ho, hb⟩ := hrel
    have HK := Lib.hid hk
    have HO := Lib.hid ho
    have HB := Lib.hid hb
    clear hk ho hb
    by_cases hlt : i < ns.length
    · obtain ⟨b, o, rfl, hbl, hcell⟩ := (HR.out.below HB.out) (by rw [u32s_len]; omega)
      have c0 := hcell i (by rw [u32s_len]; exact hlt)
      rw [u32s_get] at c0
      clear hcell
      have HF := Lib.hid (flat_snoc hlt)
      have HX := Lib.hid (HW.out _ (List.getElem_mem hlt))
      have HLL : Hid ((flatM (ns.take i)).length = 4 * i) := Lib.hid (by rw [flatM_len]; simp; omega)
      have hxw := HX.out
      obtain ⟨hx0, hx1⟩ := hxw
      generalize ns[i] = x at *
      generalize flatM (ns.take i) = L at *
      go_wp2_with fail
      obtain ⟨wo, rfl⟩ : ∃ wo : World, wo = wr := ⟨_, rfl⟩
      clear c0
      go_loopg [3, 13] 4 (fun k s' y wr => ∃ (j : Nat) (s : Value), j ≤ 4 ∧ k = 4 - j ∧ y = .int .i64 j ∧ s = s' ∧ R8 wr w.heap.size s (L ++ (four x).take j) ∧ Below w.heap.size w wr)
      case atStart => exact ⟨0, _, by omega, by omega, rfl, rfl, by rw [List.take_zero, List.append_nil]; exact HO.out, HB.out⟩
      case round =>
        clear HO HB
        obtain ⟨j, s2, hj, hk, rfl, rfl, ho, hb⟩ := hrel
        have HK2 := Lib.hid hk
        have HO := Lib.hid ho
        have HB := Lib.hid hb
        clear hk ho hb
        by_cases hlt2 : j < 4
        · have HP := Lib.hid (four_at x HX.out)
          have HLJ : Hid ((L ++ (four x).take j).length ≤ 20000) := Lib.hid (by rw [List.length_append, HLL.out, List.length_take]; omega)
          have hj4 : j = 0 ∨ j = 1 ∨ j = 2 ∨ j = 3 := by omega
          clear hj hlt2
          rcases hj4 with rfl | rfl | rfl | rfl
          · have HOA := Lib.hid (HO.out.rise (Below.alloc (Below.refl wr.heap.size wr) (Nat.le_refl _) (.cells #[.int .u8 (x % 256)] 5)))
            have HBA := Lib.hid (HB.out.alloc HB.out.size (.cells #[.int .u8 (x % 256)] 5))
            go_wp2_with (first
              | (at_builtin; refine append_rd _ rfl (.tmp 16) (.tmp 22) rfl w.heap.size (wr.heap.size + 1) s2 (L ++ (four x).take 0) rfl HOA.out (some ⟨wr.heap.size, 0, none⟩) [x % 256] 1 rfl (rd_one wr _) (fun h => by cases h) ?h1a ?h1b ?_; (case h1a => have := HLJ.out; simp at this ⊢; omega); (case h1b => have := HB.out.size; simp; omega); intro v' w' zs hz ho hg; have HO1 := Lib.hid (show R8 _ _ _ (L ++ (four x).take (0 + 1)) from (lay_put (L := L) HP.out.1) ▸ hz.out ▸ ho); have HB1 := Lib.hid (HBA.out.grown hg HBA.out.size HO.out.own); clear hz ho hg HOA HBA HO HB)
              | fail)
            go_roundg (4 - (0 + 1))
            case rel => exact ⟨0 + 1, _, by omega, rfl, by go_num, rfl, HO1.out, HB1.out⟩
            case measure => have := HK2.out; omega
          · have HOA := Lib.hid (HO.out.rise (Below.alloc (Below.refl wr.heap.size wr) (Nat.le_refl _) (.cells #[.int .u8 (x / 256 % 256)] 5)))
            have HBA := Lib.hid (HB.out.alloc HB.out.size (.cells #[.int .u8 (x / 256 % 256)] 5))
            go_wp2_with (first
              | (at_builtin; refine append_rd _ rfl (.tmp 16) (.tmp 22) rfl w.heap.size (wr.heap.size + 1) s2 (L ++ (four x).take 1) rfl HOA.out (some ⟨wr.heap.size, 0, none⟩) [x / 256 % 256] 1 rfl (rd_one wr _) (fun h => by cases h) ?h2a ?h2b ?_; (case h2a => have := HLJ.out; simp at this ⊢; omega); (case h2b => have := HB.out.size; simp; omega); intro v' w' zs hz ho hg; have HO1 := Lib.hid (show R8 _ _ _ (L ++ (four x).take (1 + 1)) from (lay_put (L := L) HP.out.2.1) ▸ hz.out ▸ ho); have HB1 := Lib.hid (HBA.out.grown hg HBA.out.size HO.out.own); clear hz ho hg HOA HBA HO HB)
              | fail)
            go_roundg (4 - (1 + 1))
            case rel => exact ⟨1 + 1, _, by omega, rfl, by go_num, rfl, HO1.out, HB1.out⟩
            case measure => have := HK2.out; omega
          · have HOA := Lib.hid (HO.out.rise (Below.alloc (Below.refl wr.heap.size wr) (Nat.le_refl _) (.cells #[.int .u8 (x / 65536 % 256)] 5)))
            have HBA := Lib.hid (HB.out.alloc HB.out.size (.cells #[.int .u8 (x / 65536 % 256)] 5))
            go_wp2_with (first
              | (at_builtin; refine append_rd _ rfl (.tmp 16) (.tmp 22) rfl w.heap.size (wr.heap.size + 1) s2 (L ++ (four x).take 2) rfl HOA.out (some ⟨wr.heap.size, 0, none⟩) [x / 65536 % 256] 1 rfl (rd_one wr _) (fun h => by cases h) ?h3a ?h3b ?_; (case h3a => have := HLJ.out; simp at this ⊢; omega); (case h3b => have := HB.out.size; simp; omega); intro v' w' zs hz ho hg; have HO1 := Lib.hid (show R8 _ _ _ (L ++ (four x).take (2 + 1)) from (lay_put (L := L) HP.out.2.2.1) ▸ hz.out ▸ ho); have HB1 := Lib.hid (HBA.out.grown hg HBA.out.size HO.out.own); clear hz ho hg HOA HBA HO HB)
              | fail)
            go_roundg (4 - (2 + 1))
            case rel => exact ⟨2 + 1, _, by omega, rfl, by go_num, rfl, HO1.out, HB1.out⟩
            case measure => have := HK2.out; omega
          · have HOA := Lib.hid (HO.out.rise (Below.alloc (Below.refl wr.heap.size wr) (Nat.le_refl _) (.cells #[.int .u8 (x / 16777216)] 5)))
            have HBA := Lib.hid (HB.out.alloc HB.out.size (.cells #[.int .u8 (x / 16777216)] 5))
            go_wp2_with (first
              | (at_builtin; refine append_rd _ rfl (.tmp 16) (.tmp 22) rfl w.heap.size (wr.heap.size + 1) s2 (L ++ (four x).take 3) rfl HOA.out (some ⟨wr.heap.size, 0, none⟩) [x / 16777216] 1 rfl (rd_one wr _) (fun h => by cases h) ?h4a ?h4b ?_; (case h4a => have := HLJ.out; simp at this ⊢; omega); (case h4b => have := HB.out.size; simp; omega); intro v' w' zs hz ho hg; have HO1 := Lib.hid (show R8 _ _ _ (L ++ (four x).take (3 + 1)) from (lay_put (L := L) HP.out.2.2.2) ▸ hz.out ▸ ho); have HB1 := Lib.hid (HBA.out.grown hg HBA.out.size HO.out.own); clear hz ho hg HOA HBA HO HB)
              | fail)
            go_roundg (4 - (3 + 1))
            case rel => exact ⟨3 + 1, _, by omega, rfl, by go_num, rfl, HO1.out, HB1.out⟩
            case measure => have := HK2.out; omega
        · obtain rfl : j = 4 := by omega
          have HE : Hid (R8 wr w.heap.size s2 (flatM (ns.take (i + 1)))) := Lib.hid (HF.out ▸ HO.out)
          go_wp2_with fail
          go_roundg (ns.length - (i + 1))
          case rel => exact ⟨i + 1, _, by omega, rfl, by go_num, rfl, HE.out, HB.out⟩
          case measure => have := HK.out; omega
    · obtain rfl : i = ns.length := by omega
      rw [List.take_of_length_le (Nat.le_refl _)] at HO
      go_wp2_with fail
      go_ret
      exact ⟨s, rfl, HO.out, HB.out⟩
/-- .. of one number, or more. -/
def Lay1Is (m : Nat) (xs : List Int) (w : World) (r : Ending) (w' : World) : Prop := ∃ g cap, r = .returned (.slice (some ⟨g, 0, none⟩) m cap) ∧ Own8 w' w.heap.size g cap xs ∧ Below w.heap.size w w'
theorem lay_is {A : Option Addr} {ns : List Int} {n c m : Nat} {w : World} (hr : RdV w w.heap.size A (u32s ns)) (hl : ns.length = n) (hm : 4 * n = m) (hW : Words ns) (hn : n ≤ 1000) (h1 : 1 ≤ n) : Calls Tryz.prog 122 #[.slice A n c] w (Lay1Is m (flatM ns) w) := by
  subst hl hm
  refine (lay_any hr hW hn).mono ?_
  rintro r w' ⟨v, rfl, h, hb⟩
  obtain ⟨g, cap, rfl, ho⟩ := Own8.of h (by rw [flatM_len]; omega)
  refine ⟨g, cap, ?_, ho, hb⟩
  rw [flatM_len]
end Go.Proofs.YthmpimjmajoimaaGreatDoor

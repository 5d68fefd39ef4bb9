/-
  The landed device: New.
  The landed device: pages that may not be; load of a zone.
  The landed device: Load.
  The landed device as the bundle of its contracts.
-/
import Derived.Test.YthmpimjmajoimaaGreatDoorSw13
namespace Go.Proofs.YthmpimjmajoimaaGreatDoor
open Go.RowKit

theorem infoLZone : (Tryz.prog.info? 119).map (fun i => (i.zero, i.size, i.bytes)) = some (some (.agg #[.int .i64 0, .bool false, .slice none 0 0]), 3, 40) := by kernel_rfl
/-- n empty zones. -/
def zonesObj (n : Nat) : Obj := .cells (madeCells (Value.agg #[.int .i64 0, .bool false, .slice none 0 0]).cells (n * 3)) 119
theorem make_zones (k : Nat) (hk : k ≤ 1000) (w : World) : (Instr.makeSlice 77 (.int .i64 (k : Int)) (.int .i64 (k : Int))).run Tryz.prog w = .ok (.slice (some ⟨w.heap.size, 0, none⟩) k k) (w.alloc (zonesObj k)) := by
  obtain ⟨i0, hi, hz0, hz1, hz2⟩ := info_parts infoLZone
  have := run_make (P := Tryz.prog) w 77 119 i0 (.agg #[.int .i64 0, .bool false, .slice none 0 0]) Tryz.underlying77 hi hz0 .i64 .i64 (k : Int) (k : Int) (by omega) (Int.le_refl _) (by rw [hz2]; omega) (by omega)
  rw [hz1] at this
  simpa [zonesObj] using this
theorem zones_cells : (Value.agg #[.int .i64 0, .bool false, .slice none 0 0]).cells = #[.int .i64 0, .bool false, .slice none 0 0] := by rfl
theorem zones_blk (n : Nat) : ∃ zs : List Value, zonesObj n = .cells zs.toArray 119 (0, 0) ∧ zs.length = 3 * n ∧ ∀ i, i < n → zs[i * 3]? = some (.int .i64 0) ∧ zs[i * 3 + 1]? = some (.bool false) ∧ zs[i * 3 + 2]? = some (.slice none 0 0) := by
  refine ⟨(madeCells (Value.agg #[.int .i64 0, .bool false, .slice none 0 0]).cells (n * 3)).toList, by simp [zonesObj], by simp [size_madeCells]; omega, fun i hi => ?_⟩
  have key : ∀ j, j < 3 → (madeCells (Value.agg #[.int .i64 0, .bool false, .slice none 0 0]).cells (n * 3)).toList[i * 3 + j]? = #[Value.int .i64 0, .bool false, .slice none 0 0][j]? := by
    intro j hj
    have hs : i * 3 + j < (madeCells (Value.agg #[.int .i64 0, .bool false, .slice none 0 0]).cells (n * 3)).size := by rw [size_madeCells]; omega
    rw [Array.getElem?_toList, Array.getElem?_eq_getElem hs]
    have hm : (i * 3 + j) % 3 = j := by omega
    have hj' : j < #[Value.int .i64 0, .bool false, .slice none 0 0].size := hj
    rw [Array.getElem?_eq_getElem hj']
    simp [madeCells, zones_cells, hm, getElem!_def]
    have : j = 0 ∨ j = 1 ∨ j = 2 := by omega
    rcases this with rfl | rfl | rfl <;> rfl
  exact ⟨key 0 (by omega), key 1 (by omega), key 2 (by omega)⟩
/-- A new device. -/
def NewL (n p : Nat) (w : World) (r : Ending) (w' : World) : Prop := ∃ db zb cap f col zs, r = .returned (.tuple #[.pointer (some ⟨db, 0, none⟩), .nilIface]) ∧ LD (fun k => w.heap.size ≤ k ∧ k < w'.heap.size) w' db zb cap f col zs (DevS.new n p) ∧ Below w.heap.size w w'
set_option maxHeartbeats 1000000 in
theorem lnew_yes {w : World} (n p : Nat) (hn : 1 ≤ n) (hn2 : n ≤ 24) (hp : 1 ≤ p) (hp2 : p ≤ 16) : Calls Tryz.prog 9 #[.int .i64 (n : Int), .int .i64 (p : Int)] w (NewL n p w) := by
  have d1 : decide ((n : Int) < 1) = false := by simp; omega
  have d2 : decide ((24 : Int) < (n : Int)) = false := by simp; omega
  have d3 : decide ((p : Int) < 1) = false := by simp; omega
  have d4 : decide ((16 : Int) < (p : Int)) = false := by simp; omega
  have hmk := make_zones n (by omega)
  have HEND : Hid (NewL n p w (.returned (.tuple #[.pointer (some ⟨w.heap.size + 1, 0, none⟩), .nilIface])) ((w.alloc (zonesObj n)).alloc (.cells #[.slice (some ⟨w.heap.size, 0, none⟩) n n, .int .i64 (p : Int), .int .i64 (-1), .int .i64 0, .bool false] 79))) := Lib.hid (by
    obtain ⟨zs, hz, hl, hx⟩ := zones_blk n
    rw [hz]
    have hb1 : Blk (w.alloc (.cells zs.toArray 119 (0, 0))) w.heap.size 119 zs := heap_alloc_new w _
    have hbl : Below (w.alloc (.cells zs.toArray 119 (0, 0))).heap.size (w.alloc (.cells zs.toArray 119 (0, 0))) ((w.alloc (.cells zs.toArray 119 (0, 0))).alloc (.cells #[.slice (some ⟨w.heap.size, 0, none⟩) n n, .int .i64 (p : Int), .int .i64 (-1), .int .i64 0, .bool false] 79)) := Below.alloc (Below.refl _ _) (Nat.le_refl _) _
    have hs1 : (w.alloc (.cells zs.toArray 119 (0, 0))).heap.size = w.heap.size + 1 := World.size_alloc _ _
    have hs2 : ((w.alloc (.cells zs.toArray 119 (0, 0))).alloc (.cells #[.slice (some ⟨w.heap.size, 0, none⟩) n n, .int .i64 (p : Int), .int .i64 (-1), .int .i64 0, .bool false] 79)).heap.size = w.heap.size + 2 := by rw [World.size_alloc, hs1]
    have hb2 := heap_alloc_new (w.alloc (.cells zs.toArray 119 (0, 0))) (.cells #[.slice (some ⟨w.heap.size, 0, none⟩) n n, .int .i64 (p : Int), .int .i64 (-1), .int .i64 0, .bool false] 79)
    rw [hs1] at hb2
    refine ⟨w.heap.size + 1, w.heap.size, n, -1, fun _ => 0, zs, rfl, ⟨?_, by simp [DevS.new, leftOf], hb1.up hbl (by omega), fun i hi => ?_, by simp [DevS.new], hl, by omega, by omega, by omega, fun k hk => hk.2, DevS.new_wf hn hn2 hp hp2⟩, (Below.alloc (Below.refl _ _) (Nat.le_refl _) _).trans (hbl.mono (by omega))⟩
    · have : Blk _ _ _ _ := hb2
      simpa [DevS.new] using this
    · have hi' : i < n := by simpa [DevS.new] using hi
      obtain ⟨a, b, c⟩ := hx i hi'
      refine ⟨.slice none 0 0, ?_, ?_, c, ?_⟩
      · simpa [DevS.new, ZoneS.empty] using a
      · simpa [DevS.new, ZoneS.empty] using b
      · simp only [DevS.new, List.getElem_replicate, ZoneS.empty]
        exact Pg.nil _ _ _ _)
  clear hn hp
  go_enter Tryz.func9, Tryz.ntmps9
  go_wp2_with fail
  go_ret2
  exact HEND.out
theorem lnew_no {w : World} (n p : Int) (h : ¬ (1 ≤ n ∧ n ≤ 24 ∧ 1 ≤ p ∧ p ≤ 16)) : Calls Tryz.prog 9 #[.int .i64 n, .int .i64 p] w (ZMade LDev none w) := by
  have hE : Hid (ZMade LDev none w (.returned (.tuple #[.pointer none, .iface 31 (.int .i64 1)])) w) := Lib.hid ⟨by rw [errV_1], Below.refl _ _⟩
  by_cases h1 : n < 1
  · have d1 : decide (n < 1) = true := by simpa using h1
    clear h
    go_enter Tryz.func9, Tryz.ntmps9
    go_wp2_with fail
    go_ret2
    exact hE.out
  · have d1 : decide (n < 1) = false := by simpa using h1
    by_cases h2 : 24 < n
    · have d2 : decide (24 < n) = true := by simpa using h2
      clear h
      go_enter Tryz.func9, Tryz.ntmps9
      go_wp2_with fail
      go_ret2
      exact hE.out
    · have d2 : decide (24 < n) = false := by simpa using h2
      by_cases h3 : p < 1
      · have d3 : decide (p < 1) = true := by simpa using h3
        clear h
        go_enter Tryz.func9, Tryz.ntmps9
        go_wp2_with fail
        go_ret2
        exact hE.out
      · have d3 : decide (p < 1) = false := by simpa using h3
        have h4 : 16 < p := by omega
        have d4 : decide (16 < p) = true := by simpa using h4
        clear h
        go_enter Tryz.func9, Tryz.ntmps9
        go_wp2_with fail
        go_ret2
        exact hE.out
theorem lnew_at {w : World} (n p : Int) : Calls Tryz.prog 9 #[.int .i64 n, .int .i64 p] w (ZMade LDev (newD n p) w) := by
  by_cases h : 1 ≤ n ∧ n ≤ 24 ∧ 1 ≤ p ∧ p ≤ 16
  · obtain ⟨a, rfl⟩ := Int.eq_ofNat_of_zero_le (show 0 ≤ n by omega)
    obtain ⟨b, rfl⟩ := Int.eq_ofNat_of_zero_le (show 0 ≤ p by omega)
    have e : newD (a : Int) (b : Int) = some (DevS.new a b) := by
      unfold newD
      rw [if_pos h]
      rfl
    rw [e]
    refine (lnew_yes a b (by omega) (by omega) (by omega) (by omega)).mono ?_
    rintro r w' ⟨db, zb, cap, f, col, zs, h1, h2, h3⟩
    exact ⟨db, h1, ⟨zb, cap, f, col, zs, h2⟩, h3⟩
  · have e : newD n p = none := by
      unfold newD
      rw [if_neg h]
    rw [e]
    exact lnew_no n p h
end Go.Proofs.YthmpimjmajoimaaGreatDoor
namespace Go.Proofs.YthmpimjmajoimaaGreatDoor
open Go.RowKit

theorem lbroken_at {x : List Int} {A : Option Addr} {n c : Nat} {w : World} (hl : x.length = n) : Calls Tryz.prog 60 #[.slice A n c] w (BoolIs (!pageOk x) w) := by
  by_cases h33 : n = 33
  · have HP : Hid (pageOk x = true) := Lib.hid (by simp [pageOk, hl, h33])
    subst h33
    clear hl
    go_enter Tryz.func60, Tryz.ntmps60
    go_wp2_with fail
    go_ret
    exact ⟨by rw [HP.out]; rfl, rfl⟩
  · have q33 : ((n : Int) != 33) = true := by simp; omega
    by_cases h0 : n = 0
    · have HP : Hid (pageOk x = true) := Lib.hid (by simp [pageOk, hl, h0])
      subst h0
      clear hl
      go_enter Tryz.func60, Tryz.ntmps60
      go_wp2_with fail
      go_ret
      exact ⟨by rw [HP.out]; rfl, rfl⟩
    · have q0 : ((n : Int) != 0) = true := by simp; omega
      have HP : Hid (pageOk x = false) := Lib.hid (by simp [pageOk, hl, h0, h33])
      clear hl
      go_enter Tryz.func60, Tryz.ntmps60
      go_wp2_with fail
      go_ret
      exact ⟨by rw [HP.out]; rfl, rfl⟩
theorem ok_step {l : List (List Int)} {k : Nat} (hk : k < l.length) (h : (l.take k).all pageOk = true) (h2 : pageOk l[k] = true) : (l.take (k + 1)).all pageOk = true := by
  rw [List.take_succ_eq_append_getElem hk, List.all_append, h]
  simp [h2]
theorem ok_no {l : List (List Int)} {k : Nat} (hk : k < l.length) (h2 : pageOk l[k] = false) : l.all pageOk = false := by
  rw [Bool.eq_false_iff]
  intro h
  have := List.all_eq_true.1 h _ (List.getElem_mem hk)
  rw [h2] at this
  cases this
/-- The first one that isn't so: its number; none: -1. -/
def IdxL (t : Bool) (w : World) (r : Ending) (w' : World) : Prop := (∃ i : Int, r = .returned (.int .i64 i) ∧ (decide (0 ≤ i)) = !t) ∧ w = w'
set_option maxHeartbeats 1000000 in
theorem lindex_at {A : Option Addr} {n c : Nat} {vs : List Value} {l : List (List Int)} {w : World} (hl : l.length = n) (hv : RdV w w.heap.size A vs) (hr : RdR w vs l) (hn : n ≤ 1000000) :
    Calls Tryz.prog 97 #[.slice A n c, .func (.func 60) #[] #[]] w (IdxL (l.all pageOk) w) := by
  have HL := Lib.hid hl
  have HV := Lib.hid hv
  have HR := Lib.hid hr
  clear hl hv hr
  go_enter Tryz.func97, Tryz.ntmps97
  go_wp2_with fail
  go_loopg [8] n (fun q i wr => ∃ k : Nat, k ≤ n ∧ q = n - k ∧ i = .int .i64 k ∧ (l.take k).all pageOk = true ∧ w = wr)
  case atStart => exact ⟨0, by omega, by omega, rfl, rfl, rfl⟩
  case round =>
    obtain ⟨k, hk, hm, rfl, ht, rfl⟩ := hrel
    have HM := Lib.hid hm
    have HT := Lib.hid ht
    clear hm ht
    by_cases hlt : k < n
    · have hk1 : k < l.length := by rw [HL.out]; exact hlt
      have hv1 : k < vs.length := by rw [HR.out.1]; exact hk1
      obtain ⟨A1, d1, e1, hd1, hx1⟩ := HR.out.2 k hv1 hk1
      obtain ⟨b, o, rfl, hbl, hcell⟩ := HV.out (by omega)
      have c0 := hcell k hv1
      rw [e1] at c0
      clear hcell e1 hx1
      have HD : Hid (pageOk l[k] = true → (l.take (k + 1)).all pageOk = true) := Lib.hid (fun h => ok_step hk1 HT.out h)
      have HD2 : Hid (pageOk l[k] = false → l.all pageOk = false) := Lib.hid (fun h => ok_no hk1 h)
      generalize l[k] = x at *
      go_wp2_with fail
      refine (lbroken_at (x := x) rfl).mono ?_
      rintro r w' ⟨rfl, rfl⟩
      cases hp : pageOk x
      · have HS := Lib.hid (HD2.out hp)
        clear HD HD2 hp
        go_wp2_with fail
        go_ret
        exact ⟨⟨_, rfl, by rw [HS.out]; simp⟩, rfl⟩
      · have HS := Lib.hid (HD.out hp)
        clear HD HD2 hp
        go_wp2_with fail
        go_roundg (n - (k + 1))
        case rel => exact ⟨k + 1, by omega, rfl, by go_num, HS.out, rfl⟩
        case measure => have := HM.out; omega
    · obtain rfl : k = n := by omega
      have HS : Hid (l.all pageOk = true) := Lib.hid (by
        have := HT.out
        rwa [List.take_of_length_le (by rw [HL.out]; omega)] at this)
      go_wp2_with fail
      go_ret
      exact ⟨⟨_, rfl, by rw [HS.out]; rfl⟩, rfl⟩
theorem lcontains_at {A : Option Addr} {n c : Nat} {vs : List Value} {l : List (List Int)} {w : World} (hl : l.length = n) (hv : RdV w w.heap.size A vs) (hr : RdR w vs l) (hn : n ≤ 1000000) :
    Calls Tryz.prog 59 #[.slice A n c, .func (.func 60) #[] #[]] w (BoolIs (!l.all pageOk) w) := by
  have HC := Lib.hid (lindex_at (c := c) hl hv hr hn)
  clear hl hv hr
  go_enter Tryz.func59, Tryz.ntmps59
  go_wp2_with fail
  refine HC.out.mono ?_
  rintro r w' ⟨⟨i, rfl, hi⟩, rfl⟩
  have HI := Lib.hid hi
  clear hi
  go_wp2_with fail
  go_ret
  exact ⟨ret_bool HI.out, rfl⟩
section
variable {F G : Nat → Prop} {w w' u u' : World} {db zb cap : Nat} {f : Int} {col : Nat → Nat} {zs : List Value} {S S' : DevS}
theorem put_self {i : Nat} (hi : S.is (i : Int) = true) : S.put (i : Int) (S.zone (i : Int)) = S := by
  have hlt := is_lt hi
  rw [DevS.zone_out hi]
  cases S
  simp only [DevS.put, Int.toNat_natCast, DevS.mk.injEq, and_self, and_true]
  exact List.set_getElem_self hlt
theorem take_wf {n : Nat} {l : List (List Int)} (h : S.WF) (hl : l.length ≤ S.P) (hok : ∀ b ∈ l, (b.length = 0 ∨ b.length = 33) ∧ Byt b) (k : Nat) : (S.put (n : Int) ⟨l.take k, 0, false⟩).WF :=
  DevS.put_wf h _ ⟨by simp only [List.length_take]; omega, Nat.zero_le _, fun b hb => hok b (List.mem_of_mem_take hb)⟩
set_option maxHeartbeats 4000000 in
set_option maxRecDepth 100000 in
theorem lload_at (i : Nat) (v : Value) (l : List (List Int)) (h : LD F w db zb cap f col zs S) (hi : S.is (i : Int) = true) (he : S.zone (i : Int) = ZoneS.empty) (hv : RowsF (fun k => ¬ F k ∧ k < w.heap.size) w v l) (hP : l.length ≤ S.P) (hok : ∀ b ∈ l, (b.length = 0 ∨ b.length = 33) ∧ Byt b) :
    Calls Tryz.prog 61 #[.pointer (some ⟨zb, i * 3, none⟩), v] w fun r w' => r = .returned (.tuple #[]) ∧ ClosZ F db zb cap (S.put (i : Int) (loadZ l)) w w' := by
  have HH := Lib.hid h
  have HI := Lib.hid hi
  obtain ⟨A, c, vs, rfl, hc, hrv, hin, hA0, hvl, hx⟩ := hv.out
  have HX := Lib.hid hv
  obtain ⟨n, hn⟩ : ∃ n, l.length = n := ⟨_, rfl⟩
  have hn16 : n ≤ 16 := by have := h.wf.p1; omega
  have HN := Lib.hid hn
  have HOK := Lib.hid hok
  have HWF : Hid (∀ k, (S.put (i : Int) ⟨l.take k, 0, false⟩).WF) := Lib.hid (fun k => take_wf h.wf hP hok k)
  have HST : Hid (S.put (i : Int) ⟨l.take 0, 0, false⟩ = S) := Lib.hid (by
    have := put_self hi
    rw [he] at this
    exact this)
  have HROW := Lib.hid (And.intro hrv (And.intro hin (And.intro hvl hx)))
  rw [hn] at hvl
  have HVL := Lib.hid hvl
  rw [hn]
  clear h hi he hv hP hok hc hrv hin hA0 hvl hx hn
  go_enter Tryz.func61, Tryz.ntmps61
  go_wp2_with fail
  go_loopg [8] n (fun q x wr => ∃ (k : Nat) (f : Int) (col : Nat → Nat) (zs : List Value), k ≤ n ∧ q = n - k ∧ x = .int .i64 k ∧ LD (grow F w wr) wr db zb cap f col zs (S.put (i : Int) ⟨l.take k, 0, false⟩) ∧ Kept F w wr)
  case atStart => exact ⟨0, f, col, zs, by omega, by omega, rfl, by rw [HST.out]; exact HH.out.gro, Kept.refl _ _⟩
  case round =>
    obtain ⟨k, f, col, zs, hk, hq, rfl, hr, hkk⟩ := hrel
    have HQ := Lib.hid hq
    have HR := Lib.hid hr
    have HK := Lib.hid hkk
    have HIS : Hid ((S.put (i : Int) ⟨l.take k, 0, false⟩).is (i : Int) = true) := Lib.hid (by rw [put_is]; exact HI.out)
    have HZN : Hid ((S.put (i : Int) ⟨l.take k, 0, false⟩).zone (i : Int) = ⟨l.take k, 0, false⟩) := Lib.hid (put_zone_at HI.out _)
    obtain ⟨v, _, _, k2, ⟨vs2, hrow2, hown2, hvl2, hxs2⟩, hlz, _, _, _, hz2⟩ := hr.zone i HIS.out
    obtain ⟨B, cp, rfl⟩ : ∃ B cp, v = .slice B k cp := by
      obtain ⟨B, cp, e, _⟩ := hrow2.out
      refine ⟨B, cp, ?_⟩
      rw [e, hvl2, HZN.out]
      simp only [List.length_take, HN.out]
      rw [Nat.min_eq_left hk]
    have HV2 : Hid (vs2.length = k) := Lib.hid (by rw [hvl2, HZN.out]; simp only [List.length_take, HN.out]; omega)
    have HZB : Hid (zb < wr.heap.size) := Lib.hid (lt_of_block hr.blk)
    by_cases hlt : k < n
    · have hkl : k < l.length := by rw [HN.out]; exact hlt
      have hkv : k < vs.length := by rw [HVL.out]; exact hlt
      obtain ⟨bb, oo, rfl, hbl, hcell⟩ := (HROW.out.1.keep hkk (HROW.out.2.1.mono (fun _ x => x.1))) (by omega)
      have ck := hcell k hkv
      have hbx := (HROW.out.2.2.2 k hkv hkl).keep hkk (fun j x => x.1)
      obtain ⟨A1, c1, e1, hc1, hr1, hi1, h01⟩ := hbx
      clear hi1
      rw [e1] at ck
      obtain ⟨x, hxl⟩ : ∃ x, l[k] = x := ⟨_, rfl⟩
      rw [hxl] at ck hc1 hr1
      obtain ⟨nx, hnx⟩ : ∃ nx, x.length = nx := ⟨_, rfl⟩
      rw [hnx] at ck hc1
      have HTK : Hid (l.take (k + 1) = l.take k ++ [x]) := Lib.hid (by rw [List.take_succ_eq_append_getElem hkl, hxl])
      have HX1 : Hid (x.length = nx ∧ Rd wr.drew wr.drew.heap.size A1 x ∧ (A1 = none → c1 = 0)) := Lib.hid ⟨hnx, hr1, h01⟩
      have hnxb : nx ≤ 33 := by
        have := (HOK.out x (by rw [← hxl]; exact List.getElem_mem hkl)).1
        omega
      have HROW2 := Lib.hid hrow2
      have HS : Hid (∀ u, Below wr.heap.size wr u → u.cell? ⟨zb, i * 3 + 2, none⟩ = some (.slice B k cp)) := Lib.hid (fun u hu => (hu.cell (p := ⟨zb, i * 3 + 2, none⟩) HZB.out).trans k2)
      have HEND : Hid (∀ u u' x' g gc w5, Below wr.heap.size wr u → BytF (fun j => wr.heap.size ≤ j ∧ j < u.heap.size) u x' x → OwnG u' 0 61 g gc (vs2 ++ [x']) → u.grownBy u' (Value.slice B k cp).ownBlock → ((Value.slice B k cp).ownBlock = some g ∨ g = u.heap.size) →
          u'.setCell ⟨zb, i * 3 + 2, none⟩ (.slice (some ⟨g, 0, none⟩) (k + 1) gc) = w5 → (∃ f col zs, LD (grow F w w5) w5 db zb cap f col zs (S.put (i : Int) ⟨l.take (k + 1), 0, false⟩)) ∧ Kept F w w5) := Lib.hid (fun u u' x' g gc w5 hb hx' hO hg hgg hw5 => by
        have hwf := HWF.out (k + 1)
        have e : (S.put (i : Int) ⟨l.take k, 0, false⟩).put (i : Int) { (S.put (i : Int) ⟨l.take k, 0, false⟩).zone (i : Int) with pages := ((S.put (i : Int) ⟨l.take k, 0, false⟩).zone (i : Int)).pages ++ [x] } = S.put (i : Int) ⟨l.take (k + 1), 0, false⟩ := by
          rw [put_put, HZN.out, HTK.out]
        have ha := HR.out.appended HIS.out hz2 hrow2 hown2 hvl2 hxs2 hb hx' hO hg hgg (by rw [e]; exact hwf)
        rw [e, HV2.out, hw5] at ha
        exact ⟨⟨_, _, _, ha.1.rounds HK.out.size ha.2.size⟩, HK.out.trans ha.2⟩)
      have HGR : Hid (∀ u u' : World, Below wr.heap.size wr u → u.grownBy u' (Value.slice B k cp).ownBlock → u'.cell? ⟨zb, i * 3 + 2, none⟩ = some (.slice B k cp) ∧ u'.frozen? ⟨zb, i * 3 + 2, none⟩ = false) := Lib.hid (fun u u' hb hg => by
        have hbz : Blk u' zb 119 zs := ((hg.block zb (Nat.lt_of_lt_of_le HZB.out hb.size) (fun e => (hown2 zb e.symm).1.2.2 rfl)).trans (hb.block zb HZB.out)).trans HR.out.blk
        refine ⟨?_, hbz.free _⟩
        have := hbz.cell (i * 3 + 2) hlz
        rw [this]
        have h2 := HR.out.blk.cell (i * 3 + 2) hlz
        rw [k2] at h2
        exact h2.symm)
      clear hq hr hkk hown2 hvl2 hxs2 hz2 hrow2 hcell e1 hxl hnx hr1 hlz hkv hkl
      go_wp2_with fail
      refine wp_region_parts (S := fun u => u.cell? ⟨zb, i * 3 + 2, none⟩ = some (.slice B k cp)) 9 3 _ (by kernel_rfl) (by kernel_rfl) (by rfl) (by simp only [List.take_succ_cons, List.take_zero]; rfl) ?_ (fun hHeld => ?_)
      · exact HS.out _ (Below.refl _ _).drew
      refine wpAnyH_take (i := 0) (v := ?_) rfl (by kernel_rfl) (by kernel_rfl) (by kernel_rfl) (fun _ _ _ h => h) (Or.inl ⟨by rfl, ?_⟩) (by assumption) ?_
      rotate_left
      · intro u hSu
        try dsimp only at hSu
        go_simp
        try with_reducible rfl
      simp only [Act.put, List.setIfInBounds_toArray]
      refine wpAnyH_take (i := 1) (v := ?_) rfl (by kernel_rfl) (by kernel_rfl) (by kernel_rfl) (fun _ _ _ h => h) (Or.inl ⟨by rfl, ?_⟩) (by assumption) ?_
      rotate_left
      · intro u hSu
        try dsimp only at hSu
        go_simp
        try with_reducible rfl
      simp only [Act.put]
      refine wpAnyH_take (i := 2) (v := ?_) rfl (by kernel_rfl) (by kernel_rfl) (by kernel_rfl) (fun _ _ _ h => h) (Or.inl ⟨by rfl, ?_⟩) (by assumption) ?_
      rotate_left
      · intro u hSu
        try dsimp only at hSu
        go_simp
        try with_reducible rfl
      simp only [Act.put]
      refine wpAnyH_take (i := 3) (v := ?_) rfl (by kernel_rfl) (by kernel_rfl) (by kernel_rfl) (fun _ _ _ h => h) (Or.inl ⟨by rfl, ?_⟩) (by assumption) ?_
      rotate_left
      · intro u hSu
        try dsimp only at hSu
        go_simp
        try with_reducible rfl
      simp only [Act.put]
      refine wpAnyH_take (i := 4) (v := ?_) rfl (by kernel_rfl) (by kernel_rfl) (by kernel_rfl) (fun _ _ _ h => h) (Or.inl ⟨by rfl, ?_⟩) (by assumption) ?_
      rotate_left
      · intro u hSu
        try dsimp only at hSu
        go_simp
        try with_reducible rfl
      simp only [Act.put]
      refine wpAnyH_take (i := 5) (v := ?_) rfl (by kernel_rfl) (by kernel_rfl) (by kernel_rfl) (fun _ _ _ h => h) (Or.inl ⟨by rfl, ?_⟩) (by assumption) ?_
      rotate_left
      · intro u hSu
        try dsimp only at hSu
        go_simp
        try with_reducible rfl
      simp only [Act.put]
      refine wpAnyH_ready (rs := [6]) (by kernel_rfl) (by simp) ?_
      refine (AllReadyH.cons rfl (fun K hK => ?_) AllReadyH.nil)
      go_simp
      refine (lclone_at HX1.out.1 HX1.out.2.1 HX1.out.2.2 (by omega)).mono ?_
      rintro r w2 ⟨x', rfl, hx', hb2⟩
      obtain ⟨A2, c2, rfl⟩ : ∃ A2 c2, x' = .slice A2 nx c2 := by
        obtain ⟨A2, c2, e, _⟩ := hx'
        exact ⟨A2, c2, by rw [e, HX1.out.1]⟩
      have HB2 : Hid (Below wr.heap.size wr w2) := Lib.hid ((Below.refl wr.heap.size wr).drew.trans hb2)
      have HB3 : Hid (Below wr.heap.size wr (w2.alloc (.cells #[.slice A2 nx c2] 61))) := Lib.hid (HB2.out.alloc HB2.out.size _)
      have HC3 : Hid ((w2.alloc (.cells #[.slice A2 nx c2] 61)).cell? ⟨w2.heap.size, 0, none⟩ = some (.slice A2 nx c2)) := Lib.hid (box_cell w2 (.slice A2 nx c2) 61)
      have HX3 : Hid (BytF (fun j => wr.heap.size ≤ j ∧ j < (w2.alloc (.cells #[.slice A2 nx c2] 61)).heap.size) (w2.alloc (.cells #[.slice A2 nx c2] 61)) (.slice A2 nx c2) x) := Lib.hid (((show BytF (fun j => wr.heap.size ≤ j ∧ j < w2.heap.size) w2 (.slice A2 nx c2) x from hx').up (Below.alloc (Below.refl _ _) (Nat.le_refl _) _)).mono (fun j hj => ⟨hj.1, by rw [World.size_alloc]; omega⟩))
      have HR3 : Hid (RowV (w2.alloc (.cells #[.slice A2 nx c2] 61)) 0 61 (.slice B k cp) vs2) := Lib.hid (HROW2.out.rise HB3.out)
      clear hx' hb2
      refine hK.out _ _ ?_ (fun hHeld => ?_)
      · exact HS.out _ HB2.out
      clear hK K
      try simp only [Act.put, List.setIfInBounds_toArray, List.set_cons_zero, List.set_cons_succ]
      refine wpAnyH_ready (rs := [7]) (by kernel_rfl) (by simp) ?_
      refine (AllReadyH.cons rfl (fun K hK => ?_) AllReadyH.nil)
      go_simp
      refine hK.out _ _ ?_ (fun hHeld => ?_)
      · exact HS.out _ HB3.out
      clear hK K
      try simp only [Act.put, List.setIfInBounds_toArray, List.set_cons_zero, List.set_cons_succ]
      refine wpAnyH_ready (rs := [8]) (by kernel_rfl) (by simp) ?_
      refine (AllReadyH.cons rfl (fun K hK => ?_) AllReadyH.nil)
      (refine stepL (w2.alloc (.cells #[.slice A2 nx c2] 61)) (by rfl) (.tmp 16) (.tmp 19) (by rfl) k 1 w2.heap.size (.slice B k cp) (.slice A2 nx c2) vs2 (by rfl) HR3.out HV2.out (by rfl) HC3.out rfl (by omega) ?_; intro g gc w4 hO hg hgg hgl; obtain ⟨g2, g3⟩ := HGR.out _ _ HB3.out hg; obtain ⟨w5, hw5⟩ : ∃ w5, w4.setCell ⟨zb, i * 3 + 2, none⟩ (.slice (some ⟨g, 0, none⟩) (k + 1) gc) = w5 := ⟨_, rfl⟩; have HE := Lib.hid (HEND.out _ _ _ _ _ _ HB3.out HX3.out hO hg hgg hw5); clear hO hg hgg)
      refine hK.out _ _ ?_ (fun hHeld => ?_)
      · exact g2
      clear hK K
      try simp only [Act.put, List.setIfInBounds_toArray]
      refine wpAnyH_done (by kernel_rfl) ?_ _
      show wpAny _ _ _ _ 3 _ _ _
      refine wpAny_take (i := 9) (v := ?_) rfl (by kernel_rfl) (by kernel_rfl) (by kernel_rfl) (fun _ _ _ h => h) (Or.inl ⟨by rfl, ?_⟩) ?_
      rotate_left
      · intro u
        go_simp
        try with_reducible rfl
      simp only [Act.put]
      refine wpAny_take (i := 10) (v := ?_) rfl (by kernel_rfl) (by kernel_rfl) (by kernel_rfl) (fun _ _ _ h => h) (Or.inl ⟨by rfl, ?_⟩) ?_
      rotate_left
      · intro u
        go_simp
        try with_reducible rfl
      simp only [Act.put]
      refine wpAny_ready (rs := [11]) (by kernel_rfl) (by simp) ?_
      refine AllReady.cons rfl (fun K hK => ?_) AllReady.nil
      go_simp
      refine hK _ _ ?_
      clear hK K
      refine wpAny_done (by kernel_rfl) ?_ _
      clear hw5 g2 g3 hHeld
      obtain ⟨⟨f5, col5, zs5, hl5⟩, hk5⟩ := HE.out
      go_wp2_with fail
      go_roundg (n - (k + 1))
      case rel => exact ⟨k + 1, f5, col5, zs5, by omega, rfl, by go_num, hl5, hk5⟩
      case measure => have := HQ.out; omega
    · obtain rfl : k = n := by omega
      have f0 := hr.blk.free (i * 3)
      have k0 := hr.blk.cell (i * 3) (by omega)
      have HSU := Lib.hid (hr.sured (n := k) HIS.out (by rw [HZN.out]; simp only [List.length_take, HN.out]; omega))
      have HEQ : Hid ((S.put (i : Int) ⟨l.take k, 0, false⟩).put (i : Int) { (S.put (i : Int) ⟨l.take k, 0, false⟩).zone (i : Int) with sure := k } = S.put (i : Int) (loadZ l)) := Lib.hid (by
        rw [put_put, HZN.out, List.take_of_length_le (by rw [HN.out]; omega)]
        unfold loadZ
        rw [HN.out])
      rw [HEQ.out] at HSU
      clear HEQ hq hr hkk hown2 hvl2 hxs2 hz2 hrow2
      go_wp2_with fail
      go_end0
      exact ⟨rfl, ⟨_, _, _, HSU.out.1.rounds HK.out.size HSU.out.2.size⟩, HK.out.trans HSU.out.2⟩
end
end Go.Proofs.YthmpimjmajoimaaGreatDoor
namespace Go.Proofs.YthmpimjmajoimaaGreatDoor
open Go.RowKit

theorem rows_rdR {F : Nat → Prop} {w : World} {vs : List Value} {l : List (List Int)} (hl : vs.length = l.length) (hx : ∀ i (h : i < vs.length) (h2 : i < l.length), BytF F w vs[i] l[i]) : RdR w vs l :=
  ⟨hl, fun i h1 h2 => by obtain ⟨A, c, e, hc, hr, _⟩ := hx i h1 h2; exact ⟨A, c, e, hc, hr⟩⟩
theorem zone_parts {p : Nat} {z : List (List Int)} : zoneOk p z = (decide (z.length ≤ p) && z.all pageOk) := rfl
theorem loadTo_P (n p : Nat) (l : List (List (List Int))) (i : Nat) : (loadTo n p l i).P = p := rfl
set_option maxHeartbeats 4000000 in
set_option maxRecDepth 100000 in
theorem lload_yes {w : World} (p n lb lo c : Nat) (ls : List Value) (l : List (List (List Int))) (hl : l.length = n) (hrv : RdV w w.heap.size (some ⟨lb, lo, none⟩) ls) (hls : ls.length = n) (hx : ∀ i (h : i < ls.length) (h2 : i < l.length), RowsF (fun k => k < w.heap.size) w ls[i] l[i]) (hby : ∀ z ∈ l, ∀ b ∈ z, Byt b) (hz30 : ∀ z ∈ l, z.length ≤ 30)
    (hn : 1 ≤ n) (hn2 : n ≤ 24) (hp : 1 ≤ p) (hp2 : p ≤ 16) : Calls Tryz.prog 25 #[.int .i64 (p : Int), .slice (some ⟨lb, lo, none⟩) n c] w (ZMade LDev (loadD (p : Int) l) w) := by
  have HL := Lib.hid (And.intro hl (And.intro hrv (And.intro hls (And.intro hx (And.intro hby hz30)))))
  have HN := Lib.hid (And.intro hn (And.intro hn2 (And.intro hp hp2)))
  clear hl hrv hls hx hby hz30
  go_enter Tryz.func25, Tryz.ntmps25
  go_wp2_with fail
  refine (lnew_yes n p hn hn2 hp hp2).mono ?_
  rintro r w1 ⟨db, zb, cap, f, col, zs, rfl, h1, hb⟩
  have H1 := Lib.hid h1
  have HB := Lib.hid hb
  clear h1 hb hn hp
  go_wp2_with fail
  go_loopg [22] n (fun q x wr => ∃ (i : Nat) (f : Int) (col : Nat → Nat) (zs : List Value), i ≤ n ∧ q = n - i ∧ x = .int .i64 i ∧ LD (fun k => w.heap.size ≤ k ∧ k < wr.heap.size) wr db zb cap f col zs (loadTo n p l i) ∧ Below w.heap.size w wr ∧ ∀ j (h : j < l.length), j < i → zoneOk p l[j] = true)
  case atStart => exact ⟨0, f, col, zs, by omega, by omega, rfl, by rw [loadTo_zero]; exact H1.out, HB.out, fun j _ h => absurd h (by omega)⟩
  case round =>
    obtain ⟨i, f, col, zs, hi, hq, rfl, hr, hb, hok⟩ := hrel
    have HQ := Lib.hid hq
    have HR := Lib.hid hr
    have HBR := Lib.hid hb
    have HOK := Lib.hid hok
    by_cases hlt : i < n
    · have hil : i < l.length := by rw [HL.out.1]; exact hlt
      have his : i < ls.length := by rw [HL.out.2.2.1]; exact hlt
      have c0 := hr.c0
      rw [loadTo_len] at c0
      obtain ⟨b', o', e', hlb, hcell⟩ := HL.out.2.1 (by omega)
      injection e' with e'
      injection e' with e1 e2
      subst e1 e2
      have ck := (hb.cell (p := ⟨lb, lo + i, none⟩) hlb).trans (hcell i his)
      have hrow := (HL.out.2.2.2.1 i his hil).up hb
      obtain ⟨z, hz⟩ : ∃ z, l[i] = z := ⟨_, rfl⟩
      rw [hz] at hrow
      have hzm : z ∈ l := by rw [← hz]; exact List.getElem_mem hil
      obtain ⟨A, cz, vs, ev, hcz, hrv, hin, hA0, hvl, hxx⟩ := hrow.out
      rw [ev] at ck hrow
      obtain ⟨m, hm⟩ : ∃ m, z.length = m := ⟨_, rfl⟩
      have hm30 : m ≤ 30 := by rw [← hm]; exact HL.out.2.2.2.2.2 z hzm
      have HZ := Lib.hid (And.intro hz (And.intro hzm hm))
      rw [hm] at ck hcz
      have HROW : Hid (RowsF (fun k => ¬ (w.heap.size ≤ k ∧ k < wr.heap.size) ∧ k < wr.heap.size) wr (.slice A m cz) z) := Lib.hid (by
        rw [hm] at hrow
        exact hrow.mono (fun k hk => ⟨fun e => by omega, Nat.lt_of_lt_of_le hk hb.size⟩))
      have HRD := Lib.hid (And.intro hrv (rows_rdR hvl hxx))
      have HNO : Hid (zoneOk p z = false → loadD (p : Int) l = none) := Lib.hid (fun e => load_none hil (by rw [hz]; exact e))
      have HIS : Hid ((loadTo n p l i).is (i : Int) = true) := Lib.hid (loadTo_is hlt)
      have HEM : Hid ((loadTo n p l i).zone (i : Int) = ZoneS.empty) := Lib.hid (loadTo_get hlt)
      have HPUT : Hid ((loadTo n p l i).put (i : Int) (loadZ z) = loadTo n p l (i + 1)) := Lib.hid (by
        rw [← loadTo_put, List.getD_eq_getElem?_getD, List.getElem?_eq_getElem hil]
        simp only [Option.getD_some, hz])
      have hin1 : (i : Int) < (n : Int) := by omega
      have hin0 : (0 : Int) ≤ (i : Int) := by omega
      clear hq hr hb hok hcell hrow hz hzm ev hrv hin hA0 hvl hxx hm his
      by_cases hpm : p < m
      · have HD : Hid (loadD (p : Int) l = none) := Lib.hid (HNO.out (by rw [zone_parts]; have := HZ.out.2.2; simp; intro h; omega))
        have d1 : decide ((p : Int) < (m : Int)) = true := by simpa using hpm
        go_wp2_with fail
        go_ret2
        rw [HD.out]
        exact ⟨by rw [errV_1]; rfl, HBR.out⟩
      · have d1 : decide ((p : Int) < (m : Int)) = false := by simpa using hpm
        have hpm2 : m ≤ p := by omega
        go_wp2_with fail
        refine (lcontains_at HZ.out.2.2 HRD.out.1 HRD.out.2 (by omega)).mono ?_
        rintro r w' ⟨rfl, rfl⟩
        cases hall : z.all pageOk
        · have HD : Hid (loadD (p : Int) l = none) := Lib.hid (HNO.out (by rw [zone_parts, hall]; simp))
          clear hall
          go_wp2_with fail
          go_ret2
          rw [HD.out]
          exact ⟨by rw [errV_1]; rfl, HBR.out⟩
        · have HGO : Hid (zoneOk p z = true) := Lib.hid (by rw [zone_parts, hall, HZ.out.2.2]; simpa using hpm2)
          clear hall
          go_wp2_with fail
          refine (lload_at i _ z HR.out HIS.out HEM.out HROW.out (by rw [loadTo_P, HZ.out.2.2]; exact hpm2) (fun b hb => ⟨(zone_ok HGO.out).2 b hb, HL.out.2.2.2.2.1 z HZ.out.2.1 b hb⟩)).mono ?_
          rintro r w5 ⟨rfl, ⟨f5, col5, zs5, hl5⟩, hk5⟩
          rw [HPUT.out] at hl5
          have HL5 := Lib.hid hl5
          have HK5 := Lib.hid hk5
          clear hl5 hk5
          go_wp2_with fail
          go_roundg (n - (i + 1))
          case rel =>
            refine ⟨i + 1, f5, col5, zs5, by omega, rfl, by go_num, HL5.out.mono (fun k hk => ?_) (fun k hk => hk.2), HBR.out.trans (HK5.out.below HBR.out.size (fun k hk => hk.1)), fun j h hj => ?_⟩
            · have := HK5.out.size
              have := HBR.out.size
              rcases hk with hk | hk <;> omega
            · by_cases e : j = i
              · subst e
                rw [HZ.out.1]
                exact HGO.out
              · exact HOK.out j h (by omega)
          case measure => have := HQ.out; omega
    · obtain rfl : i = n := by omega
      have HD : Hid (loadD (p : Int) l = some (loadTo i p l i)) := Lib.hid (by
        unfold loadD
        have h1 := HL.out.1
        have h2 := HN.out
        rw [if_pos ⟨by omega, List.all_eq_true.2 (fun z hz => by
          obtain ⟨j, hj, rfl⟩ := List.getElem_of_mem hz
          rw [Int.toNat_natCast]
          exact HOK.out j hj (by omega))⟩, Int.toNat_natCast, HL.out.1])
      clear hq hr hb hok
      go_wp2_with fail
      go_ret2
      rw [HD.out]
      exact ⟨db, rfl, ⟨zb, cap, f, col, zs, HR.out⟩, HBR.out⟩
theorem lload_dev {w : World} (p : Int) (v : Value) (l : List (List (List Int))) (h : Rows3 w v l) (hby : ∀ z ∈ l, ∀ b ∈ z, Byt b) (hz30 : ∀ z ∈ l, z.length ≤ 30) : Calls Tryz.prog 25 #[.int .i64 p, v] w (ZMade LDev (loadD p l) w) := by
  obtain ⟨A, c, vs, rfl, hc, hr, hA, hvl, hx⟩ := h
  by_cases hN : 1 ≤ (l.length : Int) ∧ (l.length : Int) ≤ 24 ∧ 1 ≤ p ∧ p ≤ 16
  · obtain ⟨q, rfl⟩ := Int.eq_ofNat_of_zero_le (show 0 ≤ p by omega)
    obtain ⟨b, o, rfl, hlt, _⟩ := hr (by omega)
    exact lload_yes q l.length b o c vs l rfl hr hvl hx hby hz30 (by omega) (by omega) (by omega) (by omega)
  · have HD : Hid (loadD p l = none) := Lib.hid (by
      unfold loadD
      rw [if_neg]
      rintro ⟨h2, _⟩
      exact hN (by omega))
    have HN := Lib.hid hN
    clear hc hr hA hvl hx hN hby hz30
    go_enter Tryz.func25, Tryz.ntmps25
    go_wp2_with fail
    refine (lnew_no _ p HN.out).mono ?_
    rintro r w1 ⟨rfl, hb⟩
    have HB := Lib.hid hb
    rw [errV_1]
    clear hb
    go_wp2_with fail
    go_ret2
    rw [HD.out]
    exact ⟨by rw [errV_1]; rfl, HB.out⟩
end Go.Proofs.YthmpimjmajoimaaGreatDoor
namespace Go.Proofs.YthmpimjmajoimaaGreatDoor
open Go.RowKit

end Go.Proofs.YthmpimjmajoimaaGreatDoor

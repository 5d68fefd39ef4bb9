/-
  The document's device: Load.
-/
import Derived.Test.YthmpimjmajoimaaGreatDoorSr05
namespace Go.Proofs.YthmpimjmajoimaaGreatDoor
open Go.RowKit

theorem blk_cell {w : World} {g : Nat} {T : TypeId} {cs : List Value} (h : Blk w g T cs) (k : Nat) (v : Value) (hv : cs[k]? = some v) : w.cell? ⟨g, k, none⟩ = some v := by
  obtain ⟨hk, rfl⟩ := List.getElem?_eq_some_iff.1 hv
  exact h.cell k hk
theorem load_none {p : Nat} {l : List (List (List Int))} {i : Nat} (h : i < l.length) (hz : zoneOk p l[i] = false) : loadD (p : Int) l = none := by
  unfold loadD
  rw [if_neg]
  rintro ⟨_, h2⟩
  have := List.all_eq_true.1 h2 l[i] (List.getElem_mem h)
  rw [Int.toNat_natCast, hz] at this
  exact absurd this (by decide)
theorem zone_bad {p : Nat} {z : List (List Int)} (h : p < z.length ∨ ∃ k, ∃ h : k < z.length, pageOk z[k] = false) : zoneOk p z = false := by
  cases hz : zoneOk p z with
  | false => rfl
  | true =>
    simp only [zoneOk, Bool.and_eq_true, decide_eq_true_eq, List.all_eq_true] at hz
    rcases h with h | ⟨k, hk, h⟩
    · omega
    · have := hz.2 _ (List.getElem_mem hk)
      rw [h] at this
      exact absurd this (by decide)
theorem zone_good {p : Nat} {z : List (List Int)} (h1 : z.length ≤ p) (h2 : ∀ k (h : k < z.length), pageOk z[k] = true) : zoneOk p z = true := by
  simp only [zoneOk, Bool.and_eq_true, decide_eq_true_eq, List.all_eq_true]
  refine ⟨h1, fun b hb => ?_⟩
  obtain ⟨k, hk, rfl⟩ := List.getElem_of_mem hb
  exact h2 k hk
set_option maxHeartbeats 4000000 in
set_option maxRecDepth 100000 in
theorem rload_yes {w : World} (p n lb lo c : Nat) (ls : List Value) (l : List (List (List Int))) (hl : l.length = n) (hc : n ≤ c) (hrv : RdV w w.heap.size (some ⟨lb, lo, none⟩) ls) (hlb : lb < w.heap.size) (hls : ls.length = n) (hx : ∀ i (h : i < ls.length) (h2 : i < l.length), RowsF (fun k => k < w.heap.size) w ls[i] l[i]) (hby : ∀ z ∈ l, ∀ b ∈ z, Byt b)
    (hn1 : 1 ≤ n) (hn2 : n ≤ 24) (hp1 : 1 ≤ p) (hp2 : p ≤ 16) : Calls Tryz.prog 26 #[.int .i64 (p : Int), .slice (some ⟨lb, lo, none⟩) n c] w (MadeIs (loadD (p : Int) l) w) := by
  have HNP := Lib.hid (And.intro (And.intro hn1 hn2) (And.intro hp1 hp2))
  have HIN := Lib.hid (And.intro hl (And.intro hrv (And.intro hls (And.intro hx (And.intro hby hlb)))))
  clear hl hrv hls hx hby hlb hp1 hn1
  go_enter Tryz.func26, Tryz.ntmps26
  go_wp2_with fail
  refine (rnew_yes n p HNP.out.1.1 HNP.out.1.2 HNP.out.2.1 HNP.out.2.2).mono ?_
  rintro r w1 ⟨db, zb, cap, zs0, rfl, hrd, hnil, hb⟩
  have H1 := Lib.hid hrd
  have HNIL := Lib.hid hnil
  have HB := Lib.hid hb
  clear hrd hnil hb
  go_wp2_with fail
  go_loopg [8] n (fun q x wr => ∃ (i : Nat) (zs : List Value), i ≤ n ∧ q = n - i ∧ x = .int .i64 i ∧ RD (fun k => w.heap.size ≤ k ∧ k < wr.heap.size) wr db zb cap zs (loadTo n p l i) ∧ (∀ k, i ≤ k → k < n → zs[k * 3]? = some (.slice none 0 0)) ∧ (∀ j (h : j < l.length), j < i → zoneOk p l[j] = true) ∧ Below w.heap.size w wr)
  case atStart => exact ⟨0, zs0, by omega, by omega, rfl, by rw [loadTo_zero]; exact H1.out, fun k _ h => HNIL.out k h, fun j _ h => absurd h (by omega), HB.out⟩
  case round =>
    clear H1 HNIL HB
    obtain ⟨i, zs, hi, hq, rfl, hr, hnil, hok, hb⟩ := hrel
    obtain ⟨wo, hwo⟩ : ∃ wo, wo = wr := ⟨_, rfl⟩
    subst hwo
    have HQ := Lib.hid hq
    have H1 := Lib.hid hr
    have HNIL := Lib.hid hnil
    have HOK := Lib.hid hok
    have HB := Lib.hid hb
    clear hq hr hnil hok hb
    by_cases hlt : i < n
    · obtain ⟨lc, hlc, hcell⟩ : ∃ lc, ls[i]? = some lc ∧ w.cell? ⟨lb, lo + i, none⟩ = some lc := by
        obtain ⟨b, o, e, _, hcl⟩ := HIN.out.2.1 (by rw [HIN.out.2.2.1]; omega)
        have e := Option.some.inj e
        injection e with e1 e2 _
        subst e1 e2
        have hil : i < ls.length := by rw [HIN.out.2.2.1]; exact hlt
        exact ⟨ls[i], List.getElem?_eq_getElem hil, hcl i hil⟩
      obtain ⟨hils, rfl⟩ := List.getElem?_eq_some_iff.1 hlc
      have hill : i < l.length := by rw [HIN.out.1]; exact hlt
      obtain ⟨z, hz⟩ : ∃ z, l[i] = z := ⟨_, rfl⟩
      obtain ⟨B, Bc, ws, hlv, hBc, hbr, _, hB0, hwl, hwx⟩ := (HIN.out.2.2.2.1 i hils hill).out
      rw [hz] at hlv hBc hwl hwx
      obtain ⟨zl, hzl⟩ : ∃ zl, z.length = zl := ⟨_, rfl⟩
      rw [hzl] at hlv hBc
      rw [hlv] at hcell
      have HZ := Lib.hid (And.intro hz (And.intro hzl (And.intro hbr (And.intro hwl hwx))))
      have HBL := HIN.out.2.2.2.2.2
      have kl0 : wo.cell? ⟨lb, lo + i, none⟩ = some (.slice B zl Bc) := (HB.out.cell (p := ⟨lb, lo + i, none⟩) HBL).trans hcell
      have HLC := Lib.hid hcell
      clear hlc hbr hwl hwx hlv hcell hzl hB0 hz HBL
      by_cases hpz : p < zl
      · have HD : Hid (loadD (p : Int) l = none) := Lib.hid (load_none hill (zone_bad (.inl (by rw [HZ.out.1, HZ.out.2.1]; exact hpz))))
        have qp : decide ((p : Int) < (zl : Int)) = true := by simp; omega
        go_wp2_with fail
        go_ret2
        rw [HD.out]
        exact ⟨rfl, HB.out⟩
      · have hzb : zl ≤ 16 := by have := HNP.out.2.2; omega
        have qp : decide ((p : Int) < (zl : Int)) = false := by simp; omega
        have hdbw := lt_of_block H1.out.dev
        have hzbw := lt_of_block H1.out.blk
        have hzbr := H1.out.fz.1
        have hdbr := H1.out.fd.1
        have c0 := H1.out.c0
        rw [loadTo_len] at c0
        have hzi := zrow_len H1.out.room H1.out.len (i := i) (by rw [loadTo_len]; exact hlt)
        have f0 := H1.out.blk.free (i * 3)
        have f1 := H1.out.blk.free (i * 3 + 1)
        go_wp2_with fail
        go_loopg [9] zl (fun q x wr => ∃ (k : Nat) (v : Value) (vs' : List Value), k ≤ zl ∧ q = zl - k ∧ x = .int .i64 k ∧ LZ wo wr zb i zs v vs' (z.take k) ∧ (∀ j (h : j < z.length), j < k → pageOk z[j] = true))
        case atStart => exact ⟨0, .slice none 0 0, [], by omega, by omega, rfl, LZ.start H1.out.blk (HNIL.out i (by omega) hlt), fun j _ h => absurd h (by omega)⟩
        case round =>
          obtain ⟨k, v, vs', hk, hq2, rfl, hlz, hpk⟩ := hrel
          have HQ2 := Lib.hid hq2
          have HLZ := Lib.hid hlz
          have HPK0 := Lib.hid hpk
          have d0 : wr.cell? ⟨db, 0, none⟩ = some (.slice (some ⟨zb, 0, none⟩) n cap) := hlz.kept.cell c0 H1.out.ne
          have kl1 : wr.cell? ⟨lb, lo + i, none⟩ = some (.slice B zl Bc) := hlz.kept.cell kl0 (by have := HIN.out.2.2.2.2.2; simp only; omega)
          clear hq2 hlz hpk
          by_cases hkz : k < zl
          · have hkzl : k < z.length := by rw [HZ.out.2.1]; exact hkz
            have hkws : k < ws.length := by rw [HZ.out.2.2.2.1]; exact hkzl
            obtain ⟨rb, ro, rfl, hrb, hrc⟩ := HZ.out.2.2.1 (by omega)
            have hwc := hrc k hkws
            obtain ⟨XA, Xc, hxv, hxc, hxr, _, hx0⟩ := HZ.out.2.2.2.2 k hkws hkzl
            rw [hxv] at hwc
            obtain ⟨x, hx⟩ : ∃ x, z[k] = x := ⟨_, rfl⟩
            rw [hx] at hwc hxc hxr
            obtain ⟨xl, hxl⟩ : ∃ xl, x.length = xl := ⟨_, rfl⟩
            rw [hxl] at hwc hxc
            have hsw : w.heap.size ≤ wo.heap.size := HB.out.size
            have hrb' : ¬ rb = zb := by omega
            have kr1 : wr.cell? ⟨rb, ro + k, none⟩ = some (.slice XA xl Xc) := HLZ.out.kept.cell ((HB.out.cell (p := ⟨rb, ro + k, none⟩) hrb).trans hwc) hrb'
            have HX0 := Lib.hid hx0
            have HXE := Lib.hid (And.intro hx hxl)
            have HXR : Hid (Rd wr wr.heap.size XA x) := Lib.hid (fun hp => by
              obtain ⟨b, o, e, hlt', hc'⟩ := hxr hp
              have hbz : ¬ b = zb := by omega
              exact ⟨b, o, e, Nat.lt_of_lt_of_le hlt' (Nat.le_trans HB.out.size HLZ.out.kept.size), fun j hj => HLZ.out.kept.cell ((HB.out.cell (p := ⟨b, o + j, none⟩) hlt').trans (hc' j hj)) hbz⟩)
            clear hxv hx hxl hx0 hxr hrc hwc
            by_cases hpo : xl = 0 ∨ xl = 33
            · have HPO : Hid (pageOk x = true) := Lib.hid (by simp only [pageOk, HXE.out.2]; simpa using hpo)
              have HPK : Hid (∀ j (h : j < z.length), j < k + 1 → pageOk z[j] = true) := Lib.hid (fun j h hj => by
                by_cases e : j = k
                · subst e
                  rw [HXE.out.1]
                  exact HPO.out
                · exact HPK0.out j h (by omega))
              have HTK : Hid (z.take k ++ [x] = z.take (k + 1)) := Lib.hid (by rw [List.take_succ_eq_append_getElem hkzl, HXE.out.1])
              have hvl : vs'.length = k := by rw [HLZ.out.len, List.length_take]; omega
              obtain ⟨V, Vc, rfl⟩ : ∃ V c, v = .slice V k c := by
                obtain ⟨A, c, e, _⟩ := HLZ.out.row.out
                exact ⟨A, c, by rw [e, hvl]⟩
              obtain ⟨G, hG⟩ : ∃ G : Nat → Prop, G = fun j => (Value.slice V k Vc).ownBlock = some j := ⟨_, rfl⟩
              have HG : Hid (∀ j, (Value.slice V k Vc).ownBlock = some j → G j) := Lib.hid (fun j e => by rw [hG]; exact e)
              have HG2 : Hid (∀ j, G j → (Value.slice V k Vc).ownBlock = some j) := Lib.hid (fun j e => by rw [hG] at e; exact e)
              have HGZ : Hid (∀ j, G j → wo.heap.size ≤ j) := Lib.hid (fun j e => (HLZ.out.row.own j (HG2.out j e)).1)
              have HVL := Lib.hid hvl
              have HRV := Lib.hid HLZ.out.row
              have HSZ : Hid (wo.heap.size ≤ wr.heap.size) := Lib.hid HLZ.out.kept.size
              have HZS := Lib.hid hzbw
              have HCL : Hid ((cellsOf8 x).length = xl) := Lib.hid (by rw [cells8_len]; exact HXE.out.2)
              have HXR1 : Hid (RdV (wr.alloc (.cells #[] 5)).drew (wr.alloc (.cells #[] 5)).drew.heap.size XA (cellsOf8 x)) := Lib.hid (HXR.out.rdV.up (Below.alloc (Below.refl _ _) (Nat.le_refl _) _).drew)
              have HRV1 : Hid (RowV (wr.alloc (.cells #[] 5)).drew wo.heap.size 61 (.slice V k Vc) vs') := Lib.hid (HRV.out.rise (Below.alloc (Below.refl _ _) (Nat.le_refl _) _).drew)
              have HE1 : Hid (RowV (wr.alloc (.cells #[] 5)).drew wo.heap.size 5 (.slice (some ⟨wr.heap.size, 0, none⟩) 0 0) []) := Lib.hid (RowV.new wr _ _ HSZ.out)
              have HE1b : Hid (∀ j, (Value.slice (some ⟨wr.heap.size, 0, none⟩) 0 0).ownBlock = some j → wr.heap.size ≤ j) := Lib.hid (fun j e => by simp [Value.ownBlock] at e; omega)
              have HK0 : Hid (Kept G wr wr.drew) := Lib.hid (Kept.refl _ _).drew
              have HK1 : Hid (Kept G wr (wr.alloc (.cells #[] 5)).drew) := Lib.hid ((Kept.refl _ _).alloc _).drew
              have HLBW := Lib.hid HIN.out.2.2.2.2.2
              have K0 : ∀ u, Kept G wr u → u.cell? ⟨db, 0, none⟩ = some (.slice (some ⟨zb, 0, none⟩) n cap) := fun u h => h.cell d0 (fun e => by have := HGZ.out _ e; simp only at this; omega)
              have K1 : ∀ u, Kept G wr u → u.cell? ⟨zb, i * 3, none⟩ = some (.slice V k Vc) := fun u h => h.cell (blk_cell HLZ.out.blk (i * 3) (.slice V k Vc) (by rw [List.getElem?_set_self (by omega)])) (fun e => by have := HGZ.out _ e; simp only at this; omega)
              have K2 : ∀ u, Kept G wr u → u.cell? ⟨lb, lo + i, none⟩ = some (.slice (some ⟨rb, ro, none⟩) zl Bc) := fun u h => h.cell kl1 (fun e => by have := HGZ.out _ e; have := HLBW.out; simp only at *; omega)
              have K3 : ∀ u, Kept G wr u → u.cell? ⟨rb, ro + k, none⟩ = some (.slice XA xl Xc) := fun u h => h.cell kr1 (fun e => by have := HGZ.out _ e; simp only at this; omega)
              have KF : ∀ u, Kept G wr u → u.frozen? ⟨zb, i * 3, none⟩ = false := fun u h => (h.blk HLZ.out.blk (fun e => by have := HGZ.out _ e; omega)).free (i * 3)
              have e1 := K1 _ (Kept.refl G wr)
              have hin : (i : Int) < (n : Int) := by omega
              have hin0 : (0 : Int) ≤ (i : Int) := by omega
              have hkn : (k : Int) < (zl : Int) := by omega
              have hkn0 : (0 : Int) ≤ (k : Int) := by omega
              clear hG hvl HLBW
              rcases hpo with rfl | rfl
              · go_wp2_with fail
                refine wp_region_parts (S := fun u => u.cell? ⟨db, 0, none⟩ = some (.slice (some ⟨zb, 0, none⟩) n cap) ∧ u.cell? ⟨zb, i * 3, none⟩ = some (.slice V k Vc) ∧ u.cell? ⟨lb, lo + i, none⟩ = some (.slice (some ⟨rb, ro, none⟩) zl Bc) ∧ u.cell? ⟨rb, ro + k, none⟩ = some (.slice XA 0 Xc)) 24 3 _ (by kernel_rfl) (by kernel_rfl) (by rfl) (by simp only [List.take_succ_cons, List.take_zero]; rfl) ?_ (fun hHeld => ?_)
                · exact ⟨K0 _ HK0.out, K1 _ HK0.out, K2 _ HK0.out, K3 _ HK0.out⟩
                refine wpAnyH_take (i := 0) (v := ?_) rfl (by kernel_rfl) (by kernel_rfl) (by kernel_rfl) (fun _ _ _ h => h) (Or.inl ⟨by rfl, ?_⟩) (by assumption) ?_
                rotate_left
                · intro u hSu
                  try dsimp only at hSu
                  go_simp
                  try with_reducible rfl
                simp only [Act.put, List.setIfInBounds_toArray]
                refine wpAnyH_take (i := 1) (v := ?_) rfl (by kernel_rfl) (by kernel_rfl) (by kernel_rfl) (fun _ _ _ h => h) (Or.inl ⟨by rfl, ?_⟩) (by assumption) ?_
                rotate_left
                · intro u hSu
                  try dsimp only at hSu
                  go_simp
                  try with_reducible rfl
                simp only [Act.put]
                refine wpAnyH_take (i := 2) (v := ?_) rfl (by kernel_rfl) (by kernel_rfl) (by kernel_rfl) (fun _ _ _ h => h) (Or.inl ⟨by rfl, ?_⟩) (by assumption) ?_
                rotate_left
                · intro u hSu
                  try dsimp only at hSu
                  go_simp
                  try with_reducible rfl
                simp only [Act.put]
                refine wpAnyH_take (i := 3) (v := ?_) rfl (by kernel_rfl) (by kernel_rfl) (by kernel_rfl) (fun _ _ _ h => h) (Or.inl ⟨by rfl, ?_⟩) (by assumption) ?_
                rotate_left
                · intro u hSu
                  try dsimp only at hSu
                  go_simp
                  try with_reducible rfl
                simp only [Act.put]
                refine wpAnyH_take (i := 4) (v := ?_) rfl (by kernel_rfl) (by kernel_rfl) (by kernel_rfl) (fun _ _ _ h => h) (Or.inl ⟨by rfl, ?_⟩) (by assumption) ?_
                rotate_left
                · intro u hSu
                  try dsimp only at hSu
                  go_simp
                  try with_reducible rfl
                simp only [Act.put]
                refine wpAnyH_take (i := 5) (v := ?_) rfl (by kernel_rfl) (by kernel_rfl) (by kernel_rfl) (fun _ _ _ h => h) (Or.inl ⟨by rfl, ?_⟩) (by assumption) ?_
                rotate_left
                · intro u hSu
                  try dsimp only at hSu
                  go_simp
                  try with_reducible rfl
                simp only [Act.put]
                refine wpAnyH_take (i := 6) (v := ?_) rfl (by kernel_rfl) (by kernel_rfl) (by kernel_rfl) (fun _ _ _ h => h) (Or.inl ⟨by rfl, ?_⟩) (by assumption) ?_
                rotate_left
                · intro u hSu
                  try dsimp only at hSu
                  go_simp
                  try with_reducible rfl
                simp only [Act.put]
                refine wpAnyH_take (i := 7) (v := ?_) rfl (by kernel_rfl) (by kernel_rfl) (by kernel_rfl) (fun _ _ _ h => h) (Or.inl ⟨by rfl, ?_⟩) (by assumption) ?_
                rotate_left
                · intro u hSu
                  try dsimp only at hSu
                  go_simp
                  try with_reducible rfl
                simp only [Act.put]
                refine wpAnyH_take (i := 8) (v := ?_) rfl (by kernel_rfl) (by kernel_rfl) (by kernel_rfl) (fun _ _ _ h => h) (Or.inl ⟨by rfl, ?_⟩) (by assumption) ?_
                rotate_left
                · intro u hSu
                  try dsimp only at hSu
                  go_simp
                  try with_reducible rfl
                simp only [Act.put]
                refine wpAnyH_take (i := 9) (v := ?_) rfl (by kernel_rfl) (by kernel_rfl) (by kernel_rfl) (fun _ _ _ h => h) (Or.inl ⟨by rfl, ?_⟩) (by assumption) ?_
                rotate_left
                · intro u hSu
                  try dsimp only at hSu
                  go_simp
                  try with_reducible rfl
                simp only [Act.put]
                refine wpAnyH_take (i := 10) (v := ?_) rfl (by kernel_rfl) (by kernel_rfl) (by kernel_rfl) (fun _ _ _ h => h) (Or.inl ⟨by rfl, ?_⟩) (by assumption) ?_
                rotate_left
                · intro u hSu
                  try dsimp only at hSu
                  go_simp
                  try with_reducible rfl
                simp only [Act.put]
                refine wpAnyH_take (i := 11) (v := ?_) rfl (by kernel_rfl) (by kernel_rfl) (by kernel_rfl) (fun _ _ _ h => h) (Or.inl ⟨by rfl, ?_⟩) (by assumption) ?_
                rotate_left
                · intro u hSu
                  try dsimp only at hSu
                  go_simp
                  try with_reducible rfl
                simp only [Act.put]
                refine wpAnyH_take (i := 12) (v := ?_) rfl (by kernel_rfl) (by kernel_rfl) (by kernel_rfl) (fun _ _ _ h => h) (Or.inl ⟨by rfl, ?_⟩) (by assumption) ?_
                rotate_left
                · intro u hSu
                  try dsimp only at hSu
                  go_simp
                  try with_reducible rfl
                simp only [Act.put]
                refine wpAnyH_take (i := 14) (v := ?_) rfl (by kernel_rfl) (by kernel_rfl) (by kernel_rfl) (fun _ _ _ h => h) (Or.inl ⟨by rfl, ?_⟩) (by assumption) ?_
                rotate_left
                · intro u hSu
                  try dsimp only at hSu
                  go_simp
                  try with_reducible rfl
                simp only [Act.put]
                refine wpAnyH_take (i := 15) (v := ?_) rfl (by kernel_rfl) (by kernel_rfl) (by kernel_rfl) (fun _ _ _ h => h) (Or.inl ⟨by rfl, ?_⟩) (by assumption) ?_
                rotate_left
                · intro u hSu
                  try dsimp only at hSu
                  go_simp
                  try with_reducible rfl
                simp only [Act.put]
                refine wpAnyH_take (i := 16) (v := ?_) rfl (by kernel_rfl) (by kernel_rfl) (by kernel_rfl) (fun _ _ _ h => h) (Or.inl ⟨by rfl, ?_⟩) (by assumption) ?_
                rotate_left
                · intro u hSu
                  try dsimp only at hSu
                  go_simp
                  try with_reducible rfl
                simp only [Act.put]
                refine wpAnyH_take (i := 17) (v := ?_) rfl (by kernel_rfl) (by kernel_rfl) (by kernel_rfl) (fun _ _ _ h => h) (Or.inl ⟨by rfl, ?_⟩) (by assumption) ?_
                rotate_left
                · intro u hSu
                  try dsimp only at hSu
                  go_simp
                  try with_reducible rfl
                simp only [Act.put]
                refine wpAnyH_take (i := 18) (v := ?_) rfl (by kernel_rfl) (by kernel_rfl) (by kernel_rfl) (fun _ _ _ h => h) (Or.inl ⟨by rfl, ?_⟩) (by assumption) ?_
                rotate_left
                · intro u hSu
                  try dsimp only at hSu
                  go_simp
                  try with_reducible rfl
                simp only [Act.put]
                refine wpAnyH_take (i := 19) (v := ?_) rfl (by kernel_rfl) (by kernel_rfl) (by kernel_rfl) (fun _ _ _ h => h) (Or.inl ⟨by rfl, ?_⟩) (by assumption) ?_
                rotate_left
                · intro u hSu
                  try dsimp only at hSu
                  go_simp
                  try with_reducible rfl
                simp only [Act.put]
                refine wpAnyH_take (i := 20) (v := ?_) rfl (by kernel_rfl) (by kernel_rfl) (by kernel_rfl) (fun _ _ _ h => h) (Or.inl ⟨by rfl, ?_⟩) (by assumption) ?_
                rotate_left
                · intro u hSu
                  try dsimp only at hSu
                  go_simp
                  try with_reducible rfl
                simp only [Act.put]
                refine wpAnyH_ready (rs := [13]) (by kernel_rfl) (by simp) ?_
                refine (AllReadyH.cons rfl (fun K hK => ?_) AllReadyH.nil)
                go_simp
                refine hK.out _ _ ?_ (fun hHeld => ?_)
                · exact ⟨K0 _ HK1.out, K1 _ HK1.out, K2 _ HK1.out, K3 _ HK1.out⟩
                clear hK K
                try simp only [Act.put, List.setIfInBounds_toArray, List.set_cons_zero, List.set_cons_succ]
                refine wpAnyH_ready (rs := [21]) (by kernel_rfl) (by simp) ?_
                refine (AllReadyH.cons rfl (fun K hK => ?_) AllReadyH.nil)
                refine stepR (wr.alloc (.cells #[] 5)).drew (by rfl) (.tmp 75) (.tmp 82) 61 5 (.int .u8 0) 1 (by rfl) Tryz.underlying61 infoU8 rfl (by decide) wo.heap.size 0 0 Xc (.slice (some ⟨wr.heap.size, 0, none⟩) 0 0) [] (cellsOf8 x) XA (by rfl) HE1.out rfl (by rfl) HCL.out HXR1.out HX0.out one8 (by omega) (Nat.le_trans HSZ.out HK1.out.size) ?_
                intro v3 w3 ho hg
                obtain ⟨X3, c3, rfl⟩ : ∃ X c, v3 = .slice X 0 c := (by obtain ⟨X, c, e, _⟩ := ho.out; exact ⟨X, c, by rw [e, nil_app_len HCL.out]⟩)
                have HO3 : Hid (RowV w3 wo.heap.size 5 (.slice X3 0 c3) (cellsOf8 x)) := Lib.hid ho
                have HK3 : Hid (Kept G wr w3) := Lib.hid (HK1.out.grown hg (fun j e => .inr (HE1b.out j e)))
                have HK3a : Hid (Kept G wr (w3.alloc (.cells #[.slice X3 0 c3] 61))) := Lib.hid (HK3.out.alloc _)
                have HR3a : Hid (RowV (w3.alloc (.cells #[.slice X3 0 c3] 61)) wo.heap.size 61 (.slice V k Vc) vs') := Lib.hid ((HRV1.out.kept hg (HRV1.out.apart HE1.out (by decide))).rise (Below.alloc (Below.refl _ _) (Nat.le_refl _) _))
                have k30 := K0 _ HK3.out
                have k31 := K1 _ HK3.out
                have k3a0 := K0 _ HK3a.out
                have k3a1 := K1 _ HK3a.out
                clear ho hg
                refine hK.out _ _ ?_ (fun hHeld => ?_)
                · exact ⟨K0 _ HK3.out, K1 _ HK3.out, K2 _ HK3.out, K3 _ HK3.out⟩
                clear hK K
                try simp only [Act.put, List.setIfInBounds_toArray]
                refine wpAnyH_ready (rs := [22]) (by kernel_rfl) (by simp) ?_
                refine (AllReadyH.cons rfl (fun K hK => ?_) AllReadyH.nil)
                go_simp
                refine hK.out _ _ ?_ (fun hHeld => ?_)
                · exact ⟨K0 _ HK3a.out, K1 _ HK3a.out, K2 _ HK3a.out, K3 _ HK3a.out⟩
                clear hK K
                try simp only [Act.put, List.setIfInBounds_toArray, List.set_cons_zero, List.set_cons_succ]
                refine wpAnyH_ready (rs := [23]) (by kernel_rfl) (by simp) ?_
                refine (AllReadyH.cons rfl (fun K hK => ?_) AllReadyH.nil)
                refine stepR (w3.alloc (.cells #[.slice X3 0 c3] 61)) (by rfl) (.tmp 74) (.tmp 84) 60 61 (.slice none 0 0) 24 (by rfl) Tryz.underlying60 infoRow rfl (by decide) wo.heap.size k 1 1 (.slice V k Vc) vs' [.slice X3 0 c3] (some ⟨w3.heap.size, 0, none⟩) (by rfl) HR3a.out HVL.out (by rfl) rfl (rdv_one w3 _ _) (fun e => by cases e) (fun u hu => by simp at hu; subst hu; rfl) (by omega) (Nat.le_trans HSZ.out HK3a.out.size) ?_
                intro v4 w4 ho hg
                obtain ⟨V4, c4, rfl⟩ : ∃ X c, v4 = .slice X (k + 1) c := (by obtain ⟨X, c, e, _⟩ := ho.out; exact ⟨X, c, by rw [e, app_one_len HVL.out]⟩)
                have HO4 := Lib.hid ho
                have HK4 : Hid (Kept G wr w4) := Lib.hid (HK3a.out.grown hg (fun j e => .inl (HG.out j e)))
                have HP4 : Hid (RowV w4 wo.heap.size 5 (.slice X3 0 c3) (cellsOf8 x)) := Lib.hid ((HO3.out.rise (Below.alloc (Below.refl _ _) (Nat.le_refl _) _)).kept hg ((HO3.out.rise (Below.alloc (Below.refl _ _) (Nat.le_refl _) _)).apart HR3a.out (by decide)))
                have k40 := K0 _ HK4.out
                have k41 := K1 _ HK4.out
                have f4 := KF _ HK4.out
                clear ho hg
                refine hK.out _ _ ?_ (fun hHeld => ?_)
                · exact ⟨K0 _ HK4.out, K1 _ HK4.out, K2 _ HK4.out, K3 _ HK4.out⟩
                clear hK K
                try simp only [Act.put, List.setIfInBounds_toArray]
                refine wpAnyH_done (by kernel_rfl) ?_ _
                show wpAny _ _ _ _ 3 _ _ _
                refine wpAny_take (i := 24) (v := ?_) rfl (by kernel_rfl) (by kernel_rfl) (by kernel_rfl) (fun _ _ _ h => h) (Or.inl ⟨by rfl, ?_⟩) ?_
                rotate_left
                · intro u
                  go_simp
                  try with_reducible rfl
                simp only [Act.put]
                refine wpAny_take (i := 25) (v := ?_) rfl (by kernel_rfl) (by kernel_rfl) (by kernel_rfl) (fun _ _ _ h => h) (Or.inl ⟨by rfl, ?_⟩) ?_
                rotate_left
                · intro u
                  go_simp
                  try with_reducible rfl
                simp only [Act.put]
                have HEN := Lib.hid (HLZ.out.step (x := x) HZS.out (HK4.out.mono (fun j _ h => HG2.out j h)) HP4.out HO4.out)
                refine wpAny_ready (rs := [26]) (by kernel_rfl) (by simp) ?_
                refine AllReady.cons rfl (fun K hK => ?_) AllReady.nil
                go_simp
                refine hK _ _ ?_
                clear hK K
                refine wpAny_done (by kernel_rfl) ?_ _
                go_wp2_with fail
                go_roundg (zl - (k + 1))
                case rel => exact ⟨k + 1, .slice V4 (k + 1) c4, _, by omega, rfl, by go_num, by have := HEN.out; rwa [HTK.out] at this, HPK.out⟩
                case measure => have := HQ2.out; omega
              · go_wp2_with fail
                refine wp_region_parts (S := fun u => u.cell? ⟨db, 0, none⟩ = some (.slice (some ⟨zb, 0, none⟩) n cap) ∧ u.cell? ⟨zb, i * 3, none⟩ = some (.slice V k Vc) ∧ u.cell? ⟨lb, lo + i, none⟩ = some (.slice (some ⟨rb, ro, none⟩) zl Bc) ∧ u.cell? ⟨rb, ro + k, none⟩ = some (.slice XA 33 Xc)) 24 3 _ (by kernel_rfl) (by kernel_rfl) (by rfl) (by simp only [List.take_succ_cons, List.take_zero]; rfl) ?_ (fun hHeld => ?_)
                · exact ⟨K0 _ HK0.out, K1 _ HK0.out, K2 _ HK0.out, K3 _ HK0.out⟩
                refine wpAnyH_take (i := 0) (v := ?_) rfl (by kernel_rfl) (by kernel_rfl) (by kernel_rfl) (fun _ _ _ h => h) (Or.inl ⟨by rfl, ?_⟩) (by assumption) ?_
                rotate_left
                · intro u hSu
                  try dsimp only at hSu
                  go_simp
                  try with_reducible rfl
                simp only [Act.put, List.setIfInBounds_toArray]
                refine wpAnyH_take (i := 1) (v := ?_) rfl (by kernel_rfl) (by kernel_rfl) (by kernel_rfl) (fun _ _ _ h => h) (Or.inl ⟨by rfl, ?_⟩) (by assumption) ?_
                rotate_left
                · intro u hSu
                  try dsimp only at hSu
                  go_simp
                  try with_reducible rfl
                simp only [Act.put]
                refine wpAnyH_take (i := 2) (v := ?_) rfl (by kernel_rfl) (by kernel_rfl) (by kernel_rfl) (fun _ _ _ h => h) (Or.inl ⟨by rfl, ?_⟩) (by assumption) ?_
                rotate_left
                · intro u hSu
                  try dsimp only at hSu
                  go_simp
                  try with_reducible rfl
                simp only [Act.put]
                refine wpAnyH_take (i := 3) (v := ?_) rfl (by kernel_rfl) (by kernel_rfl) (by kernel_rfl) (fun _ _ _ h => h) (Or.inl ⟨by rfl, ?_⟩) (by assumption) ?_
                rotate_left
                · intro u hSu
                  try dsimp only at hSu
                  go_simp
                  try with_reducible rfl
                simp only [Act.put]
                refine wpAnyH_take (i := 4) (v := ?_) rfl (by kernel_rfl) (by kernel_rfl) (by kernel_rfl) (fun _ _ _ h => h) (Or.inl ⟨by rfl, ?_⟩) (by assumption) ?_
                rotate_left
                · intro u hSu
                  try dsimp only at hSu
                  go_simp
                  try with_reducible rfl
                simp only [Act.put]
                refine wpAnyH_take (i := 5) (v := ?_) rfl (by kernel_rfl) (by kernel_rfl) (by kernel_rfl) (fun _ _ _ h => h) (Or.inl ⟨by rfl, ?_⟩) (by assumption) ?_
                rotate_left
                · intro u hSu
                  try dsimp only at hSu
                  go_simp
                  try with_reducible rfl
                simp only [Act.put]
                refine wpAnyH_take (i := 6) (v := ?_) rfl (by kernel_rfl) (by kernel_rfl) (by kernel_rfl) (fun _ _ _ h => h) (Or.inl ⟨by rfl, ?_⟩) (by assumption) ?_
                rotate_left
                · intro u hSu
                  try dsimp only at hSu
                  go_simp
                  try with_reducible rfl
                simp only [Act.put]
                refine wpAnyH_take (i := 7) (v := ?_) rfl (by kernel_rfl) (by kernel_rfl) (by kernel_rfl) (fun _ _ _ h => h) (Or.inl ⟨by rfl, ?_⟩) (by assumption) ?_
                rotate_left
                · intro u hSu
                  try dsimp only at hSu
                  go_simp
                  try with_reducible rfl
                simp only [Act.put]
                refine wpAnyH_take (i := 8) (v := ?_) rfl (by kernel_rfl) (by kernel_rfl) (by kernel_rfl) (fun _ _ _ h => h) (Or.inl ⟨by rfl, ?_⟩) (by assumption) ?_
                rotate_left
                · intro u hSu
                  try dsimp only at hSu
                  go_simp
                  try with_reducible rfl
                simp only [Act.put]
                refine wpAnyH_take (i := 9) (v := ?_) rfl (by kernel_rfl) (by kernel_rfl) (by kernel_rfl) (fun _ _ _ h => h) (Or.inl ⟨by rfl, ?_⟩) (by assumption) ?_
                rotate_left
                · intro u hSu
                  try dsimp only at hSu
                  go_simp
                  try with_reducible rfl
                simp only [Act.put]
                refine wpAnyH_take (i := 10) (v := ?_) rfl (by kernel_rfl) (by kernel_rfl) (by kernel_rfl) (fun _ _ _ h => h) (Or.inl ⟨by rfl, ?_⟩) (by assumption) ?_
                rotate_left
                · intro u hSu
                  try dsimp only at hSu
                  go_simp
                  try with_reducible rfl
                simp only [Act.put]
                refine wpAnyH_take (i := 11) (v := ?_) rfl (by kernel_rfl) (by kernel_rfl) (by kernel_rfl) (fun _ _ _ h => h) (Or.inl ⟨by rfl, ?_⟩) (by assumption) ?_
                rotate_left
                · intro u hSu
                  try dsimp only at hSu
                  go_simp
                  try with_reducible rfl
                simp only [Act.put]
                refine wpAnyH_take (i := 12) (v := ?_) rfl (by kernel_rfl) (by kernel_rfl) (by kernel_rfl) (fun _ _ _ h => h) (Or.inl ⟨by rfl, ?_⟩) (by assumption) ?_
                rotate_left
                · intro u hSu
                  try dsimp only at hSu
                  go_simp
                  try with_reducible rfl
                simp only [Act.put]
                refine wpAnyH_take (i := 14) (v := ?_) rfl (by kernel_rfl) (by kernel_rfl) (by kernel_rfl) (fun _ _ _ h => h) (Or.inl ⟨by rfl, ?_⟩) (by assumption) ?_
                rotate_left
                · intro u hSu
                  try dsimp only at hSu
                  go_simp
                  try with_reducible rfl
                simp only [Act.put]
                refine wpAnyH_take (i := 15) (v := ?_) rfl (by kernel_rfl) (by kernel_rfl) (by kernel_rfl) (fun _ _ _ h => h) (Or.inl ⟨by rfl, ?_⟩) (by assumption) ?_
                rotate_left
                · intro u hSu
                  try dsimp only at hSu
                  go_simp
                  try with_reducible rfl
                simp only [Act.put]
                refine wpAnyH_take (i := 16) (v := ?_) rfl (by kernel_rfl) (by kernel_rfl) (by kernel_rfl) (fun _ _ _ h => h) (Or.inl ⟨by rfl, ?_⟩) (by assumption) ?_
                rotate_left
                · intro u hSu
                  try dsimp only at hSu
                  go_simp
                  try with_reducible rfl
                simp only [Act.put]
                refine wpAnyH_take (i := 17) (v := ?_) rfl (by kernel_rfl) (by kernel_rfl) (by kernel_rfl) (fun _ _ _ h => h) (Or.inl ⟨by rfl, ?_⟩) (by assumption) ?_
                rotate_left
                · intro u hSu
                  try dsimp only at hSu
                  go_simp
                  try with_reducible rfl
                simp only [Act.put]
                refine wpAnyH_take (i := 18) (v := ?_) rfl (by kernel_rfl) (by kernel_rfl) (by kernel_rfl) (fun _ _ _ h => h) (Or.inl ⟨by rfl, ?_⟩) (by assumption) ?_
                rotate_left
                · intro u hSu
                  try dsimp only at hSu
                  go_simp
                  try with_reducible rfl
                simp only [Act.put]
                refine wpAnyH_take (i := 19) (v := ?_) rfl (by kernel_rfl) (by kernel_rfl) (by kernel_rfl) (fun _ _ _ h => h) (Or.inl ⟨by rfl, ?_⟩) (by assumption) ?_
                rotate_left
                · intro u hSu
                  try dsimp only at hSu
                  go_simp
                  try with_reducible rfl
                simp only [Act.put]
                refine wpAnyH_take (i := 20) (v := ?_) rfl (by kernel_rfl) (by kernel_rfl) (by kernel_rfl) (fun _ _ _ h => h) (Or.inl ⟨by rfl, ?_⟩) (by assumption) ?_
                rotate_left
                · intro u hSu
                  try dsimp only at hSu
                  go_simp
                  try with_reducible rfl
                simp only [Act.put]
                refine wpAnyH_ready (rs := [13]) (by kernel_rfl) (by simp) ?_
                refine (AllReadyH.cons rfl (fun K hK => ?_) AllReadyH.nil)
                go_simp
                refine hK.out _ _ ?_ (fun hHeld => ?_)
                · exact ⟨K0 _ HK1.out, K1 _ HK1.out, K2 _ HK1.out, K3 _ HK1.out⟩
                clear hK K
                try simp only [Act.put, List.setIfInBounds_toArray, List.set_cons_zero, List.set_cons_succ]
                refine wpAnyH_ready (rs := [21]) (by kernel_rfl) (by simp) ?_
                refine (AllReadyH.cons rfl (fun K hK => ?_) AllReadyH.nil)
                refine stepR (wr.alloc (.cells #[] 5)).drew (by rfl) (.tmp 75) (.tmp 82) 61 5 (.int .u8 0) 1 (by rfl) Tryz.underlying61 infoU8 rfl (by decide) wo.heap.size 0 33 Xc (.slice (some ⟨wr.heap.size, 0, none⟩) 0 0) [] (cellsOf8 x) XA (by rfl) HE1.out rfl (by rfl) HCL.out HXR1.out HX0.out one8 (by omega) (Nat.le_trans HSZ.out HK1.out.size) ?_
                intro v3 w3 ho hg
                obtain ⟨X3, c3, rfl⟩ : ∃ X c, v3 = .slice X 33 c := (by obtain ⟨X, c, e, _⟩ := ho.out; exact ⟨X, c, by rw [e, nil_app_len HCL.out]⟩)
                have HO3 : Hid (RowV w3 wo.heap.size 5 (.slice X3 33 c3) (cellsOf8 x)) := Lib.hid ho
                have HK3 : Hid (Kept G wr w3) := Lib.hid (HK1.out.grown hg (fun j e => .inr (HE1b.out j e)))
                have HK3a : Hid (Kept G wr (w3.alloc (.cells #[.slice X3 33 c3] 61))) := Lib.hid (HK3.out.alloc _)
                have HR3a : Hid (RowV (w3.alloc (.cells #[.slice X3 33 c3] 61)) wo.heap.size 61 (.slice V k Vc) vs') := Lib.hid ((HRV1.out.kept hg (HRV1.out.apart HE1.out (by decide))).rise (Below.alloc (Below.refl _ _) (Nat.le_refl _) _))
                have k30 := K0 _ HK3.out
                have k31 := K1 _ HK3.out
                have k3a0 := K0 _ HK3a.out
                have k3a1 := K1 _ HK3a.out
                clear ho hg
                refine hK.out _ _ ?_ (fun hHeld => ?_)
                · exact ⟨K0 _ HK3.out, K1 _ HK3.out, K2 _ HK3.out, K3 _ HK3.out⟩
                clear hK K
                try simp only [Act.put, List.setIfInBounds_toArray]
                refine wpAnyH_ready (rs := [22]) (by kernel_rfl) (by simp) ?_
                refine (AllReadyH.cons rfl (fun K hK => ?_) AllReadyH.nil)
                go_simp
                refine hK.out _ _ ?_ (fun hHeld => ?_)
                · exact ⟨K0 _ HK3a.out, K1 _ HK3a.out, K2 _ HK3a.out, K3 _ HK3a.out⟩
                clear hK K
                try simp only [Act.put, List.setIfInBounds_toArray, List.set_cons_zero, List.set_cons_succ]
                refine wpAnyH_ready (rs := [23]) (by kernel_rfl) (by simp) ?_
                refine (AllReadyH.cons rfl (fun K hK => ?_) AllReadyH.nil)
                refine stepR (w3.alloc (.cells #[.slice X3 33 c3] 61)) (by rfl) (.tmp 74) (.tmp 84) 60 61 (.slice none 0 0) 24 (by rfl) Tryz.underlying60 infoRow rfl (by decide) wo.heap.size k 1 1 (.slice V k Vc) vs' [.slice X3 33 c3] (some ⟨w3.heap.size, 0, none⟩) (by rfl) HR3a.out HVL.out (by rfl) rfl (rdv_one w3 _ _) (fun e => by cases e) (fun u hu => by simp at hu; subst hu; rfl) (by omega) (Nat.le_trans HSZ.out HK3a.out.size) ?_
                intro v4 w4 ho hg
                obtain ⟨V4, c4, rfl⟩ : ∃ X c, v4 = .slice X (k + 1) c := (by obtain ⟨X, c, e, _⟩ := ho.out; exact ⟨X, c, by rw [e, app_one_len HVL.out]⟩)
                have HO4 := Lib.hid ho
                have HK4 : Hid (Kept G wr w4) := Lib.hid (HK3a.out.grown hg (fun j e => .inl (HG.out j e)))
                have HP4 : Hid (RowV w4 wo.heap.size 5 (.slice X3 33 c3) (cellsOf8 x)) := Lib.hid ((HO3.out.rise (Below.alloc (Below.refl _ _) (Nat.le_refl _) _)).kept hg ((HO3.out.rise (Below.alloc (Below.refl _ _) (Nat.le_refl _) _)).apart HR3a.out (by decide)))
                have k40 := K0 _ HK4.out
                have k41 := K1 _ HK4.out
                have f4 := KF _ HK4.out
                clear ho hg
                refine hK.out _ _ ?_ (fun hHeld => ?_)
                · exact ⟨K0 _ HK4.out, K1 _ HK4.out, K2 _ HK4.out, K3 _ HK4.out⟩
                clear hK K
                try simp only [Act.put, List.setIfInBounds_toArray]
                refine wpAnyH_done (by kernel_rfl) ?_ _
                show wpAny _ _ _ _ 3 _ _ _
                refine wpAny_take (i := 24) (v := ?_) rfl (by kernel_rfl) (by kernel_rfl) (by kernel_rfl) (fun _ _ _ h => h) (Or.inl ⟨by rfl, ?_⟩) ?_
                rotate_left
                · intro u
                  go_simp
                  try with_reducible rfl
                simp only [Act.put]
                refine wpAny_take (i := 25) (v := ?_) rfl (by kernel_rfl) (by kernel_rfl) (by kernel_rfl) (fun _ _ _ h => h) (Or.inl ⟨by rfl, ?_⟩) ?_
                rotate_left
                · intro u
                  go_simp
                  try with_reducible rfl
                simp only [Act.put]
                have HEN := Lib.hid (HLZ.out.step (x := x) HZS.out (HK4.out.mono (fun j _ h => HG2.out j h)) HP4.out HO4.out)
                refine wpAny_ready (rs := [26]) (by kernel_rfl) (by simp) ?_
                refine AllReady.cons rfl (fun K hK => ?_) AllReady.nil
                go_simp
                refine hK _ _ ?_
                clear hK K
                refine wpAny_done (by kernel_rfl) ?_ _
                go_wp2_with fail
                go_roundg (zl - (k + 1))
                case rel => exact ⟨k + 1, .slice V4 (k + 1) c4, _, by omega, rfl, by go_num, by have := HEN.out; rwa [HTK.out] at this, HPK.out⟩
                case measure => have := HQ2.out; omega
            · have HD : Hid (loadD (p : Int) l = none) := Lib.hid (load_none hill (zone_bad (.inr ⟨k, by rw [HZ.out.1]; exact hkzl, by simp only [HZ.out.1, HXE.out.1, pageOk, HXE.out.2]; simpa using hpo⟩)))
              have HBE : Hid (Below w.heap.size w wr) := Lib.hid (HB.out.trans (HLZ.out.kept.below HB.out.size (fun j e => by omega)))
              have q0 : ((xl : Int) != 0) = true := by simp; omega
              have q33 : ((xl : Int) != 33) = true := by simp; omega
              have hin : (i : Int) < (n : Int) := by omega
              have hkn : (k : Int) < (zl : Int) := by omega
              clear hpo
              go_wp2_with fail
              go_ret2
              rw [HD.out]
              exact ⟨rfl, HBE.out⟩
          · obtain rfl : k = zl := by omega
            have HTA : Hid (z.take k = z) := Lib.hid (List.take_of_length_le (by rw [HZ.out.2.1]; omega))
            have HZG : Hid (zoneOk p z = true) := Lib.hid (zone_good (by rw [HZ.out.2.1]; omega) (fun j h => HPK0.out j h (by rw [← HZ.out.2.1]; exact h)))
            have HGD : Hid (l.getD i [] = z) := Lib.hid (by rw [List.getD_eq_getElem?_getD, List.getElem?_eq_getElem hill, HZ.out.1]; rfl)
            have HOK2 : Hid (∀ j (h : j < l.length), j < i + 1 → zoneOk p l[j] = true) := Lib.hid (fun j h hj => by
              by_cases e : j = i
              · subst e
                rw [HZ.out.1]
                exact HZG.out
              · exact HOK.out j h (by omega))
            have HPUT : Hid ((loadTo n p l i).put (i : Int) (loadZ z) = loadTo n p l (i + 1)) := Lib.hid (by rw [← HGD.out]; exact loadTo_put)
            have HDN := Lib.hid (LZ.done (m := k) (bs := z) (by have := HLZ.out; rwa [HTA.out] at this) H1.out (by rw [loadTo_len]; exact hlt) (by rw [loadTo_get hlt]; rfl) HZ.out.2.1 (by rw [HPUT.out]; exact loadTo_wf HNP.out.1 HNP.out.2 HIN.out.1 (by omega) HOK2.out HIN.out.2.2.2.2.1))
            rw [HPUT.out] at HDN
            have g1 : wr.cell? ⟨zb, i * 3 + 1, none⟩ = some ((zs.set (i * 3) v)[i * 3 + 1]'(by rw [List.length_set]; omega)) := HLZ.out.blk.cell (i * 3 + 1) (by rw [List.length_set]; omega)
            generalize (zs.set (i * 3) v)[i * 3 + 1]'(by rw [List.length_set]; omega) = z1 at *
            have fr1 := HLZ.out.blk.free (i * 3 + 1)
            go_wp2_with fail
            go_region
            go_wp2_with fail
            go_roundg (n - (i + 1))
            case rel =>
              obtain ⟨⟨zs', h1, h2⟩, h3⟩ := HDN.out
              refine ⟨i + 1, zs', by omega, rfl, by go_num, ((h1.mono (fun j hj => ?_) (fun j hj => hj.2)).up (Below.refl _ _).drew), fun j h hn => ?_, HOK2.out, (HB.out.trans (h3.below HB.out.size (fun j e => e.1))).drew⟩
              · rcases hj with hj | hj
                · exact ⟨hj.1, Nat.lt_of_lt_of_le hj.2 h3.size⟩
                · exact ⟨Nat.le_trans HB.out.size hj.1, hj.2⟩
              · rw [h2 j (by omega)]
                exact HNIL.out j (by omega) hn
            case measure => have := HQ.out; omega
    · obtain rfl : i = n := by omega
      have HD : Hid (loadD (p : Int) l = some (loadTo i p l i)) := Lib.hid (by
        unfold loadD
        have := HIN.out.1
        have := HNP.out
        rw [if_pos ⟨by omega, List.all_eq_true.2 (fun z hz => by
          obtain ⟨j, hj, rfl⟩ := List.getElem_of_mem hz
          rw [Int.toNat_natCast]
          exact HOK.out j hj (by omega))⟩, Int.toNat_natCast, HIN.out.1])
      go_wp2_with fail
      go_ret2
      rw [HD.out]
      exact ⟨db, rfl, ⟨zb, cap, zs, H1.out⟩, HB.out⟩
theorem rload_at {w : World} (p : Int) (v : Value) (l : List (List (List Int))) (h : Rows3 w v l) (hby : ∀ z ∈ l, ∀ b ∈ z, Byt b) : Calls Tryz.prog 26 #[.int .i64 p, v] w (MadeIs (loadD p l) w) := by
  obtain ⟨A, c, vs, rfl, hc, hr, hA, hvl, hx⟩ := h
  by_cases hN : 1 ≤ (l.length : Int) ∧ (l.length : Int) ≤ 24 ∧ 1 ≤ p ∧ p ≤ 16
  · obtain ⟨q, rfl⟩ := Int.eq_ofNat_of_zero_le (show 0 ≤ p by omega)
    obtain ⟨b, o, rfl, hlt, _⟩ := hr (by omega)
    exact rload_yes q l.length b o c vs l rfl hc hr hlt hvl hx hby (by omega) (by omega) (by omega) (by omega)
  · have HD : Hid (loadD p l = none) := Lib.hid (by
      unfold loadD
      rw [if_neg]
      rintro ⟨h2, _⟩
      exact hN (by omega))
    have HN := Lib.hid hN
    clear hc hr hA hvl hx hN hby
    go_enter Tryz.func26, Tryz.ntmps26
    go_wp2_with fail
    refine (rnew_no _ p HN.out).mono ?_
    rintro r w1 ⟨rfl, hb⟩
    have HB := Lib.hid hb
    clear hb
    go_wp2_with fail
    go_ret2
    rw [HD.out]
    exact ⟨rfl, HB.out⟩
end Go.Proofs.YthmpimjmajoimaaGreatDoor

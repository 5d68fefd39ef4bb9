/-
  alike and pages: two devices that are told alike are found so.
-/
import Derived.Test.YtljpkngbhdplbaaDoorZnsP
namespace Go.Proofs.YtljpkngbhdplbaaDoor
open Go.RowKit

theorem below_on {w a b : World} (h : Below w.heap.size w a) (hb : Below a.heap.size a b) : Below w.heap.size w b := h.trans (hb.mono h.size)
theorem RDev.up {F : Nat → Prop} {w w' : World} {db : Nat} {S : DevS} (h : RDev F w db S) (hb : Below w.heap.size w w') : RDev F w' db S := by
  obtain ⟨zb, cap, zs, h⟩ := h
  exact ⟨zb, cap, zs, h.up hb⟩
set_option maxRecDepth 100000 in
theorem alike_at (Z : ZOps) {F1 F2 : Nat → Prop} {w : World} {db rb : Nat} {S : DevS} (h : Z.D F1 w db S) (hr : RDev F2 w rb S) : Calls Tryd.prog 17 #[.pointer (some ⟨db, 0, none⟩), .pointer (some ⟨rb, 0, none⟩)] w (BoolB true w) := by
  obtain ⟨zb, cap, zs, hr⟩ := hr
  have HH := Lib.hid h
  have HR := Lib.hid hr
  obtain ⟨n, hn⟩ : ∃ n, S.zones.length = n := ⟨_, rfl⟩
  have hnb := hr.wf.z1
  rw [hn] at hnb
  obtain ⟨pp, hp⟩ : ∃ p, S.P = p := ⟨_, rfl⟩
  obtain ⟨dn, hdn⟩ : ∃ p, S.done = p := ⟨_, rfl⟩
  obtain ⟨gg, hgg⟩ : ∃ p, S.gone = p := ⟨_, rfl⟩
  have hdb := lt_of_block hr.dev
  have pZ := fun q : In (fun u => Below w.heap.size w u) => Z.zones (Z.up HH.out q.ok)
  have pP := fun q : In (fun u => Below w.heap.size w u) => Z.pages (Z.up HH.out q.ok)
  have pD := fun q : In (fun u => Below w.heap.size w u) => Z.down (Z.up HH.out q.ok)
  have pO := fun q : In (fun u => Below w.heap.size w u) => Z.ops (Z.up HH.out q.ok)
  have c0 := fun q : In (fun u => Below w.heap.size w u) => (q.ok.cell (p := ⟨rb, 0, none⟩) hdb).trans hr.c0
  have c1 := fun q : In (fun u => Below w.heap.size w u) => (q.ok.cell (p := ⟨rb, 1, none⟩) hdb).trans hr.c1
  have c3 := fun q : In (fun u => Below w.heap.size w u) => (q.ok.cell (p := ⟨rb, 3, none⟩) hdb).trans hr.c3
  have c4 := fun q : In (fun u => Below w.heap.size w u) => (q.ok.cell (p := ⟨rb, 4, none⟩) hdb).trans hr.c4
  rw [hn] at pZ c0
  rw [hp] at pP c1
  rw [hdn] at pO c3
  rw [hgg] at pD c4
  have upB : ∀ {a b : World}, Below w.heap.size w a → Below a.heap.size a b → Below w.heap.size w b := fun h hb => below_on h hb
  have HN := Lib.hid hn
  clear h hr hn hp hdn hgg
  have qg : (gg != gg) = false := by simp
  go_enter Tryd.func17, Tryd.ntmps17
  go_wp2_with fail
  refine wp_region_in (fun u => Below w.heap.size w u) (Below.refl _ _).drew (by kernel_rfl) (by kernel_rfl) (fun ne => ?_)
  repeat (go_big_quiet_step (first
    | (go_at_call 32; with_reducible exact In.more upB (pZ _))
    | (go_at_call 33; with_reducible exact In.more upB (pP _))
    | (go_at_call 24; with_reducible exact In.more upB (pD _))
    | (go_at_call 26; with_reducible exact In.more upB (pO _))))
  refine wpQuiet_nil ?_
  intro nq
  have HB := Lib.hid nq.ok
  generalize nq.w = w1 at *
  clear pZ pP pD pO c0 c1 c3 c4
  go_wp2_with fail
  go_loopg [5] (n + 2) (fun q x wr => ∃ i : Nat, i ≤ n + 2 ∧ q = n + 2 - i ∧ x = .int .i64 ((i : Int) - 1) ∧ Below w.heap.size w wr)
  case atStart => exact ⟨0, by omega, by omega, rfl, HB.out⟩
  case round =>
    clear HB
    obtain ⟨i, hi, hq, rfl, hb⟩ := hrel
    have HQ := Lib.hid hq
    have HB := Lib.hid hb
    have k0 := (hb.cell (p := ⟨rb, 0, none⟩) hdb).trans HR.out.c0
    rw [HN.out] at k0
    clear hq hb
    by_cases hlt : i < n + 2
    · obtain ⟨m, hm⟩ : ∃ m : Int, (i : Int) - 1 = m := ⟨_, rfl⟩
      have hml : m ≤ (n : Int) := by omega
      have hmi := Lib.hid hm
      rw [hm]
      clear hm
      go_wp2_with fail
      refine (Z.state m (Z.up HH.out HB.out)).mono ?_
      rintro r w2 ⟨rfl, hb⟩
      have HB2 := Lib.hid (below_on HB.out hb)
      clear hb
      go_wp2_with fail
      refine (rstate_at m (HR.out.up HB2.out)).mono ?_
      rintro r w3 ⟨rfl, hb⟩
      have HB3 := Lib.hid (below_on HB2.out hb)
      clear hb
      generalize S.state m = st
      go_wp2_with fail
      refine (Z.point m (Z.up HH.out HB3.out)).mono ?_
      rintro r w4 ⟨rfl, hb⟩
      have HB4 := Lib.hid (below_on HB3.out hb)
      clear hb
      go_wp2_with fail
      refine (rpoint_at m (HR.out.up HB4.out)).mono ?_
      rintro r w5 ⟨rfl, rfl⟩
      generalize (S.point m : Int) = st
      go_wp2_with fail
      refine (Z.sure m (Z.up HH.out HB4.out)).mono ?_
      rintro r w6 ⟨rfl, hb⟩
      have HB6 := Lib.hid (below_on HB4.out hb)
      clear hb
      go_wp2_with fail
      refine (rsure_at m (HR.out.up HB6.out)).mono ?_
      rintro r w7 ⟨rfl, rfl⟩
      generalize (S.sureOf m : Int) = st
      go_wp2_with fail
      go_roundg (n + 2 - (i + 1))
      case rel => exact ⟨i + 1, by omega, rfl, congrArg (Value.int .i64) (by have := hmi.out; unfold wrap64; omega), HB6.out⟩
      case measure => have := HQ.out; omega
    · obtain rfl : i = n + 2 := by omega
      have q1 : decide ((((n + 2 : Nat) : Int) - 1) ≤ (n : Int)) = false := by simp; omega
      go_wp2_with fail
      go_ret
      exact ⟨rfl, HB.out⟩

theorem readB_len {S : DevS} (h : S.WF) (n p : Int) : (S.readB n p).length ≤ 33 := by
  unfold DevS.readB
  split
  · rename_i h0
    have hi : S.is n = true := by
      unfold DevS.readE at h0
      split at h0
      · omega
      · split at h0
        · omega
        · rename_i h1
          simp at h1
          exact h1.1.1
    have hz := (h.pages _ (DevS.zone_mem hi)).2.2
    rw [List.getD_eq_getElem?_getD]
    by_cases hp : p.toNat < (S.zone n).pages.length
    · rw [List.getElem?_eq_getElem hp]
      have := (hz _ (List.getElem_mem hp)).1
      simp only [Option.getD_some]
      omega
    · rw [List.getElem?_eq_none (by omega)]
      simp
  · simp
set_option maxRecDepth 100000 in
theorem pages_at (Z : ZOps) {F1 F2 : Nat → Prop} {w : World} {db rb : Nat} {S : DevS} (h : Z.D F1 w db S) (hr : RDev F2 w rb S) (hg : Gl w) : Calls Tryd.prog 18 #[.pointer (some ⟨db, 0, none⟩), .pointer (some ⟨rb, 0, none⟩)] w (BoolB true w) := by
  obtain ⟨zb, cap, zs, hr⟩ := hr
  have HH := Lib.hid h
  have HR := Lib.hid hr
  have HG := Lib.hid hg
  obtain ⟨n, hn⟩ : ∃ n, S.zones.length = n := ⟨_, rfl⟩
  have hnb := hr.wf.z1
  have hp16 := hr.wf.p1
  rw [hn] at hnb
  obtain ⟨pp, hp⟩ : ∃ p, S.P = p := ⟨_, rfl⟩
  rw [hp] at hp16
  have hdb := lt_of_block hr.dev
  have c0 := hr.c0
  have c1 := hr.c1
  rw [hn] at c0
  rw [hp] at c1
  clear h hr hn hp hg
  go_enter Tryd.func18, Tryd.ntmps18
  go_wp2_with fail
  go_loopg [16] n (fun q x wr => ∃ i : Nat, i ≤ n ∧ q = n - i ∧ x = .int .i64 i ∧ Below w.heap.size w wr)
  case atStart => exact ⟨0, by omega, by omega, rfl, Below.refl _ _⟩
  case round =>
    obtain ⟨i, hi, hq, rfl, hb⟩ := hrel
    have HQ := Lib.hid hq
    have HB0 := Lib.hid hb
    have k1 := (hb.cell (p := ⟨rb, 1, none⟩) hdb).trans c1
    clear hq hb
    by_cases hlt : i < n
    · obtain ⟨wo, hwo⟩ : ∃ wo, wo = wr := ⟨_, rfl⟩
      subst hwo
      go_wp2_with fail
      go_loopg [23] pp (fun q x wr => ∃ k : Nat, k ≤ pp ∧ q = pp - k ∧ x = .int .i64 k ∧ Below w.heap.size w wr)
      case atStart => exact ⟨0, by omega, by omega, rfl, HB0.out⟩
      case round =>
        obtain ⟨k, hk, hq2, rfl, hb⟩ := hrel
        have HQ2 := Lib.hid hq2
        have HB := Lib.hid hb
        clear hq2 hb k1
        by_cases hkl : k < pp
        · go_wp2_with fail
          refine (Z.read i k (Z.up HH.out HB.out)).mono ?_
          rintro r w1 ⟨v1, rfl, hv, hb⟩
          have HV1 := Lib.hid hv
          obtain ⟨A1, c1', rfl, _⟩ := hv
          have HB1 := Lib.hid (below_on HB.out hb)
          clear hb
          go_wp2_with fail
          refine (rread_at i k (HR.out.up HB1.out)).mono ?_
          rintro r w2 ⟨v2, rfl, hv, hb⟩
          have HV2 := Lib.hid hv
          have HV1' := Lib.hid (HV1.out.up hb)
          obtain ⟨A2, c2', rfl, _⟩ := hv
          have HB2 := Lib.hid (below_on HB1.out hb)
          clear hb
          have hl := readB_len HR.out.wf i k
          obtain ⟨xs, hxs⟩ : ∃ xs, S.readB (i : Int) (k : Int) = xs := ⟨_, rfl⟩
          obtain ⟨ee, hee⟩ : ∃ ee, S.readE (i : Int) (k : Int) = ee := ⟨_, rfl⟩
          obtain ⟨m, hm⟩ : ∃ m, xs.length = m := ⟨_, rfl⟩
          rw [hxs] at HV1' HV2 hl
          rw [hxs, hee, hm]
          rw [hm] at hl HV1' HV2
          clear HV1 hxs hee
          go_wp2_with fail
          refine (same_is HV1'.out.parts.1 HV2.out.parts.1 hm hm (by omega)).mono ?_
          rintro r w3 ⟨rfl, hb⟩
          have HB3 := Lib.hid (below_on HB2.out hb)
          have hd : decide (xs = xs) = true := by simp
          rw [hd]
          clear hb
          go_wp2_with fail
          refine (code_is ee (HG.out.below HB3.out)).mono ?_
          rintro r w4 ⟨rfl, hb⟩
          have HB4 := Lib.hid (below_on HB3.out hb)
          clear hb
          go_wp2_with fail
          go_roundg (pp - (k + 1))
          case rel => exact ⟨k + 1, by omega, rfl, by go_num, HB4.out⟩
          case measure => have := HQ2.out; omega
        · obtain rfl : k = pp := by omega
          go_wp2_with fail
          go_roundg (n - (i + 1))
          case rel => exact ⟨i + 1, by omega, rfl, by go_num, HB.out⟩
          case measure => have := HQ.out; omega
    · obtain rfl : i = n := by omega
      go_wp2_with fail
      go_ret
      exact ⟨rfl, HB0.out⟩
theorem actS_done (S : DevS) (x : ActS) : (actS S x).done ≤ S.done + 1 := by
  have hm : ∀ e, (S.mayS e).done ≤ S.done + 1 := fun e => by
    unfold DevS.mayS
    split
    · omega
    · split
      · omega
      · split
        · simp
        · simp
  have h0 := hm 0
  unfold actS
  split
  · unfold DevS.app
    split
    · exact hm _
    · exact hm _
  · split
    · unfold DevS.reset
      split
      · exact hm _
      · exact hm _
    · split
      · unfold DevS.finish
        split
        · exact hm _
        · exact hm _
      · split
        · unfold DevS.flush
          split
          · exact h0
          · exact h0
        · split
          · simp [DevS.fuse]
          · split
            · simp [DevS.crash]
            · omega
theorem actT_len {S : DevS} (h : S.WF) (x : ActS) : (actT S x).b.length ≤ 33 := by
  have := readB_len h x.zone x.page
  unfold actT
  split
  · simp
  · split
    · exact this
    · split
      · simp
      · split
        · simp
        · split
          · simp
          · simp
theorem err_nil : errV 0 = .nilIface := rfl
end Go.Proofs.YtljpkngbhdplbaaDoor

/-
  The document's device of zones in memory; is, Point, Sure, State.
-/
import Derived.Test.YtljpkngbhdplbaaDoorFoot
import Derived.Test.YtljpkngbhdplbaaDoorZnsMath
import Derived.Test.YtljpkngbhdplbaaDoorQuietRest
import Derived.Deep.QuietTactic
import Derived.BigQuiet
import Derived.BigRegion
import Derived.Deep.RegionHeld3
namespace Go.Proofs.YtljpkngbhdplbaaDoor
open Go.RowKit

def IntIs (n : Int) (w : World) (r : Ending) (w' : World) : Prop := r = .returned (.int .i64 n) ∧ w = w'
def BoolIs (b : Bool) (w : World) (r : Ending) (w' : World) : Prop := r = .returned (.bool b) ∧ w = w'
def IntB (n : Int) (w : World) (r : Ending) (w' : World) : Prop := r = .returned (.int .i64 n) ∧ Below w.heap.size w w'
theorem ret_int {k : IntKind} {a b : Int} (h : a = b) : Ending.returned (.int k a) = .returned (.int k b) := by rw [h]

/-- The zones' cells: three each. -/
def ZRow (E : Nat → Prop) (w : World) (zs : List Value) (l : List ZoneS) : Prop :=
  ∀ i (h : i < l.length), ∃ v, zs[i * 3]? = some v ∧ zs[i * 3 + 1]? = some (.int .i64 (l[i].sure : Int)) ∧ zs[i * 3 + 2]? = some (.bool l[i].fin) ∧ RowsF E w v l[i].pages
/-- The document's device S at block db: its zones at block zb; all of it within F. -/
structure RD (F : Nat → Prop) (w : World) (db zb cap : Nat) (zs : List Value) (S : DevS) : Prop where
  dev : Blk w db 77 [.slice (some ⟨zb, 0, none⟩) S.zones.length cap, .int .i64 (S.P : Int), .int .i64 S.left, .int .i64 (S.done : Int), .bool S.gone]
  blk : Blk w zb 79 zs
  row : ZRow (fun k => F k ∧ k ≠ db ∧ k ≠ zb) w zs S.zones
  room : S.zones.length ≤ cap
  len : zs.length = 3 * cap
  fd : F db
  fz : F zb
  ne : db ≠ zb
  lt : ∀ k, F k → k < w.heap.size
  wf : S.WF
def RDev (F : Nat → Prop) (w : World) (db : Nat) (S : DevS) : Prop := ∃ zb cap zs, RD F w db zb cap zs S
theorem RD.up {F : Nat → Prop} {w w' : World} {db zb cap : Nat} {zs : List Value} {S : DevS} (h : RD F w db zb cap zs S) (hb : Below w.heap.size w w') : RD F w' db zb cap zs S :=
  ⟨h.dev.up hb (lt_of_block h.dev), h.blk.up hb (lt_of_block h.blk), fun i hi => by obtain ⟨v, a, b, c, d⟩ := h.row i hi; exact ⟨v, a, b, c, d.up hb⟩, h.room, h.len, h.fd, h.fz, h.ne, fun k hk => Nat.lt_of_lt_of_le (h.lt k hk) hb.size, h.wf⟩
theorem RD.keep {F G : Nat → Prop} {w w' : World} {db zb cap : Nat} {zs : List Value} {S : DevS} (h : RD F w db zb cap zs S) (hk : Kept G w w') (hn : ∀ k, F k → ¬ G k) : RD F w' db zb cap zs S :=
  ⟨hk.blk h.dev (hn _ h.fd), hk.blk h.blk (hn _ h.fz), fun i hi => by obtain ⟨v, a, b, c, d⟩ := h.row i hi; exact ⟨v, a, b, c, d.keep hk (fun k hf => hn k hf.1)⟩, h.room, h.len, h.fd, h.fz, h.ne, fun k hf => Nat.lt_of_lt_of_le (h.lt k hf) hk.size, h.wf⟩
theorem RD.c0 {F : Nat → Prop} {w : World} {db zb cap : Nat} {zs : List Value} {S : DevS} (h : RD F w db zb cap zs S) : w.cell? ⟨db, 0, none⟩ = some (.slice (some ⟨zb, 0, none⟩) S.zones.length cap) := h.dev.cell 0 (by simp)
theorem RD.c1 {F : Nat → Prop} {w : World} {db zb cap : Nat} {zs : List Value} {S : DevS} (h : RD F w db zb cap zs S) : w.cell? ⟨db, 1, none⟩ = some (.int .i64 (S.P : Int)) := h.dev.cell 1 (by simp)
theorem RD.c2 {F : Nat → Prop} {w : World} {db zb cap : Nat} {zs : List Value} {S : DevS} (h : RD F w db zb cap zs S) : w.cell? ⟨db, 2, none⟩ = some (.int .i64 S.left) := h.dev.cell 2 (by simp)
theorem RD.c3 {F : Nat → Prop} {w : World} {db zb cap : Nat} {zs : List Value} {S : DevS} (h : RD F w db zb cap zs S) : w.cell? ⟨db, 3, none⟩ = some (.int .i64 (S.done : Int)) := h.dev.cell 3 (by simp)
theorem RD.c4 {F : Nat → Prop} {w : World} {db zb cap : Nat} {zs : List Value} {S : DevS} (h : RD F w db zb cap zs S) : w.cell? ⟨db, 4, none⟩ = some (.bool S.gone) := h.dev.cell 4 (by simp)
/-- Zone number i's cells. -/
theorem RD.zone {F : Nat → Prop} {w : World} {db zb cap : Nat} {zs : List Value} {S : DevS} (h : RD F w db zb cap zs S) (i : Nat) (hi : S.is (i : Int) = true) :
    ∃ v, w.cell? ⟨zb, i * 3, none⟩ = some v ∧ w.cell? ⟨zb, i * 3 + 1, none⟩ = some (.int .i64 ((S.zone i).sure : Int)) ∧ w.cell? ⟨zb, i * 3 + 2, none⟩ = some (.bool (S.zone i).fin) ∧ RowsF (fun k => F k ∧ k ≠ db ∧ k ≠ zb) w v (S.zone i).pages ∧ i * 3 + 2 < zs.length ∧ i < S.zones.length ∧ zs[i * 3]? = some v := by
  have hlt : i < S.zones.length := by have := (DevS.is_iff.1 hi).2; omega
  obtain ⟨v, a, b, c, d⟩ := h.row i hlt
  rw [DevS.zone_out hi]
  have g : ∀ k x, zs[k]? = some x → w.cell? ⟨zb, k, none⟩ = some x := fun k x e => by
    obtain ⟨hk, rfl⟩ := List.getElem?_eq_some_iff.1 e
    exact h.blk.cell k hk
  have := h.len
  have := h.room
  exact ⟨v, g _ _ a, g _ _ b, g _ _ c, d, by omega, hlt, a⟩

theorem ris_at {F : Nat → Prop} {w : World} {db zb cap : Nat} {zs : List Value} {S : DevS} (n : Int) (h : RD F w db zb cap zs S) : Calls Tryd.prog 64 #[.pointer (some ⟨db, 0, none⟩), .int .i64 n] w (BoolIs (S.is n) w) := by
  have c0 := h.c0
  have HS : Hid (S.is n = (decide (0 ≤ n) && decide (n < S.zones.length))) := Lib.hid rfl
  clear h
  by_cases h0 : 0 ≤ n
  · go_enter Tryd.func64, Tryd.ntmps64
    go_wp2_with fail
    go_ret
    exact ⟨ret_bool (by rw [HS.out]; simp [h0]), rfl⟩
  · have hq : ¬ (0 : Int) ≤ n := h0
    go_enter Tryd.func64, Tryd.ntmps64
    go_wp2_with fail
    go_ret
    exact ⟨ret_bool (by rw [HS.out]; simp; omega), rfl⟩
theorem rpoint_at {F : Nat → Prop} {w : World} {db zb cap : Nat} {zs : List Value} {S : DevS} (n : Int) (h : RD F w db zb cap zs S) : Calls Tryd.prog 45 #[.pointer (some ⟨db, 0, none⟩), .int .i64 n] w (IntIs (S.point n : Int) w) := by
  have HH := Lib.hid h
  have c0 := h.c0
  by_cases hi : S.is n = true
  · obtain ⟨hn0, hn1⟩ := DevS.is_iff.1 hi
    obtain ⟨i, rfl⟩ := Int.eq_ofNat_of_zero_le hn0
    obtain ⟨v, k0, _, _, hr, _, hlt, _⟩ := h.zone i hi
    obtain ⟨A, c, vs, rfl, _⟩ := hr.out
    have HP : Hid (S.point (i : Int) = (S.zone i).pages.length) := Lib.hid (by unfold DevS.point; rw [if_pos hi])
    have HI := Lib.hid hi
    clear h hi hr hn0
    go_enter Tryd.func45, Tryd.ntmps45
    go_wp2_with fail
    refine (ris_at _ HH.out).mono ?_
    rintro r w' ⟨rfl, rfl⟩
    rw [HI.out]
    go_wp2_with fail
    go_ret
    exact ⟨ret_int (by rw [HP.out]), rfl⟩
  · have HP : Hid (S.point n = 0) := Lib.hid (by unfold DevS.point; rw [if_neg hi])
    have HI : Hid (S.is n = false) := Lib.hid (by simpa using hi)
    clear h hi
    go_enter Tryd.func45, Tryd.ntmps45
    go_wp2_with fail
    refine (ris_at _ HH.out).mono ?_
    rintro r w' ⟨rfl, rfl⟩
    rw [HI.out]
    go_wp2_with fail
    go_ret
    exact ⟨ret_int (by rw [HP.out]; rfl), rfl⟩
theorem rsure_at {F : Nat → Prop} {w : World} {db zb cap : Nat} {zs : List Value} {S : DevS} (n : Int) (h : RD F w db zb cap zs S) : Calls Tryd.prog 46 #[.pointer (some ⟨db, 0, none⟩), .int .i64 n] w (IntIs (S.sureOf n : Int) w) := by
  have HH := Lib.hid h
  have c0 := h.c0
  by_cases hi : S.is n = true
  · obtain ⟨hn0, hn1⟩ := DevS.is_iff.1 hi
    obtain ⟨i, rfl⟩ := Int.eq_ofNat_of_zero_le hn0
    obtain ⟨v, _, k1, _, _, _, hlt, _⟩ := h.zone i hi
    have HP : Hid (S.sureOf (i : Int) = (S.zone i).sure) := Lib.hid (by unfold DevS.sureOf; rw [if_pos hi])
    have HI := Lib.hid hi
    clear h hi hn0
    go_enter Tryd.func46, Tryd.ntmps46
    go_wp2_with fail
    refine (ris_at _ HH.out).mono ?_
    rintro r w' ⟨rfl, rfl⟩
    rw [HI.out]
    go_wp2_with fail
    go_ret
    exact ⟨ret_int (by rw [HP.out]), rfl⟩
  · have HP : Hid (S.sureOf n = 0) := Lib.hid (by unfold DevS.sureOf; rw [if_neg hi])
    have HI : Hid (S.is n = false) := Lib.hid (by simpa using hi)
    clear h hi
    go_enter Tryd.func46, Tryd.ntmps46
    go_wp2_with fail
    refine (ris_at _ HH.out).mono ?_
    rintro r w' ⟨rfl, rfl⟩
    rw [HI.out]
    go_wp2_with fail
    go_ret
    exact ⟨ret_int (by rw [HP.out]; rfl), rfl⟩
theorem point_is {S : DevS} {n : Int} (h : S.point n ≠ 0) : S.is n = true := by
  unfold DevS.point at h
  split at h
  · assumption
  · exact absurd rfl h
theorem rstate_at {F : Nat → Prop} {w : World} {db zb cap : Nat} {zs : List Value} {S : DevS} (n : Int) (h : RD F w db zb cap zs S) : Calls Tryd.prog 44 #[.pointer (some ⟨db, 0, none⟩), .int .i64 n] w (IntB (S.state n) w) := by
  have HH := Lib.hid h
  have c0 := h.c0
  have c1 := h.c1
  by_cases h0 : S.point n = 0
  · have HP := Lib.hid h0
    have HS : Hid (S.state n = 0) := Lib.hid (by unfold DevS.state; rw [if_pos h0])
    clear h h0
    go_enter Tryd.func44, Tryd.ntmps44
    go_wp2_with fail
    refine (rpoint_at _ HH.out).mono ?_
    rintro r w' ⟨rfl, rfl⟩
    rw [HP.out]
    go_wp2_with fail
    go_ret
    exact ⟨ret_int (by rw [HS.out]), Below.refl _ _⟩
  · have hi := point_is h0
    obtain ⟨hn0, hn1⟩ := DevS.is_iff.1 hi
    obtain ⟨i, rfl⟩ := Int.eq_ofNat_of_zero_le hn0
    obtain ⟨v, _, _, k2, _, _, hlt, _⟩ := h.zone i hi
    have HS : Hid (S.state (i : Int) = if ((S.zone i).fin || decide (S.point (i : Int) = S.P)) = true then 2 else 1) := Lib.hid (by unfold DevS.state; rw [if_neg h0])
    obtain ⟨p, hp⟩ : ∃ p, S.point (i : Int) = p := ⟨_, rfl⟩
    have HP := Lib.hid hp
    have HIS := Lib.hid hi
    rw [hp] at h0 HS
    have hq : ((p : Int) == 0) = false := by simp; omega
    clear h hn0 hi hp
    go_enter Tryd.func44, Tryd.ntmps44
    go_wp2_with fail
    refine (rpoint_at _ HH.out).mono ?_
    rintro r w' ⟨rfl, rfl⟩
    rw [HP.out]
    cases hf : (S.zone (i : Int)).fin
    · rw [hf] at k2 HS
      have pD := fun q : In (fun u => Below w.heap.size w u) => rpoint_at (i : Int) (HH.out.up q.ok)
      rw [HP.out] at pD
      have k2' := fun q : In (fun u => Below w.heap.size w u) => (q.ok.cell (p := ⟨zb, i * 3 + 2, none⟩) (lt_of_block HH.out.blk)).trans k2
      have c0' := fun q : In (fun u => Below w.heap.size w u) => (q.ok.cell (p := ⟨db, 0, none⟩) (lt_of_block HH.out.dev)).trans c0
      have c1' := fun q : In (fun u => Below w.heap.size w u) => (q.ok.cell (p := ⟨db, 1, none⟩) (lt_of_block HH.out.dev)).trans c1
      clear k2 c0 c1
      go_wp2_with fail
      refine wp_region_in (fun u => Below w.heap.size w u) (Below.refl _ _).drew (by kernel_rfl) (by kernel_rfl) (fun ne => ?_)
      repeat (go_big_quiet_step (first
        | (go_at_call 45; with_reducible exact In.same (pD _))))
      refine wpQuiet_nil ?_
      intro nq
      have HB := Lib.hid nq.ok
      clear pD k2' c0' c1'
      by_cases he : p = S.P
      · have hq2 : ((p : Int) == (S.P : Int)) = true := by simp; omega
        go_wp2_with fail
        go_ret
        exact ⟨ret_int (by rw [HS.out]; simp [he]), HB.out⟩
      · have hq2 : ((p : Int) == (S.P : Int)) = false := by simp; omega
        go_wp2_with fail
        go_ret
        exact ⟨ret_int (by rw [HS.out]; simp [he]), HB.out⟩
    · rw [hf] at k2 HS
      have k2' := fun q : In (fun u => Below w.heap.size w u) => (q.ok.cell (p := ⟨zb, i * 3 + 2, none⟩) (lt_of_block HH.out.blk)).trans k2
      have c0' := fun q : In (fun u => Below w.heap.size w u) => (q.ok.cell (p := ⟨db, 0, none⟩) (lt_of_block HH.out.dev)).trans c0
      clear k2 c0 c1
      go_wp2_with fail
      refine wp_region_in (fun u => Below w.heap.size w u) (Below.refl _ _).drew (by kernel_rfl) (by kernel_rfl) (fun ne => ?_)
      repeat (go_big_quiet_step (first
        | fail))
      refine wpQuiet_nil ?_
      intro nq
      have HB := Lib.hid nq.ok
      clear k2' c0'
      go_wp2_with fail
      go_ret
      exact ⟨ret_int (by rw [HS.out]; simp), HB.out⟩
end Go.Proofs.YtljpkngbhdplbaaDoor

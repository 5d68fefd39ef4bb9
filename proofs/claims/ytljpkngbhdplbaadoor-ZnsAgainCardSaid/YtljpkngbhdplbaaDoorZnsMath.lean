/-
  Plain mathematics of a device of zones: its states, what each call does, acts.
-/
import Derived.Test.YtljpkngbhdplbaaDoorHeadMath
namespace Go.Proofs.YtljpkngbhdplbaaDoor

/-- A zone: its pages (a torn one has no bytes), how many are sure, whether it is finished. -/
structure ZoneS where
  pages : List (List Int)
  sure : Nat
  fin : Bool
/-- A device: its zones, how many pages each takes, the fuse, calls that were done, whether the power is gone. -/
structure DevS where
  zones : List ZoneS
  P : Nat
  left : Int
  done : Nat
  gone : Bool
namespace ZoneS
def empty : ZoneS := ⟨[], 0, false⟩
end ZoneS
namespace DevS
def is (S : DevS) (n : Int) : Bool := decide (0 ≤ n) && decide (n < S.zones.length)
def zone (S : DevS) (n : Int) : ZoneS := S.zones.getD n.toNat ZoneS.empty
def point (S : DevS) (n : Int) : Nat := if S.is n = true then (S.zone n).pages.length else 0
def sureOf (S : DevS) (n : Int) : Nat := if S.is n = true then (S.zone n).sure else 0
def state (S : DevS) (n : Int) : Int := if S.point n = 0 then 0 else if ((S.zone n).fin || decide (S.point n = S.P)) = true then 2 else 1
/-- Why a call isn't done; else it is counted. -/
def mayE (S : DevS) (e : Int) : Int := if S.gone = true then 7 else if e ≠ 0 then e else if S.left = 0 then 7 else 0
def mayS (S : DevS) (e : Int) : DevS :=
  if S.gone = true then S else if e ≠ 0 then S else if S.left = 0 then { S with gone := true } else { S with left := if 0 < S.left then S.left - 1 else S.left, done := S.done + 1 }
def put (S : DevS) (n : Int) (z : ZoneS) : DevS := { S with zones := S.zones.set n.toNat z }
def appE (S : DevS) (n : Int) (b : List Int) : Int := if (!S.is n || !decide (b.length = 33)) = true then 1 else if S.state n = 2 then 5 else 0
def app (S : DevS) (n : Int) (b : List Int) : DevS :=
  if S.mayE (S.appE n b) = 0 then (S.mayS (S.appE n b)).put n { S.zone n with pages := (S.zone n).pages ++ [b] } else S.mayS (S.appE n b)
def appN (S : DevS) (n : Int) (b : List Int) : Int := if S.mayE (S.appE n b) = 0 then (S.zone n).pages.length else 0
def readE (S : DevS) (n p : Int) : Int :=
  if S.gone = true then 7 else if (!S.is n || decide (p < 0) || decide ((S.P : Int) ≤ p)) = true then 1 else if ((S.zone n).pages.length : Int) ≤ p then 8 else if ((S.zone n).pages.getD p.toNat []).length = 0 then 6 else 0
def readB (S : DevS) (n p : Int) : List Int := if S.readE n p = 0 then (S.zone n).pages.getD p.toNat [] else []
def resetE (S : DevS) (n : Int) : Int := if S.is n = true then 0 else 1
def reset (S : DevS) (n : Int) : DevS := if S.mayE (S.resetE n) = 0 then (S.mayS (S.resetE n)).put n ZoneS.empty else S.mayS (S.resetE n)
def finE (S : DevS) (n : Int) : Int := if S.is n = true then (if S.state n = 0 then 11 else 0) else 1
def finish (S : DevS) (n : Int) : DevS := if S.mayE (S.finE n) = 0 then (S.mayS (S.finE n)).put n { S.zone n with fin := true } else S.mayS (S.finE n)
def allSure (z : ZoneS) : ZoneS := { z with sure := z.pages.length }
def flush (S : DevS) : DevS := if S.mayE 0 = 0 then { S.mayS 0 with zones := S.zones.map allSure } else S.mayS 0
def fuse (S : DevS) (n : Int) : DevS := { S with left := if n < 0 then -1 else n }
/-- How many pages stay behind a crash; what stays. -/
def stays (z : ZoneS) (k : Int) : Nat := z.sure + min k.toNat (z.pages.length - z.sure)
def left1 (z : ZoneS) (k : Int) (t : Bool) : List (List Int) :=
  z.pages.take (stays z k) ++ (if (t && decide (stays z k < z.pages.length)) = true then [[]] else [])
def crashZ (z : ZoneS) (k : Int) (t : Bool) : ZoneS := ⟨left1 z k t, (left1 z k t).length, z.fin⟩
def crash (S : DevS) (keep : List Int) (tear : List Bool) : DevS :=
  { S with zones := (List.range S.zones.length).map (fun i => crashZ (S.zones.getD i ZoneS.empty) (keep.getD i 0) (tear.getD i false)), left := -1, gone := false }
/-- What a device always is. -/
structure WF (S : DevS) : Prop where
  z0 : 1 ≤ S.zones.length
  z1 : S.zones.length ≤ 24
  p0 : 1 ≤ S.P
  p1 : S.P ≤ 16
  l0 : -1 ≤ S.left
  l1 : S.left ≤ 9223372036854775807
  pages : ∀ z ∈ S.zones, z.pages.length ≤ S.P ∧ z.sure ≤ z.pages.length ∧ ∀ b ∈ z.pages, (b.length = 0 ∨ b.length = 33) ∧ Byt b
def new (n p : Nat) : DevS := ⟨List.replicate n ZoneS.empty, p, -1, 0, false⟩
theorem new_wf {n p : Nat} (h1 : 1 ≤ n) (h2 : n ≤ 24) (h3 : 1 ≤ p) (h4 : p ≤ 16) : (new n p).WF :=
  ⟨by simp [new, h1], by simp [new, h2], h3, h4, by simp [new], by simp [new], fun z hz => by
    have := List.eq_of_mem_replicate hz
    subst this
    exact ⟨Nat.zero_le _, Nat.le_refl _, fun b hb => by cases hb⟩⟩
theorem is_iff {S : DevS} {n : Int} : S.is n = true ↔ 0 ≤ n ∧ n < S.zones.length := by simp [is]
theorem zone_mem {S : DevS} {n : Int} (h : S.is n = true) : S.zone n ∈ S.zones := by
  obtain ⟨h0, h1⟩ := is_iff.1 h
  unfold zone
  rw [List.getD_eq_getElem?_getD, List.getElem?_eq_getElem (by omega)]
  exact List.getElem_mem _
theorem zone_out {S : DevS} {n : Int} (h : S.is n = true) : S.zone n = S.zones[n.toNat]'(by have := is_iff.1 h; omega) := by
  obtain ⟨h0, h1⟩ := is_iff.1 h
  unfold zone
  rw [List.getD_eq_getElem?_getD, List.getElem?_eq_getElem (by omega)]
  rfl
theorem mayS_zones (S : DevS) (e : Int) : (S.mayS e).zones = S.zones := by unfold mayS; split <;> (try rfl); split <;> (try rfl); split <;> rfl
theorem mayS_P (S : DevS) (e : Int) : (S.mayS e).P = S.P := by unfold mayS; split <;> (try rfl); split <;> (try rfl); split <;> rfl
theorem mayS_wf {S : DevS} (h : S.WF) (e : Int) : (S.mayS e).WF := by
  refine ⟨by rw [mayS_zones]; exact h.z0, by rw [mayS_zones]; exact h.z1, by rw [mayS_P]; exact h.p0, by rw [mayS_P]; exact h.p1, ?_, ?_, by rw [mayS_zones, mayS_P]; exact h.pages⟩
  all_goals
    have h0 := h.l0
    have h1 := h.l1
    unfold mayS
    split
    · assumption
    · split
      · assumption
      · split
        · assumption
        · simp only
          split <;> omega
theorem put_wf {S : DevS} (h : S.WF) (n : Int) {z : ZoneS} (hz : z.pages.length ≤ S.P ∧ z.sure ≤ z.pages.length ∧ ∀ b ∈ z.pages, (b.length = 0 ∨ b.length = 33) ∧ Byt b) : (S.put n z).WF :=
  ⟨by simp [put, h.z0], by simp [put, h.z1], h.p0, h.p1, h.l0, h.l1, fun y hy => by
    rcases List.mem_or_eq_of_mem_set hy with hy | rfl
    · exact h.pages y hy
    · exact hz⟩
theorem mayE_ok {S : DevS} {e : Int} (h : S.mayE e = 0) : e = 0 ∧ S.gone = false := by
  unfold mayE at h
  split at h
  · omega
  · split at h
    · exact absurd h (by assumption)
    · exact ⟨by omega, by simpa using (by assumption : ¬ S.gone = true)⟩
theorem state_two {S : DevS} {n : Int} (h : S.WF) (hi : S.is n = true) (hs : S.state n ≠ 2) : (S.zone n).pages.length < S.P := by
  have hz := (h.pages _ (zone_mem hi)).1
  unfold state at hs
  unfold point at hs
  rw [if_pos hi] at hs
  have hp := h.p0
  split at hs
  · omega
  · split at hs
    · exact absurd rfl hs
    · rename_i h2
      simp at h2
      omega
theorem app_ok {S : DevS} {n : Int} {b : List Int} (h : S.appE n b = 0) : S.is n = true ∧ b.length = 33 ∧ S.state n ≠ 2 := by
  unfold appE at h
  split at h
  · omega
  · rename_i h1
    simp at h1
    split at h
    · omega
    · exact ⟨h1.1, h1.2, by assumption⟩
theorem app_wf {S : DevS} (h : S.WF) (n : Int) {b : List Int} (hb : Byt b) : (S.app n b).WF := by
  unfold app
  split
  · rename_i h0
    obtain ⟨h1, _⟩ := mayE_ok h0
    obtain ⟨h2, h3, h4⟩ := app_ok h1
    have hz := h.pages _ (zone_mem h2)
    have hl := state_two h h2 h4
    refine put_wf (mayS_wf h _) n ⟨?_, ?_, ?_⟩
    · rw [mayS_P]; simp; omega
    · simp; omega
    · intro y hy
      simp at hy
      rcases hy with hy | rfl
      · exact hz.2.2 y hy
      · exact ⟨.inr h3, hb⟩
  · exact mayS_wf h _
theorem reset_wf {S : DevS} (h : S.WF) (n : Int) : (S.reset n).WF := by
  unfold reset
  split
  · exact put_wf (mayS_wf h _) n ⟨Nat.zero_le _, Nat.le_refl _, fun b hb => by cases hb⟩
  · exact mayS_wf h _
theorem finE_ok {S : DevS} {n : Int} (h : S.finE n = 0) : S.is n = true := by
  unfold finE at h
  split at h
  · assumption
  · omega
theorem finish_wf {S : DevS} (h : S.WF) (n : Int) : (S.finish n).WF := by
  unfold finish
  split
  · rename_i h0
    have hz := h.pages _ (zone_mem (finE_ok (mayE_ok h0).1))
    exact put_wf (mayS_wf h _) n ⟨by rw [mayS_P]; exact hz.1, hz.2.1, hz.2.2⟩
  · exact mayS_wf h _
theorem flush_wf {S : DevS} (h : S.WF) : S.flush.WF := by
  unfold flush
  have hm := mayS_wf h 0
  split
  · refine ⟨by simp [h.z0], by simp [h.z1], hm.p0, hm.p1, hm.l0, hm.l1, fun z hz => ?_⟩
    simp at hz
    obtain ⟨y, hy, rfl⟩ := hz
    have := h.pages y hy
    exact ⟨by rw [show ({ S.mayS 0 with zones := S.zones.map allSure } : DevS).P = S.P from mayS_P S 0]; exact this.1, Nat.le_refl _, this.2.2⟩
  · exact hm
theorem fuse_wf {S : DevS} (h : S.WF) (n : Int) (hn : n ≤ 9223372036854775807) : (S.fuse n).WF :=
  ⟨h.z0, h.z1, h.p0, h.p1, by unfold fuse; simp only; split <;> omega, by unfold fuse; simp only; split <;> omega, h.pages⟩
theorem stays_le {z : ZoneS} (h : z.sure ≤ z.pages.length) (k : Int) : z.sure ≤ stays z k ∧ stays z k ≤ z.pages.length := by unfold stays; omega
theorem left1_len {z : ZoneS} (h : z.sure ≤ z.pages.length) (k : Int) (t : Bool) : (left1 z k t).length ≤ z.pages.length := by
  have := (stays_le h k).2
  unfold left1
  split
  · rename_i h1
    simp at h1 ⊢
    omega
  · simp
    omega
theorem crash_wf {S : DevS} (h : S.WF) (keep : List Int) (tear : List Bool) : (S.crash keep tear).WF := by
  refine ⟨by simp [crash, h.z0], by simp [crash, h.z1], h.p0, h.p1, by simp [crash], by simp [crash], fun z hz => ?_⟩
  simp only [crash, List.mem_map, List.mem_range] at hz
  obtain ⟨i, hi, rfl⟩ := hz
  have hm : S.zones.getD i ZoneS.empty ∈ S.zones := by
    rw [List.getD_eq_getElem?_getD, List.getElem?_eq_getElem hi]
    exact List.getElem_mem _
  have hy := h.pages _ hm
  refine ⟨Nat.le_trans (left1_len hy.2.1 _ _) hy.1, Nat.le_refl _, fun b hb => ?_⟩
  simp only [crashZ, left1, List.mem_append] at hb
  rcases hb with hb | hb
  · exact hy.2.2 b (List.mem_of_mem_take hb)
  · split at hb
    · simp at hb
      subst hb
      exact ⟨.inl rfl, fun x hx => by cases hx⟩
    · cases hb
end DevS
/-- An act; what it answers. -/
structure ActS where
  Do : Int
  zone : Int
  page : Int
  B : List Int
  keep : List Int
  tear : List Bool
structure ToldS where
  n : Int
  e : Int
  b : List Int
def actS (S : DevS) (x : ActS) : DevS :=
  if x.Do = 0 then S.app x.zone x.B else if x.Do = 2 then S.reset x.zone else if x.Do = 3 then S.finish x.zone else if x.Do = 4 then S.flush else if x.Do = 5 then S.fuse x.page else if x.Do = 6 then S.crash x.keep x.tear else S
def actT (S : DevS) (x : ActS) : ToldS :=
  if x.Do = 0 then ⟨S.appN x.zone x.B, S.mayE (S.appE x.zone x.B), []⟩ else if x.Do = 1 then ⟨0, S.readE x.zone x.page, S.readB x.zone x.page⟩ else if x.Do = 2 then ⟨0, S.mayE (S.resetE x.zone), []⟩
  else if x.Do = 3 then ⟨0, S.mayE (S.finE x.zone), []⟩ else if x.Do = 4 then ⟨0, S.mayE 0, []⟩ else ⟨0, 0, []⟩
end Go.Proofs.YtljpkngbhdplbaaDoor

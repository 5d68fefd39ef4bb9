/-
  Footprints: the blocks that a structure in memory owns; what a call that writes to them alone keeps; rows of rows of bytes within a footprint.
  Plain mathematics of a device of zones: its states, what each call does, acts.
  A region that draws its order: once its first operations have come up, and all others are quiet in every world that has a property G, one walk of these in the order of the text serves. For whatever program.
  The document's device of zones in memory; is, Point, Sure, State.
-/
import Derived.Test.YthmpimjmajoimaaGreatDoorSw02
import Derived.Test.YthmpimjmajoimaaGreatDoorSw01
import Derived.Deep.RegionWith
import Derived.Deep.QuietTactic
import Derived.BigQuiet
import Derived.BigRegion
import Derived.Deep.RegionHeld3
namespace Go.Proofs.YthmpimjmajoimaaGreatDoor
open Go.RowKit

/-- Whatever lies outside F lies as it lay. -/
structure Kept (F : Nat → Prop) (w w' : World) : Prop where
  os : w'.os = w.os
  tape : w'.tape = w.tape
  output : w'.output = w.output
  size : w.heap.size ≤ w'.heap.size
  block : ∀ k, k < w.heap.size → ¬ F k → w'.heap[k]? = w.heap[k]?
/-- F and all blocks that were made on the way from a to b. -/
def grow (F : Nat → Prop) (a b : World) : Nat → Prop := fun k => F k ∨ (a.heap.size ≤ k ∧ k < b.heap.size)
theorem Kept.refl (F : Nat → Prop) (w : World) : Kept F w w := ⟨rfl, rfl, rfl, Nat.le_refl _, fun _ _ _ => rfl⟩
theorem Kept.trans {F : Nat → Prop} {a b c : World} (h : Kept F a b) (k : Kept (grow F a b) b c) : Kept F a c :=
  ⟨k.os.trans h.os, k.tape.trans h.tape, k.output.trans h.output, Nat.le_trans h.size k.size, fun i hi hn => (k.block i (Nat.lt_of_lt_of_le hi h.size) (fun hg => hg.elim hn (fun hx => absurd hx.1 (Nat.not_le_of_lt hi)))).trans (h.block i hi hn)⟩
theorem Kept.and {F : Nat → Prop} {a b c : World} (h : Kept F a b) (k : Kept F b c) : Kept F a c :=
  ⟨k.os.trans h.os, k.tape.trans h.tape, k.output.trans h.output, Nat.le_trans h.size k.size, fun i hi hn => (k.block i (Nat.lt_of_lt_of_le hi h.size) hn).trans (h.block i hi hn)⟩
theorem Kept.mono {F G : Nat → Prop} {a b : World} (h : Kept F a b) (hfg : ∀ k, k < a.heap.size → F k → G k) : Kept G a b := ⟨h.os, h.tape, h.output, h.size, fun i hi hn => h.block i hi (fun hf => hn (hfg i hi hf))⟩
theorem Kept.of_below {F : Nat → Prop} {w w' : World} (h : Below w.heap.size w w') : Kept F w w' := ⟨h.os, h.tape, h.output, h.size, fun i hi _ => h.block i hi⟩
theorem Kept.below {F : Nat → Prop} {B : Nat} {w w' : World} (h : Kept F w w') (hB : B ≤ w.heap.size) (hF : ∀ k, F k → B ≤ k) : Below B w w' :=
  ⟨h.os, h.tape, h.output, h.size, fun k hk => h.block k (by omega) (fun hf => by have := hF k hf; omega)⟩
theorem Kept.grown {F : Nat → Prop} {a w w' : World} {row : Option Nat} (h : Kept F a w) (hg : w.grownBy w' row) (hr : ∀ k, row = some k → F k ∨ a.heap.size ≤ k) : Kept F a w' :=
  ⟨hg.os.trans h.os, hg.tape.trans h.tape, hg.output.trans h.output, Nat.le_trans h.size hg.size, fun i hi hn => (hg.block i (Nat.lt_of_lt_of_le hi h.size) (fun e => by
    rcases hr i e.symm with hf | hs
    · exact hn hf
    · omega)).trans (h.block i hi hn)⟩
theorem Kept.put {F : Nat → Prop} {a w : World} (h : Kept F a w) {g : Nat} (hg : F g ∨ a.heap.size ≤ g) (o : Nat) (v : Value) : Kept F a (w.setCell ⟨g, o, none⟩ v) :=
  h.grown (grown_put (World.grownBy.refl w _) o v) (fun k e => by obtain rfl := Option.some.inj e; exact hg)
theorem Kept.alloc {F : Nat → Prop} {a w : World} (h : Kept F a w) (o : Obj) : Kept F a (w.alloc o) := h.grown (World.grownBy_alloc w o none) (fun k e => by cases e)
theorem Kept.drew {F : Nat → Prop} {a w : World} (h : Kept F a w) : Kept F a w.drew := ⟨h.os, h.tape, h.output, h.size, h.block⟩
theorem Kept.blk {F : Nat → Prop} {w w' : World} {g : Nat} {T : TypeId} {cs : List Value} (h : Kept F w w') (hb : Blk w g T cs) (hn : ¬ F g) : Blk w' g T cs := (h.block g (lt_of_block hb) hn).trans hb
theorem Kept.cell {F : Nat → Prop} {w w' : World} {p : Addr} {v : Value} (h : Kept F w w') (hc : w.cell? p = some v) (hn : ¬ F p.block) : w'.cell? p = some v := by
  have hlt : p.block < w.heap.size := by
    apply Classical.byContradiction
    intro hge
    have : w.heap[p.block]? = none := Array.getElem?_eq_none (by omega)
    simp [World.cell?, this] at hc
  rw [World.cell?_of_block (w := w) (h.block p.block hlt hn)]
  exact hc

/-- Where something is read it lies in F. -/
def InF (F : Nat → Prop) (A : Option Addr) : Prop := ∀ b o x, A = some ⟨b, o, x⟩ → F b
theorem InF.mono {F G : Nat → Prop} {A : Option Addr} (h : InF F A) (hfg : ∀ k, F k → G k) : InF G A := fun b o x e => hfg _ (h b o x e)
theorem InF.none (F : Nat → Prop) : InF F none := fun _ _ _ e => by cases e
theorem InF.one {F : Nat → Prop} {g o : Nat} (h : F g) : InF F (some ⟨g, o, Option.none⟩) := fun b o x e => by have e := Option.some.inj e; injection e with e; subst e; exact h
/-- .. if there is something. -/
def InN (n : Nat) (F : Nat → Prop) (A : Option Addr) : Prop := 0 < n → InF F A
theorem InN.mono {n : Nat} {F G : Nat → Prop} {A : Option Addr} (h : InN n F A) (hfg : ∀ k, F k → G k) : InN n G A := fun hp => (h hp).mono hfg
theorem InF.n {n : Nat} {F : Nat → Prop} {A : Option Addr} (h : InF F A) : InN n F A := fun _ => h
theorem Rd.keep {F : Nat → Prop} {w w' : World} {A : Option Addr} {xs : List Int} (h : Rd w w.heap.size A xs) (hk : Kept F w w') (hn : InN xs.length (fun k => ¬ F k) A) : Rd w' w'.heap.size A xs := by
  intro hp
  obtain ⟨b, o, hA, hlt, hc⟩ := h hp
  exact ⟨b, o, hA, Nat.lt_of_lt_of_le hlt hk.size, fun i hi => hk.cell (hc i hi) (hn hp _ _ _ hA)⟩
theorem RdV.keep {F : Nat → Prop} {w w' : World} {A : Option Addr} {vs : List Value} (h : RdV w w.heap.size A vs) (hk : Kept F w w') (hn : InN vs.length (fun k => ¬ F k) A) : RdV w' w'.heap.size A vs := by
  intro hp
  obtain ⟨b, o, hA, hlt, hc⟩ := h hp
  exact ⟨b, o, hA, Nat.lt_of_lt_of_le hlt hk.size, fun i hi => hk.cell (hc i hi) (hn hp _ _ _ hA)⟩

/-- The value v is a slice that reads as these bytes, within F. -/
def BytF (F : Nat → Prop) (w : World) (v : Value) (xs : List Int) : Prop := ∃ A c, v = .slice A xs.length c ∧ xs.length ≤ c ∧ Rd w w.heap.size A xs ∧ InN xs.length F A ∧ (A = none → c = 0)
theorem BytF.keep {F G : Nat → Prop} {w w' : World} {v : Value} {xs : List Int} (h : BytF F w v xs) (hk : Kept G w w') (hn : ∀ k, F k → ¬ G k) : BytF F w' v xs := by
  obtain ⟨A, c, e, hc, hr, hf, h0⟩ := h
  exact ⟨A, c, e, hc, hr.keep hk (hf.mono hn), hf, h0⟩
theorem BytF.mono {F G : Nat → Prop} {w : World} {v : Value} {xs : List Int} (h : BytF F w v xs) (hfg : ∀ k, F k → G k) : BytF G w v xs := by
  obtain ⟨A, c, e, hc, hr, hf, h0⟩ := h
  exact ⟨A, c, e, hc, hr, hf.mono hfg, h0⟩
/-- The value v is a row of rows of bytes, within F. -/
structure RowsF (F : Nat → Prop) (w : World) (v : Value) (l : List (List Int)) : Prop where
  out : ∃ A c vs, v = .slice A l.length c ∧ l.length ≤ c ∧ RdV w w.heap.size A vs ∧ InN vs.length F A ∧ (A = none → c = 0) ∧ vs.length = l.length ∧ ∀ i (h : i < vs.length) (h2 : i < l.length), BytF F w vs[i] l[i]
theorem RowsF.keep {F G : Nat → Prop} {w w' : World} {v : Value} {l : List (List Int)} (h : RowsF F w v l) (hk : Kept G w w') (hn : ∀ k, F k → ¬ G k) : RowsF F w' v l := by
  obtain ⟨A, c, vs, e, hc, hr, hf, h0, hl, hx⟩ := h.out
  exact ⟨A, c, vs, e, hc, hr.keep hk (hf.mono hn), hf, h0, hl, fun i h1 h2 => (hx i h1 h2).keep hk hn⟩
theorem RowsF.mono {F G : Nat → Prop} {w : World} {v : Value} {l : List (List Int)} (h : RowsF F w v l) (hfg : ∀ k, F k → G k) : RowsF G w v l := by
  obtain ⟨A, c, vs, e, hc, hr, hf, h0, hl, hx⟩ := h.out
  exact ⟨A, c, vs, e, hc, hr, hf.mono hfg, h0, hl, fun i h1 h2 => (hx i h1 h2).mono hfg⟩
theorem RowsF.up {F : Nat → Prop} {w w' : World} {v : Value} {l : List (List Int)} (h : RowsF F w v l) (hb : Below w.heap.size w w') : RowsF F w' v l := h.keep (G := fun _ => False) (Kept.of_below hb) (fun _ _ => id)
theorem RowsF.nil (F : Nat → Prop) (w : World) : RowsF F w (.slice none 0 0) [] := ⟨none, 0, [], rfl, by simp, RdV.nil, (InF.none _).n, fun _ => rfl, rfl, fun i h => by simp at h⟩
end Go.Proofs.YthmpimjmajoimaaGreatDoor
namespace Go.Proofs.YthmpimjmajoimaaGreatDoor

/-- A zone: its pages (a torn one has no bytes), how many are sure, whether it is finished. -/
structure ZoneS where
  pages : List (List Int)
  sure : Nat
  fin : Bool
/-- A device: its zones, how many pages each takes, the fuse, calls that were done, whether the power is gone. -/
structure DevS where
  zones : List ZoneS
  P : Nat
  left : Int
  done : Nat
  gone : Bool
namespace ZoneS
def empty : ZoneS := ⟨[], 0, false⟩
end ZoneS
namespace DevS
def is (S : DevS) (n : Int) : Bool := decide (0 ≤ n) && decide (n < S.zones.length)
def zone (S : DevS) (n : Int) : ZoneS := S.zones.getD n.toNat ZoneS.empty
def point (S : DevS) (n : Int) : Nat := if S.is n = true then (S.zone n).pages.length else 0
def sureOf (S : DevS) (n : Int) : Nat := if S.is n = true then (S.zone n).sure else 0
def state (S : DevS) (n : Int) : Int := if S.point n = 0 then 0 else if ((S.zone n).fin || decide (S.point n = S.P)) = true then 2 else 1
/-- Why a call isn't done; else it is counted. -/
def mayE (S : DevS) (e : Int) : Int := if S.gone = true then 7 else if e ≠ 0 then e else if S.left = 0 then 7 else 0
def mayS (S : DevS) (e : Int) : DevS :=
  if S.gone = true then S else if e ≠ 0 then S else if S.left = 0 then { S with gone := true } else { S with left := if 0 < S.left then S.left - 1 else S.left, done := S.done + 1 }
def put (S : DevS) (n : Int) (z : ZoneS) : DevS := { S with zones := S.zones.set n.toNat z }
def appE (S : DevS) (n : Int) (b : List Int) : Int := if (!S.is n || !decide (b.length = 33)) = true then 1 else if S.state n = 2 then 5 else 0
def app (S : DevS) (n : Int) (b : List Int) : DevS :=
  if S.mayE (S.appE n b) = 0 then (S.mayS (S.appE n b)).put n { S.zone n with pages := (S.zone n).pages ++ [b] } else S.mayS (S.appE n b)
def appN (S : DevS) (n : Int) (b : List Int) : Int := if S.mayE (S.appE n b) = 0 then (S.zone n).pages.length else 0
def readE (S : DevS) (n p : Int) : Int :=
  if S.gone = true then 7 else if (!S.is n || decide (p < 0) || decide ((S.P : Int) ≤ p)) = true then 1 else if ((S.zone n).pages.length : Int) ≤ p then 8 else if ((S.zone n).pages.getD p.toNat []).length = 0 then 6 else 0
def readB (S : DevS) (n p : Int) : List Int := if S.readE n p = 0 then (S.zone n).pages.getD p.toNat [] else []
def resetE (S : DevS) (n : Int) : Int := if S.is n = true then 0 else 1
def reset (S : DevS) (n : Int) : DevS := if S.mayE (S.resetE n) = 0 then (S.mayS (S.resetE n)).put n ZoneS.empty else S.mayS (S.resetE n)
def allSure (z : ZoneS) : ZoneS := { z with sure := z.pages.length }
def flush (S : DevS) : DevS := if S.mayE 0 = 0 then { S.mayS 0 with zones := S.zones.map allSure } else S.mayS 0
def fuse (S : DevS) (n : Int) : DevS := { S with left := if n < 0 then -1 else n }
/-- How many pages stay behind a crash; what stays. -/
def stays (z : ZoneS) (k : Int) : Nat := z.sure + min k.toNat (z.pages.length - z.sure)
def left1 (z : ZoneS) (k : Int) (t : Bool) : List (List Int) :=
  z.pages.take (stays z k) ++ (if (t && decide (stays z k < z.pages.length)) = true then [[]] else [])
def crashZ (z : ZoneS) (k : Int) (t : Bool) : ZoneS := ⟨left1 z k t, (left1 z k t).length, z.fin⟩
def crash (S : DevS) (keep : List Int) (tear : List Bool) : DevS :=
  { S with zones := (List.range S.zones.length).map (fun i => crashZ (S.zones.getD i ZoneS.empty) (keep.getD i 0) (tear.getD i false)), left := -1, gone := false }
/-- What a device always is. -/
structure WF (S : DevS) : Prop where
  z0 : 1 ≤ S.zones.length
  z1 : S.zones.length ≤ 24
  p0 : 1 ≤ S.P
  p1 : S.P ≤ 16
  l0 : -1 ≤ S.left
  l1 : S.left ≤ 9223372036854775807
  pages : ∀ z ∈ S.zones, z.pages.length ≤ S.P ∧ z.sure ≤ z.pages.length ∧ ∀ b ∈ z.pages, (b.length = 0 ∨ b.length = 33) ∧ Byt b
def new (n p : Nat) : DevS := ⟨List.replicate n ZoneS.empty, p, -1, 0, false⟩
theorem new_wf {n p : Nat} (h1 : 1 ≤ n) (h2 : n ≤ 24) (h3 : 1 ≤ p) (h4 : p ≤ 16) : (new n p).WF :=
  ⟨by simp [new, h1], by simp [new, h2], h3, h4, by simp [new], by simp [new], fun z hz => by
    have := List.eq_of_mem_replicate hz
    subst this
    exact ⟨Nat.zero_le _, Nat.le_refl _, fun b hb => by cases hb⟩⟩
theorem is_iff {S : DevS} {n : Int} : S.is n = true ↔ 0 ≤ n ∧ n < S.zones.length := by simp [is]
theorem zone_mem {S : DevS} {n : Int} (h : S.is n = true) : S.zone n ∈ S.zones := by
  obtain ⟨h0, h1⟩ := is_iff.1 h
  unfold zone
  rw [List.getD_eq_getElem?_getD, List.getElem?_eq_getElem (by omega)]
  exact List.getElem_mem _
theorem zone_out {S : DevS} {n : Int} (h : S.is n = true) : S.zone n = S.zones[n.toNat]'(by have := is_iff.1 h; omega) := by
  obtain ⟨h0, h1⟩ := is_iff.1 h
  unfold zone
  rw [List.getD_eq_getElem?_getD, List.getElem?_eq_getElem (by omega)]
  rfl
theorem mayS_zones (S : DevS) (e : Int) : (S.mayS e).zones = S.zones := by unfold mayS; split <;> (try rfl); split <;> (try rfl); split <;> rfl
theorem mayS_P (S : DevS) (e : Int) : (S.mayS e).P = S.P := by unfold mayS; split <;> (try rfl); split <;> (try rfl); split <;> rfl
theorem mayS_wf {S : DevS} (h : S.WF) (e : Int) : (S.mayS e).WF := by
  refine ⟨by rw [mayS_zones]; exact h.z0, by rw [mayS_zones]; exact h.z1, by rw [mayS_P]; exact h.p0, by rw [mayS_P]; exact h.p1, ?_, ?_, by rw [mayS_zones, mayS_P]; exact h.pages⟩
  all_goals
    have h0 := h.l0
    have h1 := h.l1
    unfold mayS
    split
    · assumption
    · split
      · assumption
      · split
        · assumption
        · simp only
          split <;> omega
theorem put_wf {S : DevS} (h : S.WF) (n : Int) {z : ZoneS} (hz : z.pages.length ≤ S.P ∧ z.sure ≤ z.pages.length ∧ ∀ b ∈ z.pages, (b.length = 0 ∨ b.length = 33) ∧ Byt b) : (S.put n z).WF :=
  ⟨by simp [put, h.z0], by simp [put, h.z1], h.p0, h.p1, h.l0, h.l1, fun y hy => by
    rcases List.mem_or_eq_of_mem_set hy with hy | rfl
    · exact h.pages y hy
    · exact hz⟩
theorem mayE_ok {S : DevS} {e : Int} (h : S.mayE e = 0) : e = 0 ∧ S.gone = false := by
  unfold mayE at h
  split at h
  · omega
  · split at h
    · exact absurd h (by assumption)
    · exact ⟨by omega, by simpa using (by assumption : ¬ S.gone = true)⟩
theorem state_two {S : DevS} {n : Int} (h : S.WF) (hi : S.is n = true) (hs : S.state n ≠ 2) : (S.zone n).pages.length < S.P := by
  have hz := (h.pages _ (zone_mem hi)).1
  unfold state at hs
  unfold point at hs
  rw [if_pos hi] at hs
  have hp := h.p0
  split at hs
  · omega
  · split at hs
    · exact absurd rfl hs
    · rename_i h2
      simp at h2
      omega
theorem app_ok {S : DevS} {n : Int} {b : List Int} (h : S.appE n b = 0) : S.is n = true ∧ b.length = 33 ∧ S.state n ≠ 2 := by
  unfold appE at h
  split at h
  · omega
  · rename_i h1
    simp at h1
    split at h
    · omega
    · exact ⟨h1.1, h1.2, by assumption⟩
theorem app_wf {S : DevS} (h : S.WF) (n : Int) {b : List Int} (hb : Byt b) : (S.app n b).WF := by
  unfold app
  split
  · rename_i h0
    obtain ⟨h1, _⟩ := mayE_ok h0
    obtain ⟨h2, h3, h4⟩ := app_ok h1
    have hz := h.pages _ (zone_mem h2)
    have hl := state_two h h2 h4
    refine put_wf (mayS_wf h _) n ⟨?_, ?_, ?_⟩
    · rw [mayS_P]; simp; omega
    · simp; omega
    · intro y hy
      simp at hy
      rcases hy with hy | rfl
      · exact hz.2.2 y hy
      · exact ⟨.inr h3, hb⟩
  · exact mayS_wf h _
theorem reset_wf {S : DevS} (h : S.WF) (n : Int) : (S.reset n).WF := by
  unfold reset
  split
  · exact put_wf (mayS_wf h _) n ⟨Nat.zero_le _, Nat.le_refl _, fun b hb => by cases hb⟩
  · exact mayS_wf h _
theorem fuse_wf {S : DevS} (h : S.WF) (n : Int) (hn : n ≤ 9223372036854775807) : (S.fuse n).WF :=
  ⟨h.z0, h.z1, h.p0, h.p1, by unfold fuse; simp only; split <;> omega, by unfold fuse; simp only; split <;> omega, h.pages⟩
theorem stays_le {z : ZoneS} (h : z.sure ≤ z.pages.length) (k : Int) : z.sure ≤ stays z k ∧ stays z k ≤ z.pages.length := by unfold stays; omega
theorem left1_len {z : ZoneS} (h : z.sure ≤ z.pages.length) (k : Int) (t : Bool) : (left1 z k t).length ≤ z.pages.length := by
  have := (stays_le h k).2
  unfold left1
  split
  · rename_i h1
    simp at h1 ⊢
    omega
  · simp
    omega
theorem crash_wf {S : DevS} (h : S.WF) (keep : List Int) (tear : List Bool) : (S.crash keep tear).WF := by
  refine ⟨by simp [crash, h.z0], by simp [crash, h.z1], h.p0, h.p1, by simp [crash], by simp [crash], fun z hz => ?_⟩
  simp only [crash, List.mem_map, List.mem_range] at hz
  obtain ⟨i, hi, rfl⟩ := hz
  have hm : S.zones.getD i ZoneS.empty ∈ S.zones := by
    rw [List.getD_eq_getElem?_getD, List.getElem?_eq_getElem hi]
    exact List.getElem_mem _
  have hy := h.pages _ hm
  refine ⟨Nat.le_trans (left1_len hy.2.1 _ _) hy.1, Nat.le_refl _, fun b hb => ?_⟩
  simp only [crashZ, left1, List.mem_append] at hb
  rcases hb with hb | hb
  · exact hy.2.2 b (List.mem_of_mem_take hb)
  · split at hb
    · simp at hb
      subst hb
      exact ⟨.inl rfl, fun x hx => by cases hx⟩
    · cases hb
end DevS
/-- An act; what it answers. -/
structure ActS where
  Do : Int
  zone : Int
  page : Int
  B : List Int
  keep : List Int
  tear : List Bool
end Go.Proofs.YthmpimjmajoimaaGreatDoor
namespace Go.Proofs.YthmpimjmajoimaaGreatDoor
open Go.RowKit

end Go.Proofs.YthmpimjmajoimaaGreatDoor
namespace Go.Proofs.YthmpimjmajoimaaGreatDoor
open Go.RowKit

def IntIs (n : Int) (w : World) (r : Ending) (w' : World) : Prop := r = .returned (.int .i64 n) ∧ w = w'
def BoolIs (b : Bool) (w : World) (r : Ending) (w' : World) : Prop := r = .returned (.bool b) ∧ w = w'
def IntB (n : Int) (w : World) (r : Ending) (w' : World) : Prop := r = .returned (.int .i64 n) ∧ Below w.heap.size w w'
theorem ret_int {k : IntKind} {a b : Int} (h : a = b) : Ending.returned (.int k a) = .returned (.int k b) := by rw [h]

/-- The zones' cells: three each. -/
def ZRow (E : Nat → Prop) (w : World) (zs : List Value) (l : List ZoneS) : Prop :=
  ∀ i (h : i < l.length), ∃ v, zs[i * 3]? = some v ∧ zs[i * 3 + 1]? = some (.int .i64 (l[i].sure : Int)) ∧ zs[i * 3 + 2]? = some (.bool l[i].fin) ∧ RowsF E w v l[i].pages
/-- The document's device S at block db: its zones at block zb; all of it within F. -/
structure RD (F : Nat → Prop) (w : World) (db zb cap : Nat) (zs : List Value) (S : DevS) : Prop where
  dev : Blk w db 82 [.slice (some ⟨zb, 0, none⟩) S.zones.length cap, .int .i64 (S.P : Int), .int .i64 S.left, .int .i64 (S.done : Int), .bool S.gone]
  blk : Blk w zb 84 zs
  row : ZRow (fun k => F k ∧ k ≠ db ∧ k ≠ zb) w zs S.zones
  room : S.zones.length ≤ cap
  len : zs.length = 3 * cap
  fd : F db
  fz : F zb
  ne : db ≠ zb
  lt : ∀ k, F k → k < w.heap.size
  wf : S.WF
def RDev (F : Nat → Prop) (w : World) (db : Nat) (S : DevS) : Prop := ∃ zb cap zs, RD F w db zb cap zs S
theorem RD.up {F : Nat → Prop} {w w' : World} {db zb cap : Nat} {zs : List Value} {S : DevS} (h : RD F w db zb cap zs S) (hb : Below w.heap.size w w') : RD F w' db zb cap zs S :=
  ⟨h.dev.up hb (lt_of_block h.dev), h.blk.up hb (lt_of_block h.blk), fun i hi => by obtain ⟨v, a, b, c, d⟩ := h.row i hi; exact ⟨v, a, b, c, d.up hb⟩, h.room, h.len, h.fd, h.fz, h.ne, fun k hk => Nat.lt_of_lt_of_le (h.lt k hk) hb.size, h.wf⟩
theorem RD.keep {F G : Nat → Prop} {w w' : World} {db zb cap : Nat} {zs : List Value} {S : DevS} (h : RD F w db zb cap zs S) (hk : Kept G w w') (hn : ∀ k, F k → ¬ G k) : RD F w' db zb cap zs S :=
  ⟨hk.blk h.dev (hn _ h.fd), hk.blk h.blk (hn _ h.fz), fun i hi => by obtain ⟨v, a, b, c, d⟩ := h.row i hi; exact ⟨v, a, b, c, d.keep hk (fun k hf => hn k hf.1)⟩, h.room, h.len, h.fd, h.fz, h.ne, fun k hf => Nat.lt_of_lt_of_le (h.lt k hf) hk.size, h.wf⟩
theorem RD.c0 {F : Nat → Prop} {w : World} {db zb cap : Nat} {zs : List Value} {S : DevS} (h : RD F w db zb cap zs S) : w.cell? ⟨db, 0, none⟩ = some (.slice (some ⟨zb, 0, none⟩) S.zones.length cap) := h.dev.cell 0 (by simp)
theorem RD.c1 {F : Nat → Prop} {w : World} {db zb cap : Nat} {zs : List Value} {S : DevS} (h : RD F w db zb cap zs S) : w.cell? ⟨db, 1, none⟩ = some (.int .i64 (S.P : Int)) := h.dev.cell 1 (by simp)
theorem RD.c2 {F : Nat → Prop} {w : World} {db zb cap : Nat} {zs : List Value} {S : DevS} (h : RD F w db zb cap zs S) : w.cell? ⟨db, 2, none⟩ = some (.int .i64 S.left) := h.dev.cell 2 (by simp)
theorem RD.c3 {F : Nat → Prop} {w : World} {db zb cap : Nat} {zs : List Value} {S : DevS} (h : RD F w db zb cap zs S) : w.cell? ⟨db, 3, none⟩ = some (.int .i64 (S.done : Int)) := h.dev.cell 3 (by simp)
theorem RD.c4 {F : Nat → Prop} {w : World} {db zb cap : Nat} {zs : List Value} {S : DevS} (h : RD F w db zb cap zs S) : w.cell? ⟨db, 4, none⟩ = some (.bool S.gone) := h.dev.cell 4 (by simp)
/-- Zone number i's cells. -/
theorem RD.zone {F : Nat → Prop} {w : World} {db zb cap : Nat} {zs : List Value} {S : DevS} (h : RD F w db zb cap zs S) (i : Nat) (hi : S.is (i : Int) = true) :
    ∃ v, w.cell? ⟨zb, i * 3, none⟩ = some v ∧ w.cell? ⟨zb, i * 3 + 1, none⟩ = some (.int .i64 ((S.zone i).sure : Int)) ∧ w.cell? ⟨zb, i * 3 + 2, none⟩ = some (.bool (S.zone i).fin) ∧ RowsF (fun k => F k ∧ k ≠ db ∧ k ≠ zb) w v (S.zone i).pages ∧ i * 3 + 2 < zs.length ∧ i < S.zones.length ∧ zs[i * 3]? = some v := by
  have hlt : i < S.zones.length := by have := (DevS.is_iff.1 hi).2; omega
  obtain ⟨v, a, b, c, d⟩ := h.row i hlt
  rw [DevS.zone_out hi]
  have g : ∀ k x, zs[k]? = some x → w.cell? ⟨zb, k, none⟩ = some x := fun k x e => by
    obtain ⟨hk, rfl⟩ := List.getElem?_eq_some_iff.1 e
    exact h.blk.cell k hk
  have := h.len
  have := h.room
  exact ⟨v, g _ _ a, g _ _ b, g _ _ c, d, by omega, hlt, a⟩

theorem ris_at {F : Nat → Prop} {w : World} {db zb cap : Nat} {zs : List Value} {S : DevS} (n : Int) (h : RD F w db zb cap zs S) : Calls Tryz.prog 82 #[.pointer (some ⟨db, 0, none⟩), .int .i64 n] w (BoolIs (S.is n) w) := by
  have c0 := h.c0
  have HS : Hid (S.is n = (decide (0 ≤ n) && decide (n < S.zones.length))) := Lib.hid rfl
  clear h
  by_cases h0 : 0 ≤ n
  · go_enter Tryz.func82, Tryz.ntmps82
    go_wp2_with fail
    go_ret
    exact ⟨ret_bool (by rw [HS.out]; simp [h0]), rfl⟩
  · have hq : ¬ (0 : Int) ≤ n := h0
    go_enter Tryz.func82, Tryz.ntmps82
    go_wp2_with fail
    go_ret
    exact ⟨ret_bool (by rw [HS.out]; simp; omega), rfl⟩
theorem rpoint_at {F : Nat → Prop} {w : World} {db zb cap : Nat} {zs : List Value} {S : DevS} (n : Int) (h : RD F w db zb cap zs S) : Calls Tryz.prog 46 #[.pointer (some ⟨db, 0, none⟩), .int .i64 n] w (IntIs (S.point n : Int) w) := by
  have HH := Lib.hid h
  have c0 := h.c0
  by_cases hi : S.is n = true
  · obtain ⟨hn0, hn1⟩ := DevS.is_iff.1 hi
    obtain ⟨i, rfl⟩ := Int.eq_ofNat_of_zero_le hn0
    obtain ⟨v, k0, _, _, hr, _, hlt, _⟩ := h.zone i hi
    obtain ⟨A, c, vs, rfl, _⟩ := hr.out
    have HP : Hid (S.point (i : Int) = (S.zone i).pages.length) := Lib.hid (by unfold DevS.point; rw [if_pos hi])
    have HI := Lib.hid hi
    clear h hi hr hn0
    go_enter Tryz.func46, Tryz.ntmps46
    go_wp2_with fail
    refine (ris_at _ HH.out).mono ?_
    rintro r w' ⟨rfl, rfl⟩
    rw [HI.out]
    go_wp2_with fail
    go_ret
    exact ⟨ret_int (by rw [HP.out]), rfl⟩
  · have HP : Hid (S.point n = 0) := Lib.hid (by unfold DevS.point; rw [if_neg hi])
    have HI : Hid (S.is n = false) := Lib.hid (by simpa using hi)
    clear h hi
    go_enter Tryz.func46, Tryz.ntmps46
    go_wp2_with fail
    refine (ris_at _ HH.out).mono ?_
    rintro r w' ⟨rfl, rfl⟩
    rw [HI.out]
    go_wp2_with fail
    go_ret
    exact ⟨ret_int (by rw [HP.out]; rfl), rfl⟩
theorem rsure_at {F : Nat → Prop} {w : World} {db zb cap : Nat} {zs : List Value} {S : DevS} (n : Int) (h : RD F w db zb cap zs S) : Calls Tryz.prog 48 #[.pointer (some ⟨db, 0, none⟩), .int .i64 n] w (IntIs (S.sureOf n : Int) w) := by
  have HH := Lib.hid h
  have c0 := h.c0
  by_cases hi : S.is n = true
  · obtain ⟨hn0, hn1⟩ := DevS.is_iff.1 hi
    obtain ⟨i, rfl⟩ := Int.eq_ofNat_of_zero_le hn0
    obtain ⟨v, _, k1, _, _, _, hlt, _⟩ := h.zone i hi
    have HP : Hid (S.sureOf (i : Int) = (S.zone i).sure) := Lib.hid (by unfold DevS.sureOf; rw [if_pos hi])
    have HI := Lib.hid hi
    clear h hi hn0
    go_enter Tryz.func48, Tryz.ntmps48
    go_wp2_with fail
    refine (ris_at _ HH.out).mono ?_
    rintro r w' ⟨rfl, rfl⟩
    rw [HI.out]
    go_wp2_with fail
    go_ret
    exact ⟨ret_int (by rw [HP.out]), rfl⟩
  · have HP : Hid (S.sureOf n = 0) := Lib.hid (by unfold DevS.sureOf; rw [if_neg hi])
    have HI : Hid (S.is n = false) := Lib.hid (by simpa using hi)
    clear h hi
    go_enter Tryz.func48, Tryz.ntmps48
    go_wp2_with fail
    refine (ris_at _ HH.out).mono ?_
    rintro r w' ⟨rfl, rfl⟩
    rw [HI.out]
    go_wp2_with fail
    go_ret
    exact ⟨ret_int (by rw [HP.out]; rfl), rfl⟩
theorem point_is {S : DevS} {n : Int} (h : S.point n ≠ 0) : S.is n = true := by
  unfold DevS.point at h
  split at h
  · assumption
  · exact absurd rfl h
theorem rstate_at {F : Nat → Prop} {w : World} {db zb cap : Nat} {zs : List Value} {S : DevS} (n : Int) (h : RD F w db zb cap zs S) : Calls Tryz.prog 86 #[.pointer (some ⟨db, 0, none⟩), .int .i64 n] w (IntB (S.state n) w) := by
  have HH := Lib.hid h
  have c0 := h.c0
  have c1 := h.c1
  by_cases h0 : S.point n = 0
  · have HP := Lib.hid h0
    have HS : Hid (S.state n = 0) := Lib.hid (by unfold DevS.state; rw [if_pos h0])
    clear h h0
    go_enter Tryz.func86, Tryz.ntmps86
    go_wp2_with fail
    refine (rpoint_at _ HH.out).mono ?_
    rintro r w' ⟨rfl, rfl⟩
    rw [HP.out]
    go_wp2_with fail
    go_ret
    exact ⟨ret_int (by rw [HS.out]), Below.refl _ _⟩
  · have hi := point_is h0
    obtain ⟨hn0, hn1⟩ := DevS.is_iff.1 hi
    obtain ⟨i, rfl⟩ := Int.eq_ofNat_of_zero_le hn0
    obtain ⟨v, _, _, k2, _, _, hlt, _⟩ := h.zone i hi
    have HS : Hid (S.state (i : Int) = if ((S.zone i).fin || decide (S.point (i : Int) = S.P)) = true then 2 else 1) := Lib.hid (by unfold DevS.state; rw [if_neg h0])
    obtain ⟨p, hp⟩ : ∃ p, S.point (i : Int) = p := ⟨_, rfl⟩
    have HP := Lib.hid hp
    have HIS := Lib.hid hi
    rw [hp] at h0 HS
    have hq : ((p : Int) == 0) = false := by simp; omega
    clear h hn0 hi hp
    go_enter Tryz.func86, Tryz.ntmps86
    go_wp2_with fail
    refine (rpoint_at _ HH.out).mono ?_
    rintro r w' ⟨rfl, rfl⟩
    rw [HP.out]
    cases hf : (S.zone (i : Int)).fin
    · rw [hf] at k2 HS
      have pD := fun q : In (fun u => Below w.heap.size w u) => rpoint_at (i : Int) (HH.out.up q.ok)
      rw [HP.out] at pD
      have k2' := fun q : In (fun u => Below w.heap.size w u) => (q.ok.cell (p := ⟨zb, i * 3 + 2, none⟩) (lt_of_block HH.out.blk)).trans k2
      have c0' := fun q : In (fun u => Below w.heap.size w u) => (q.ok.cell (p := ⟨db, 0, none⟩) (lt_of_block HH.out.dev)).trans c0
      have c1' := fun q : In (fun u => Below w.heap.size w u) => (q.ok.cell (p := ⟨db, 1, none⟩) (lt_of_block HH.out.dev)).trans c1
      clear k2 c0 c1
      go_wp2_with fail
      refine wp_region_in (fun u => Below w.heap.size w u) (Below.refl _ _).drew (by kernel_rfl) (by kernel_rfl) (fun ne => ?_)
      repeat (go_big_quiet_step (first
        | (go_at_call 46; with_reducible exact In.same (pD _))))
      refine wpQuiet_nil ?_
      intro nq
      have HB := Lib.hid nq.ok
      clear pD k2' c0' c1'
      by_cases he : p = S.P
      · have hq2 : ((p : Int) == (S.P : Int)) = true := by simp; omega
        go_wp2_with fail
        go_ret
        exact ⟨ret_int (by rw [HS.out]; simp [he]), HB.out⟩
      · have hq2 : ((p : Int) == (S.P : Int)) = false := by simp; omega
        go_wp2_with fail
        go_ret
        exact ⟨ret_int (by rw [HS.out]; simp [he]), HB.out⟩
    · rw [hf] at k2 HS
      have k2' := fun q : In (fun u => Below w.heap.size w u) => (q.ok.cell (p := ⟨zb, i * 3 + 2, none⟩) (lt_of_block HH.out.blk)).trans k2
      have c0' := fun q : In (fun u => Below w.heap.size w u) => (q.ok.cell (p := ⟨db, 0, none⟩) (lt_of_block HH.out.dev)).trans c0
      clear k2 c0 c1
      go_wp2_with fail
      refine wp_region_in (fun u => Below w.heap.size w u) (Below.refl _ _).drew (by kernel_rfl) (by kernel_rfl) (fun ne => ?_)
      repeat (go_big_quiet_step (first
        | fail))
      refine wpQuiet_nil ?_
      intro nq
      have HB := Lib.hid nq.ok
      clear k2' c0'
      go_wp2_with fail
      go_ret
      exact ⟨ret_int (by rw [HS.out]; simp), HB.out⟩
end Go.Proofs.YthmpimjmajoimaaGreatDoor

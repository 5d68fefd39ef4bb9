/-
  The landed device of zones in memory: at, Zones, Pages, Ops, Down, Point, Sure, State.
  The landed device: spend, at whatever closure.
-/
import Derived.Test.YthmpimjmajoimaaGreatDoorSw07
namespace Go.Proofs.YthmpimjmajoimaaGreatDoor
open Go.RowKit

/-- Pages of a zone: nil, or a row of a block of colour k; each page's bytes lie in blocks of colour 0. -/
def Pg (E : Nat → Prop) (col : Nat → Nat) (k : Nat) (w : World) (v : Value) (l : List (List Int)) : Prop :=
  ∃ vs, RowV w 0 61 v vs ∧ (∀ g, v.ownBlock = some g → E g ∧ col g = k) ∧ vs.length = l.length ∧ ∀ i (h : i < vs.length) (h2 : i < l.length), BytF (fun j => E j ∧ col j = 0) w vs[i] l[i]
theorem Pg.keep {E G : Nat → Prop} {col : Nat → Nat} {k : Nat} {w w' : World} {v : Value} {l : List (List Int)} (h : Pg E col k w v l) (hk : Kept G w w') (hn : ∀ j, E j → col j = k ∨ col j = 0 → ¬ G j) : Pg E col k w' v l := by
  obtain ⟨vs, hr, ho, hl, hx⟩ := h
  exact ⟨vs, hr.keep hk (fun g hg => hn g (ho g hg).1 (.inl (ho g hg).2)), ho, hl, fun i h1 h2 => (hx i h1 h2).keep hk (fun j hj => hn j hj.1 (.inr hj.2))⟩
theorem Pg.mono {E G : Nat → Prop} {col col' : Nat → Nat} {k : Nat} {w : World} {v : Value} {l : List (List Int)} (h : Pg E col k w v l) (hfg : ∀ j, E j → col j = k ∨ col j = 0 → G j ∧ col' j = col j) : Pg G col' k w v l := by
  obtain ⟨vs, hr, ho, hl, hx⟩ := h
  refine ⟨vs, hr, fun g hg => ?_, hl, fun i h1 h2 => (hx i h1 h2).mono (fun j hj => ?_)⟩
  · obtain ⟨a, b⟩ := ho g hg
    obtain ⟨c, d⟩ := hfg g a (.inl b)
    exact ⟨c, d.trans b⟩
  · obtain ⟨c, d⟩ := hfg j hj.1 (.inr hj.2)
    exact ⟨c, d.trans hj.2⟩
theorem Pg.nil (E : Nat → Prop) (col : Nat → Nat) (k : Nat) (w : World) : Pg E col k w (.slice none 0 0) [] := ⟨[], ⟨rfl, .inl ⟨rfl, rfl⟩⟩, (fun g hg => by cases hg), rfl, fun i h => by simp at h⟩

/-- The fuse's cell. -/
def leftOf (f : Int) : Int := if f < 0 then -1 else f
/-- The landed device S at block db: its zones at block zb, its fuse f; all of it within F. -/
structure LD (F : Nat → Prop) (w : World) (db zb cap : Nat) (f : Int) (col : Nat → Nat) (zs : List Value) (S : DevS) : Prop where
  dev : Blk w db 79 [.slice (some ⟨zb, 0, none⟩) S.zones.length cap, .int .i64 (S.P : Int), .int .i64 f, .int .i64 (S.done : Int), .bool S.gone]
  left : S.left = leftOf f
  blk : Blk w zb 119 zs
  row : ∀ i (h : i < S.zones.length), ∃ v, zs[i * 3]? = some (.int .i64 (S.zones[i].sure : Int)) ∧ zs[i * 3 + 1]? = some (.bool S.zones[i].fin) ∧ zs[i * 3 + 2]? = some v ∧ Pg (fun k => F k ∧ k ≠ db ∧ k ≠ zb) col (i + 1) w v S.zones[i].pages
  room : S.zones.length ≤ cap
  len : zs.length = 3 * cap
  fd : F db
  fz : F zb
  ne : db ≠ zb
  lt : ∀ k, F k → k < w.heap.size
  wf : S.WF
def LDev (F : Nat → Prop) (w : World) (db : Nat) (S : DevS) : Prop := ∃ zb cap f col zs, LD F w db zb cap f col zs S
section
variable {F G : Nat → Prop} {w w' : World} {db zb cap : Nat} {f : Int} {col : Nat → Nat} {zs : List Value} {S S' : DevS}
theorem LD.keep (h : LD F w db zb cap f col zs S) (hk : Kept G w w') (hn : ∀ k, F k → ¬ G k) : LD F w' db zb cap f col zs S :=
  ⟨hk.blk h.dev (hn _ h.fd), h.left, hk.blk h.blk (hn _ h.fz), fun i hi => by obtain ⟨v, a, b, c, d⟩ := h.row i hi; exact ⟨v, a, b, c, d.keep hk (fun k hf _ => hn k hf.1)⟩, h.room, h.len, h.fd, h.fz, h.ne, fun k hf => Nat.lt_of_lt_of_le (h.lt k hf) hk.size, h.wf⟩
theorem LD.up (h : LD F w db zb cap f col zs S) (hb : Below w.heap.size w w') : LD F w' db zb cap f col zs S := h.keep (G := fun _ => False) (Kept.of_below hb) (fun _ _ => id)
theorem LD.mono (h : LD F w db zb cap f col zs S) (hfg : ∀ k, F k → G k) (hlt : ∀ k, G k → k < w.heap.size) : LD G w db zb cap f col zs S :=
  ⟨h.dev, h.left, h.blk, fun i hi => by obtain ⟨v, a, b, c, d⟩ := h.row i hi; exact ⟨v, a, b, c, d.mono (fun k hk _ => ⟨⟨hfg k hk.1, hk.2⟩, rfl⟩)⟩, h.room, h.len, hfg _ h.fd, hfg _ h.fz, h.ne, hlt, h.wf⟩
theorem LD.gro {w0 : World} (h : LD F w' db zb cap f col zs S) : LD (grow F w0 w') w' db zb cap f col zs S := h.mono (fun _ hk => .inl hk) (fun k hk => hk.elim (h.lt k) (fun x => x.2))
theorem LD.c0 (h : LD F w db zb cap f col zs S) : w.cell? ⟨db, 0, none⟩ = some (.slice (some ⟨zb, 0, none⟩) S.zones.length cap) := h.dev.cell 0 (by simp)
theorem LD.c1 (h : LD F w db zb cap f col zs S) : w.cell? ⟨db, 1, none⟩ = some (.int .i64 (S.P : Int)) := h.dev.cell 1 (by simp)
theorem LD.c2 (h : LD F w db zb cap f col zs S) : w.cell? ⟨db, 2, none⟩ = some (.int .i64 f) := h.dev.cell 2 (by simp)
theorem LD.c3 (h : LD F w db zb cap f col zs S) : w.cell? ⟨db, 3, none⟩ = some (.int .i64 (S.done : Int)) := h.dev.cell 3 (by simp)
theorem LD.c4 (h : LD F w db zb cap f col zs S) : w.cell? ⟨db, 4, none⟩ = some (.bool S.gone) := h.dev.cell 4 (by simp)
/-- Zone number i's cells. -/
theorem LD.zone (h : LD F w db zb cap f col zs S) (i : Nat) (hi : S.is (i : Int) = true) :
    ∃ v, w.cell? ⟨zb, i * 3, none⟩ = some (.int .i64 ((S.zone i).sure : Int)) ∧ w.cell? ⟨zb, i * 3 + 1, none⟩ = some (.bool (S.zone i).fin) ∧ w.cell? ⟨zb, i * 3 + 2, none⟩ = some v ∧ Pg (fun k => F k ∧ k ≠ db ∧ k ≠ zb) col (i + 1) w v (S.zone i).pages ∧ i * 3 + 2 < zs.length ∧ i < S.zones.length ∧
      zs[i * 3]? = some (.int .i64 ((S.zone i).sure : Int)) ∧ zs[i * 3 + 1]? = some (.bool (S.zone i).fin) ∧ zs[i * 3 + 2]? = some v := by
  have hlt : i < S.zones.length := by have := (DevS.is_iff.1 hi).2; omega
  obtain ⟨v, a, b, c, d⟩ := h.row i hlt
  rw [DevS.zone_out hi]
  have g : ∀ k x, zs[k]? = some x → w.cell? ⟨zb, k, none⟩ = some x := fun k x e => by
    obtain ⟨hk, rfl⟩ := List.getElem?_eq_some_iff.1 e
    exact h.blk.cell k hk
  have := h.len
  have := h.room
  exact ⟨v, g _ _ a, g _ _ b, g _ _ c, d, by omega, hlt, a, b, c⟩
/-- A cell of the device is stored. -/
def ldevCells (zb cap : Nat) (f : Int) (S : DevS) : List Value := [.slice (some ⟨zb, 0, none⟩) S.zones.length cap, .int .i64 (S.P : Int), .int .i64 f, .int .i64 (S.done : Int), .bool S.gone]
theorem LD.setDev {f' : Int} (h : LD F w db zb cap f col zs S) (k : Nat) (v : Value) (hc : (ldevCells zb cap f S).set k v = ldevCells zb cap f' S') (hz : S'.zones = S.zones) (hl : S'.left = leftOf f') (hwf : S'.WF) : LD F (w.setCell ⟨db, k, none⟩ v) db zb cap f' col zs S' := by
  have hk := kept_put w db k v
  refine ⟨?_, hl, hk.blk h.blk (fun e => h.ne e.symm), ?_, by rw [hz]; exact h.room, h.len, h.fd, h.fz, h.ne, fun i hi => Nat.lt_of_lt_of_le (h.lt i hi) hk.size, hwf⟩
  · have := Blk.put h.dev k v
    rwa [show ([.slice (some ⟨zb, 0, none⟩) S.zones.length cap, .int .i64 (S.P : Int), .int .i64 f, .int .i64 (S.done : Int), .bool S.gone] : List Value).set k v = ldevCells zb cap f' S' from hc] at this
  · intro i hi
    have hi' : i < S.zones.length := by rw [← hz]; exact hi
    obtain ⟨x, a, b, c, d⟩ := h.row i hi'
    have e : S'.zones[i] = S.zones[i] := by simp only [hz]
    rw [e]
    exact ⟨x, a, b, c, d.keep hk (fun j hj _ => hj.2.1)⟩
/-- One zone's cells are stored anew; its pages may lie in its own blocks, anew. -/
theorem LD.setZone {col' : Nat → Nat} {i : Nat} {zs' : List Value} {z : ZoneS} {v : Value} (h : LD F w db zb cap f col zs S) (_hi : i < S.zones.length) (hz : Blk w' zb 119 zs') (hk : Kept (fun k => k = zb ∨ (F k ∧ k ≠ db ∧ k ≠ zb ∧ col k = i + 1)) w w') (hl : zs'.length = zs.length)
    (hs : ∀ k, k ≠ i * 3 → k ≠ i * 3 + 1 → k ≠ i * 3 + 2 → zs'[k]? = zs[k]?) (h0 : zs'[i * 3]? = some (.int .i64 (z.sure : Int))) (h1 : zs'[i * 3 + 1]? = some (.bool z.fin)) (h2 : zs'[i * 3 + 2]? = some v) (hcol : ∀ k, F k → col' k = col k)
    (hr : Pg (fun k => grow F w w' k ∧ k ≠ db ∧ k ≠ zb) col' (i + 1) w' v z.pages) (hwf : (S.put (i : Int) z).WF) :
    LD (grow F w w') w' db zb cap f col' zs' (S.put (i : Int) z) := by
  refine ⟨?_, h.left, hz, ?_, by simp only [DevS.put, List.length_set]; exact h.room, by rw [hl]; exact h.len, .inl h.fd, .inl h.fz, h.ne, fun k hj => hj.elim (fun hj => Nat.lt_of_lt_of_le (h.lt k hj) hk.size) (fun x => x.2), hwf⟩
  · have := hk.blk h.dev (fun e => e.elim h.ne (fun x => x.2.1 rfl))
    simpa only [DevS.put, List.length_set] using this
  · intro j hj
    simp only [DevS.put, List.length_set, Int.toNat_natCast] at hj ⊢
    by_cases e : i = j
    · subst e
      rw [List.getElem_set_self]
      exact ⟨v, h0, h1, h2, hr⟩
    · rw [List.getElem_set_ne e]
      obtain ⟨x, a, b, c, d⟩ := h.row j hj
      exact ⟨x, by rw [hs _ (by omega) (by omega) (by omega)]; exact a, by rw [hs _ (by omega) (by omega) (by omega)]; exact b, by rw [hs _ (by omega) (by omega) (by omega)]; exact c,
        (d.keep hk (fun k hk2 hc => by
          rintro (e1 | e1)
          · exact hk2.2.2 e1
          · have := e1.2.2.2
            omega)).mono (fun k hk2 _ => ⟨⟨.inl hk2.1, hk2.2⟩, hcol k hk2.1⟩)⟩
/-- A zone, or an empty one that is no device's. -/
def AtIs (zb : Nat) (S : DevS) (n : Int) (w : World) (r : Ending) (w' : World) : Prop :=
  ∃ (b o : Nat) (A : Option Addr) (c : Nat) (fi : Bool), r = .returned (.tuple #[.pointer (some ⟨b, o, none⟩), .bool (S.is n)]) ∧ Below w.heap.size w w' ∧ w'.cell? ⟨b, o, none⟩ = some (.int .i64 (S.sureOf n : Int)) ∧ w'.cell? ⟨b, o + 1, none⟩ = some (.bool fi) ∧ w'.cell? ⟨b, o + 2, none⟩ = some (.slice A (S.point n) c) ∧
    b < w'.heap.size ∧ (S.is n = true → b = zb ∧ o = n.toNat * 3 ∧ w' = w ∧ fi = (S.zone n).fin)
theorem Pg.form {E : Nat → Prop} {k : Nat} {v : Value} {l : List (List Int)} (h : Pg E col k w v l) : ∃ A c, v = .slice A l.length c := by
  obtain ⟨vs, hr, _, hl, _⟩ := h
  obtain ⟨A, c, e, _⟩ := hr.out
  exact ⟨A, c, by rw [e, hl]⟩
theorem lat_at (n : Int) (h : LD F w db zb cap f col zs S) : Calls Tryz.prog 68 #[.pointer (some ⟨db, 0, none⟩), .int .i64 n] w (AtIs zb S n w) := by
  have c0 := h.c0
  by_cases hi : S.is n = true
  · obtain ⟨hn0, hn1⟩ := DevS.is_iff.1 hi
    obtain ⟨i, rfl⟩ := Int.eq_ofNat_of_zero_le hn0
    obtain ⟨v, k0, k1, k2, hp, _, hlt, _⟩ := h.zone i hi
    obtain ⟨A, c, rfl⟩ := hp.form
    have HK := Lib.hid (And.intro k0 (And.intro k1 k2))
    have HB := Lib.hid (lt_of_block h.blk)
    have HP : Hid (S.point (i : Int) = (S.zone i).pages.length ∧ S.sureOf (i : Int) = (S.zone i).sure) := Lib.hid ⟨by unfold DevS.point; rw [if_pos hi], by unfold DevS.sureOf; rw [if_pos hi]⟩
    have HI := Lib.hid hi
    clear h hi hn0 hp k0 k1 k2
    go_enter Tryz.func68, Tryz.ntmps68
    go_wp2_with fail
    go_ret2
    refine ⟨zb, i * 3, A, c, _, by rw [HI.out]; rfl, Below.refl _ _, by rw [HP.out.2]; exact HK.out.1, HK.out.2.1, by rw [HP.out.1]; exact HK.out.2.2, HB.out, fun _ => ⟨rfl, rfl, rfl, rfl⟩⟩
  · have HI : Hid (S.is n = false) := Lib.hid (by simpa using hi)
    have HP : Hid (S.point n = 0 ∧ S.sureOf n = 0) := Lib.hid ⟨by unfold DevS.point; rw [if_neg hi], by unfold DevS.sureOf; rw [if_neg hi]⟩
    have HB := Lib.hid (Below.alloc (Below.refl w.heap.size w) (Nat.le_refl _) (.cells #[.int .i64 0, .bool false, .slice none 0 0] 119))
    have HE : Hid (Blk (w.alloc (.cells #[.int .i64 0, .bool false, .slice none 0 0] 119)) w.heap.size 119 [.int .i64 0, .bool false, .slice none 0 0]) := Lib.hid (heap_alloc_new w _)
    have HEND : Hid (AtIs zb S n w (.returned (.tuple #[.pointer (some ⟨w.heap.size, 0, none⟩), .bool false])) (w.alloc (.cells #[.int .i64 0, .bool false, .slice none 0 0] 119))) := Lib.hid (by
      refine ⟨w.heap.size, 0, none, 0, false, by rw [HI.out], HB.out, ?_, ?_, ?_, lt_of_block HE.out, fun e => absurd e hi⟩
      · rw [HP.out.2]; exact HE.out.cell 0 (by simp)
      · exact HE.out.cell 1 (by simp)
      · rw [HP.out.1]; exact HE.out.cell 2 (by simp))
    by_cases h0 : n < 0
    · clear h hi
      go_enter Tryz.func68, Tryz.ntmps68
      go_wp2_with fail
      go_ret2
      exact HEND.out
    · have h1 : (S.zones.length : Int) ≤ n := by
        have : ¬ (0 ≤ n ∧ n < S.zones.length) := fun e => hi (DevS.is_iff.2 e)
        omega
      have h2 : 0 ≤ n := by omega
      clear h hi
      go_enter Tryz.func68, Tryz.ntmps68
      go_wp2_with fail
      go_ret2
      exact HEND.out
theorem lzones_at (h : LD F w db zb cap f col zs S) : Calls Tryz.prog 35 #[.pointer (some ⟨db, 0, none⟩)] w (IntB (S.zones.length : Int) w) := by
  have c0 := h.c0
  clear h
  go_enter Tryz.func35, Tryz.ntmps35
  go_wp2_with fail
  go_ret
  exact ⟨rfl, Below.refl _ _⟩
theorem lpages_at (h : LD F w db zb cap f col zs S) : Calls Tryz.prog 74 #[.pointer (some ⟨db, 0, none⟩)] w (IntB (S.P : Int) w) := by
  have c1 := h.c1
  clear h
  go_enter Tryz.func74, Tryz.ntmps74
  go_wp2_with fail
  go_ret
  exact ⟨rfl, Below.refl _ _⟩
theorem lops_at (h : LD F w db zb cap f col zs S) : Calls Tryz.prog 27 #[.pointer (some ⟨db, 0, none⟩)] w (IntB (S.done : Int) w) := by
  have c3 := h.c3
  clear h
  go_enter Tryz.func27, Tryz.ntmps27
  go_wp2_with fail
  go_ret
  exact ⟨rfl, Below.refl _ _⟩
theorem ldown_at (h : LD F w db zb cap f col zs S) : Calls Tryz.prog 45 #[.pointer (some ⟨db, 0, none⟩)] w (BoolB S.gone w) := by
  have c4 := h.c4
  clear h
  go_enter Tryz.func45, Tryz.ntmps45
  go_wp2_with fail
  go_ret
  exact ⟨rfl, Below.refl _ _⟩
theorem lpoint_at (n : Int) (h : LD F w db zb cap f col zs S) : Calls Tryz.prog 33 #[.pointer (some ⟨db, 0, none⟩), .int .i64 n] w (IntB (S.point n : Int) w) := by
  have HH := Lib.hid h
  clear h
  go_enter Tryz.func33, Tryz.ntmps33
  go_wp2_with fail
  refine (lat_at n HH.out).mono ?_
  rintro r w' ⟨b, o, A, c, fi, rfl, hb, k0, k1, k2, _, _⟩
  have HB := Lib.hid hb
  clear hb
  go_wp2_with fail
  go_ret
  exact ⟨rfl, HB.out⟩
theorem lsure_at (n : Int) (h : LD F w db zb cap f col zs S) : Calls Tryz.prog 47 #[.pointer (some ⟨db, 0, none⟩), .int .i64 n] w (IntB (S.sureOf n : Int) w) := by
  have HH := Lib.hid h
  clear h
  go_enter Tryz.func47, Tryz.ntmps47
  go_wp2_with fail
  refine (lat_at n HH.out).mono ?_
  rintro r w' ⟨b, o, A, c, fi, rfl, hb, k0, k1, k2, _, _⟩
  have HB := Lib.hid hb
  clear hb
  go_wp2_with fail
  go_ret
  exact ⟨rfl, HB.out⟩
theorem lstate_at (n : Int) (h : LD F w db zb cap f col zs S) : Calls Tryz.prog 106 #[.pointer (some ⟨db, 0, none⟩), .int .i64 n] w (IntB (S.state n) w) := by
  have HH := Lib.hid h
  have c1 := h.c1
  have HS : Hid (S.state n = if S.point n = 0 then 0 else if ((S.zone n).fin || decide (S.point n = S.P)) = true then 2 else 1) := Lib.hid rfl
  have hdb := lt_of_block h.dev
  clear h
  go_enter Tryz.func106, Tryz.ntmps106
  go_wp2_with fail
  refine (lat_at n HH.out).mono ?_
  rintro r w' ⟨b, o, A, c, fi, rfl, hb, k0, k1, k2, _, hx⟩
  have HB := Lib.hid hb
  have HX := Lib.hid hx
  have c1' := (hb.cell (p := ⟨db, 1, none⟩) hdb).trans c1
  have HQ : Hid (S.point n ≠ 0 → fi = (S.zone n).fin) := Lib.hid (fun e => (hx (point_is e)).2.2.2)
  obtain ⟨p, hp⟩ : ∃ p, S.point n = p := ⟨_, rfl⟩
  rw [hp] at k2 HS HQ
  clear hb hx hp c1
  by_cases h0 : p = 0
  · subst h0
    go_wp2_with fail
    go_ret
    exact ⟨ret_int (by rw [HS.out]; rfl), HB.out⟩
  · have hq : ((p : Int) == 0) = false := by simp; omega
    have hfi := HQ.out h0
    subst hfi
    rw [if_neg h0] at HS
    generalize (S.zone n).fin = fi at *
    cases fi
    · by_cases he : p = S.P
      · have hq2 : ((p : Int) == (S.P : Int)) = true := by simp; omega
        have HS2 : Hid (S.state n = 2) := Lib.hid (by rw [HS.out]; simp [he])
        clear he HS HQ HX
        go_wp2_with fail
        go_region
        go_wp2_with fail
        go_ret
        exact ⟨ret_int (by rw [HS2.out]), HB.out.drew⟩
      · have hq2 : ((p : Int) == (S.P : Int)) = false := by simp; omega
        have HS2 : Hid (S.state n = 1) := Lib.hid (by rw [HS.out]; simp [he])
        clear he HS HQ HX
        go_wp2_with fail
        go_region
        go_wp2_with fail
        go_ret
        exact ⟨ret_int (by rw [HS2.out]), HB.out.drew⟩
    · have HS2 : Hid (S.state n = 2) := Lib.hid (by rw [HS.out]; simp)
      clear HS HQ HX
      go_wp2_with fail
      go_region
      go_wp2_with fail
      go_ret
      exact ⟨ret_int (by rw [HS2.out]), HB.out.drew⟩
end
end Go.Proofs.YthmpimjmajoimaaGreatDoor
namespace Go.Proofs.YthmpimjmajoimaaGreatDoor
open Go.RowKit

section
variable {F G : Nat → Prop} {w w' : World} {db zb cap : Nat} {f : Int} {col : Nat → Nat} {zs : List Value} {S S' : DevS}
theorem left_zero (h : S.left = leftOf f) : S.left = 0 ↔ f = 0 := by unfold leftOf at h; split at h <;> omega
theorem left_pos (h : S.left = leftOf f) : 0 < S.left ↔ 0 < f := by unfold leftOf at h; split at h <;> omega
theorem mayE_spend (hg : S.gone = false) : S.mayE 0 = if S.left = 0 then 7 else 0 := by simp [DevS.mayE, hg]
/-- A call of a function that has a body of its own. -/
theorem enter_fn {P : Program} {g : Nat} {fn : Func} (hf : P.funcs[g]? = some fn) (hn : (fn.name == "runtime.NumGoroutine") = false) (hb : fn.body.isSome = true) (args : Array Value) (u : World) : (callFunc g args).run P u = .ok (.enter g args) u := by
  obtain ⟨c, hc⟩ := Option.isSome_iff_exists.1 hb
  have h1 : fn.name ≠ "runtime.NumGoroutine" := by simpa using hn
  simp [callFunc, hf, h1, hc]
/-- What spend answers, where the power is there. -/
def SpendIs (F : Nat → Prop) (db zb cap : Nat) (col : Nat → Nat) (zs : List Value) (S : DevS) (R : World → World → Prop) (w : World) (r : Ending) (w' : World) : Prop :=
  (S.mayE 0 = 0 ∧ r = .returned .nilIface ∧ ∃ w1 f', LD F w1 db zb cap f' col zs (S.mayS 0) ∧ Kept (fun k => k = db) w w1 ∧ R w1 w') ∨
  (S.mayE 0 = 7 ∧ r = .returned (errV 7) ∧ ∃ f', LD F w' db zb cap f' col zs (S.mayS 0) ∧ Kept (fun k => k = db) w w')
theorem lspend_at (N : Nat) (cs : Array Value) (R : World → World → Prop) (h : LD F w db zb cap f col zs S) (hd : S.done ≤ 1000000) (hg : S.gone = false) (hrun : ∀ u, (callFunc N cs).run Tryz.prog u = .ok (.enter N cs) u)
    (hc : S.mayE 0 = 0 → ∀ w1 f', LD F w1 db zb cap f' col zs (S.mayS 0) → Kept (fun k => k = db) w w1 → Calls Tryz.prog N cs w1 fun r w' => r = .returned (.tuple #[]) ∧ R w1 w') :
    Calls Tryz.prog 104 #[.pointer (some ⟨db, 0, none⟩), .func (.func N) #[] cs] w (SpendIs F db zb cap col zs S R w) := by
  have HC := Lib.hid hc
  have HH := Lib.hid h
  have c2 := h.c2
  have c3 := h.c3
  have c4 := h.c4
  have f2 := h.dev.free 2
  have f3 := h.dev.free 3
  have f4 := h.dev.free 4
  have HL := Lib.hid (DevS.mayS_wf h.wf 0)
  have HE := Lib.hid (mayE_spend hg)
  have hl0 := left_zero h.left
  have hlp := left_pos h.left
  clear hc
  by_cases hl : f = 0
  · subst hl
    have HS : Hid (S.mayS 0 = { S with gone := true }) := Lib.hid (by simp [DevS.mayS, hg, hl0.2 rfl])
    have HR : Hid (LD F (w.setCell ⟨db, 4, none⟩ (.bool true)) db zb cap 0 col zs (S.mayS 0)) := Lib.hid (by
      rw [HS.out]
      exact h.setDev 4 _ rfl rfl h.left (by rw [← HS.out]; exact HL.out))
    have HK := Lib.hid (kept_put w db 4 (.bool true))
    have HM : Hid (S.mayE 0 = 7) := Lib.hid (by rw [HE.out, if_pos (hl0.2 rfl)])
    clear h hg hl0 hlp HL
    go_enter Tryz.func104, Tryz.ntmps104
    go_wp2_with fail
    go_ret
    exact .inr ⟨HM.out, rfl, 0, HR.out, HK.out⟩
  · have ql : (f == 0) = false := by simpa using hl
    have hSl : ¬ S.left = 0 := fun e => hl (hl0.1 e)
    have HM : Hid (S.mayE 0 = 0) := Lib.hid (by rw [HE.out, if_neg hSl])
    by_cases hp : 0 < f
    · have hSp := hlp.2 hp
      have hfl : S.left = f := by have := h.left; unfold leftOf at this; split at this <;> omega
      have HS : Hid (S.mayS 0 = { S with left := f - 1, done := S.done + 1 }) := Lib.hid (by simp only [DevS.mayS, hg, hfl, hl, hp, if_true, if_false, ne_eq, not_true_eq_false, Bool.false_eq_true])
      have hl1 := h.wf.l1
      have hw1 : ({ S with left := f - 1 } : DevS).WF := ⟨h.wf.z0, h.wf.z1, h.wf.p0, h.wf.p1, by simp only; omega, by simp only; omega, h.wf.pages⟩
      have hlo : f - 1 = leftOf (f - 1) := by unfold leftOf; split <;> omega
      have H1 := h.setDev (S' := { S with left := f - 1 }) (f' := f - 1) 2 (.int .i64 (f - 1)) rfl rfl hlo hw1
      have HR : Hid (LD F ((w.setCell ⟨db, 2, none⟩ (.int .i64 (f - 1))).setCell ⟨db, 3, none⟩ (.int .i64 ((S.done : Int) + 1))) db zb cap (f - 1) col zs (S.mayS 0)) := Lib.hid (by
        rw [HS.out]
        refine H1.setDev 3 _ ?_ rfl hlo (by rw [← HS.out]; exact HL.out)
        simp [ldevCells])
      have HK := Lib.hid (((Kept.refl (fun k => k = db) w).put (.inl rfl) 2 (.int .i64 (f - 1))).put (.inl rfl) 3 (.int .i64 ((S.done : Int) + 1)))
      have hf1 : f ≤ 9223372036854775807 := by omega
      have hx := HC.out HM.out _ _ HR.out HK.out
      have HX := Lib.hid hx
      generalize S.done = sd at *
      clear h hg H1 hw1 HL hlo hl0 hlp hSl hSp hfl hx hl1 HC
      go_enter Tryz.func104, Tryz.ntmps104
      go_wp2_with fail
      refine HX.out.mono ?_
      rintro r w' ⟨rfl, hR⟩
      have HRR := Lib.hid hR
      clear hR
      go_wp2_with fail
      go_ret
      exact .inl ⟨HM.out, rfl, _, _, HR.out, HK.out, HRR.out⟩
    · have hSp : ¬ 0 < S.left := fun e => hp (hlp.1 e)
      have HS : Hid (S.mayS 0 = { S with done := S.done + 1 }) := Lib.hid (by simp [DevS.mayS, hg, hSl, hSp])
      have HR : Hid (LD F (w.setCell ⟨db, 3, none⟩ (.int .i64 ((S.done : Int) + 1))) db zb cap f col zs (S.mayS 0)) := Lib.hid (by
        rw [HS.out]
        refine h.setDev 3 _ ?_ rfl h.left (by rw [← HS.out]; exact HL.out)
        simp [ldevCells])
      have HK := Lib.hid (kept_put w db 3 (.int .i64 ((S.done : Int) + 1)))
      have hp2 : f ≤ 0 := by omega
      have hx := HC.out HM.out _ _ HR.out HK.out
      have HX := Lib.hid hx
      generalize S.done = sd at *
      clear h hg HL hl0 hlp hSl hSp hx HC
      go_enter Tryz.func104, Tryz.ntmps104
      go_wp2_with fail
      refine HX.out.mono ?_
      rintro r w' ⟨rfl, hR⟩
      have HRR := Lib.hid hR
      clear hR
      go_wp2_with fail
      go_ret
      exact .inl ⟨HM.out, rfl, _, _, HR.out, HK.out, HRR.out⟩
end
end Go.Proofs.YthmpimjmajoimaaGreatDoor

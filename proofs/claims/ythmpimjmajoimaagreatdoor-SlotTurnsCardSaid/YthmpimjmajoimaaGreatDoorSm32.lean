/-
  The landed device's calls, the errors that are told, and the landed slots' calls as bundles of contracts; checkpoints in memory; large.
  Plain mathematics of slots: the newest one where nothing crashed; how many calls a write is; the checkpoints of awake; slots apart.
-/
import Derived.Test.YthmpimjmajoimaaGreatDoorSm18
import Derived.Test.YthmpimjmajoimaaGreatDoorSm29
import Derived.Test.YthmpimjmajoimaaGreatDoorSm31
namespace Go.Proofs.YthmpimjmajoimaaGreatDoor
open Go.RowKit

/-- The landed device, whatever its memory looks like, and its calls' contracts (FIELDS). -/
structure ZBas where
  D : (Nat → Prop) → World → Nat → DevS → Prop
  keep : ∀ {F G : Nat → Prop} {w w' : World} {db : Nat} {S : DevS}, D F w db S → Kept G w w' → (∀ k, F k → ¬ G k) → D F w' db S
  lt : ∀ {F : Nat → Prop} {w : World} {db : Nat} {S : DevS}, D F w db S → ∀ k, F k → k < w.heap.size
  wf : ∀ {F : Nat → Prop} {w : World} {db : Nat} {S : DevS}, D F w db S → S.WF
  mono : ∀ {F G : Nat → Prop} {w : World} {db : Nat} {S : DevS}, D F w db S → (∀ k, F k → G k) → (∀ k, G k → k < w.heap.size) → D G w db S
  new : ∀ {w : World} (n p : Int), Calls Tryz.prog 9 #[.int .i64 n, .int .i64 p] w (ZMade D (newD n p) w)
  load : ∀ {w : World} (p : Int) (v : Value) (l : List (List (List Int))), Rows3 w v l → (∀ z ∈ l, ∀ b ∈ z, Byt b) → l.length ≤ 30 → (∀ z ∈ l, z.length ≤ 30 ∧ ∀ b ∈ z, b.length ≤ 100) → Calls Tryz.prog 25 #[.int .i64 p, v] w (ZMade D (loadD p l) w)
  zones : ∀ {F : Nat → Prop} {w : World} {db : Nat} {S : DevS}, D F w db S → Calls Tryz.prog 35 #[.pointer (some ⟨db, 0, none⟩)] w (IntB (S.zones.length : Int) w)
  pages : ∀ {F : Nat → Prop} {w : World} {db : Nat} {S : DevS}, D F w db S → Calls Tryz.prog 74 #[.pointer (some ⟨db, 0, none⟩)] w (IntB (S.P : Int) w)
  ops : ∀ {F : Nat → Prop} {w : World} {db : Nat} {S : DevS}, D F w db S → Calls Tryz.prog 27 #[.pointer (some ⟨db, 0, none⟩)] w (IntB (S.done : Int) w)
  down : ∀ {F : Nat → Prop} {w : World} {db : Nat} {S : DevS}, D F w db S → Calls Tryz.prog 45 #[.pointer (some ⟨db, 0, none⟩)] w (BoolB S.gone w)
  point : ∀ {F : Nat → Prop} {w : World} {db : Nat} {S : DevS} (n : Int), D F w db S → Calls Tryz.prog 33 #[.pointer (some ⟨db, 0, none⟩), .int .i64 n] w (IntB (S.point n : Int) w)
  sure : ∀ {F : Nat → Prop} {w : World} {db : Nat} {S : DevS} (n : Int), D F w db S → Calls Tryz.prog 47 #[.pointer (some ⟨db, 0, none⟩), .int .i64 n] w (IntB (S.sureOf n : Int) w)
  append : ∀ {F : Nat → Prop} {w : World} {db : Nat} {S : DevS} (n : Int) (v : Value) (b : List Int), D F w db S → S.done ≤ 1000000 → BytF (fun k => ¬ F k) w v b → Byt b → b.length ≤ 100 →
    Calls Tryz.prog 77 #[.pointer (some ⟨db, 0, none⟩), .int .i64 n, v] w (ZDone D F db (S.app n b) (.tuple #[.int .i64 (S.appN n b), errV (S.mayE (S.appE n b))]) w)
  read : ∀ {F : Nat → Prop} {w : World} {db : Nat} {S : DevS} (n p : Int), D F w db S → Calls Tryz.prog 49 #[.pointer (some ⟨db, 0, none⟩), .int .i64 n, .int .i64 p] w (ZRead (S.readB n p) (S.readE n p) w)
  reset : ∀ {F : Nat → Prop} {w : World} {db : Nat} {S : DevS} (n : Int), D F w db S → S.done ≤ 1000000 → Calls Tryz.prog 76 #[.pointer (some ⟨db, 0, none⟩), .int .i64 n] w (ZDone D F db (S.reset n) (errV (S.mayE (S.resetE n))) w)
  flush : ∀ {F : Nat → Prop} {w : World} {db : Nat} {S : DevS}, D F w db S → S.done ≤ 1000000 → Calls Tryz.prog 78 #[.pointer (some ⟨db, 0, none⟩)] w (ZDone D F db S.flush (errV (S.mayE 0)) w)
  fuse : ∀ {F : Nat → Prop} {w : World} {db : Nat} {S : DevS} (n : Int), D F w db S → n ≤ 9223372036854775807 → Calls Tryz.prog 11 #[.pointer (some ⟨db, 0, none⟩), .int .i64 n] w (ZDone D F db (S.fuse n) (.tuple #[]) w)
  crash : ∀ {F : Nat → Prop} {w : World} {db : Nat} {S : DevS} (vk vt : Value) (keep : List Int) (tear : List Bool), D F w db S → RowF (fun k => ¬ F k) w vk (kCells keep) → RowF (fun k => ¬ F k) w vt (tCells tear) → keep.length ≤ 100 → tear.length ≤ 100 → (∀ n ∈ keep, Wd n) →
    Calls Tryz.prog 30 #[.pointer (some ⟨db, 0, none⟩), vk, vt] w (ZDone D F db (S.crash keep tear) (.tuple #[]) w)
theorem ZBas.up (Z : ZBas) {F : Nat → Prop} {w w' : World} {db : Nat} {S : DevS} (h : Z.D F w db S) (hb : Below w.heap.size w w') : Z.D F w' db S := Z.keep h (G := fun _ => False) (Kept.of_below hb) (fun _ _ => id)
/-- The landed device's contracts (FIELDS). -/
noncomputable def zBas : ZBas where
  D := LDev
  keep := fun ⟨zb, cap, f, col, zs, h⟩ hk hn => ⟨zb, cap, f, col, zs, h.keep hk hn⟩
  lt := fun ⟨_, _, _, _, _, h⟩ => h.lt
  wf := fun ⟨_, _, _, _, _, h⟩ => h.wf
  mono := fun ⟨zb, cap, f, col, zs, h⟩ hfg hlt => ⟨zb, cap, f, col, zs, h.mono hfg hlt⟩
  new := fun n p => lnew_at n p
  load := fun p v l h hby _ hz => lload_dev p v l h hby (fun z hm => (hz z hm).1)
  zones := fun ⟨_, _, _, _, _, h⟩ => lzones_at h
  pages := fun ⟨_, _, _, _, _, h⟩ => lpages_at h
  ops := fun ⟨_, _, _, _, _, h⟩ => lops_at h
  down := fun ⟨_, _, _, _, _, h⟩ => ldown_at h
  point := fun n ⟨_, _, _, _, _, h⟩ => lpoint_at n h
  sure := fun n ⟨_, _, _, _, _, h⟩ => lsure_at n h
  append := fun n _ b ⟨_, _, _, _, _, h⟩ hd ⟨A, c, e, hc, hr, hin, h0⟩ hby hl => e ▸ lappend_at n A b.length c b h hd rfl hr hin h0 hby hl
  read := fun n p ⟨_, _, _, _, _, h⟩ => lread_at n p h
  reset := fun n ⟨_, _, _, _, _, h⟩ hd => lreset_at n h hd
  flush := fun ⟨_, _, _, _, _, h⟩ hd => lflush_at h hd
  fuse := fun n ⟨_, _, _, _, _, h⟩ hn => lfuse_at n h hn
  crash := fun vk vt keep tear ⟨_, _, _, _, _, h⟩ ⟨KA, kc, ek, hkc, hkr, hkf, hk0⟩ ⟨TA, tc, et, htc, htr, htf, ht0⟩ _ _ hwd => by
    rw [kCells_len] at ek
    rw [tCells_len] at et
    subst ek et
    exact lcrash_at keep tear KA TA kc tc h hkr hkf htr htf hwd
/-- Errors as the landed packages tell them: v tells the code k; what it stands in lies in F. -/
structure EOps where
  E : (Nat → Prop) → World → Int → Value → Prop
  keep : ∀ {F G : Nat → Prop} {w w' : World} {k : Int} {v : Value}, E F w k v → Kept G w w' → (∀ j, F j → ¬ G j) → E F w' k v
  mono : ∀ {F G : Nat → Prop} {w : World} {k : Int} {v : Value}, E F w k v → (∀ j, F j → G j) → E G w k v
  none : ∀ {F : Nat → Prop} {w : World} {v : Value}, E F w 0 v → v = .nilIface
  some : ∀ {F : Nat → Prop} {w : World} {k : Int} {v : Value}, E F w k v → k ≠ 0 → ∃ T x, v = .iface T x
  code : ∀ {F : Nat → Prop} {w : World} {k : Int} {v : Value}, E F w k v → Gl w → Calls Tryz.prog 13 #[v] w (CodeIs w k)
theorem EOps.up (X : EOps) {F : Nat → Prop} {w w' : World} {k : Int} {v : Value} (h : X.E F w k v) (hb : Below w.heap.size w w') : X.E F w' k v := X.keep h (G := fun _ => False) (Kept.of_below hb) (fun _ _ => id)
/-- A checkpoint's value; its directory v. -/
abbrev ckV (c : ChkS) (v : Value) : Value := .agg #[.int .u32 c.nu, .int .u32 c.se, .int .u32 c.sq, .int .i64 c.z, .int .i64 c.p, .int .i64 c.b, v]
def ckC (c : ChkS) (v : Value) : List Value := [.int .u32 c.nu, .int .u32 c.se, .int .u32 c.sq, .int .i64 c.z, .int .i64 c.p, .int .i64 c.b, v]
/-- The blocks that are made on the way. -/
def newB (w w' : World) : Nat → Prop := fun k => w.heap.size ≤ k ∧ k < w'.heap.size
/-- What writing tells and does; the error lies beside the device. -/
def WrDone (Z : ZBas) (X : EOps) (F : Nat → Prop) (db : Nat) (S' : DevS) (e : Int) (w : World) (r : Ending) (w' : World) : Prop :=
  ∃ v F' G, r = .returned v ∧ X.E G w' e v ∧ Z.D F' w' db S' ∧ Kept F w w' ∧ (∀ k, F' k → grow F w w' k) ∧ ∀ k, G k → newB w w' k ∧ ¬ F' k
/-- A checkpoint that is told, and the error. -/
def ChkTold (X : EOps) (c : ChkS) (e : Int) (w : World) (r : Ending) (w' : World) : Prop :=
  ∃ sv ev, r = .returned (.tuple #[ckV c sv, ev]) ∧ RowF (newB w w') w' sv (u32s c.dir) ∧ X.E (newB w w') w' e ev ∧ Below w.heap.size w w'
/-- The landed slots' calls. -/
structure SlOps (Z : ZBas) (X : EOps) where
  place : ∀ {F : Nat → Prop} {w : World} {db : Nat} {S : DevS} (nu : Int), Z.D F w db S → 2 ≤ S.zones.length → 0 ≤ nu → nu ≤ 4294967295 → Calls Tryz.prog 23 #[.pointer (some ⟨db, 0, none⟩), .int .u32 nu] w (IntB (whereN S.zones.length nu) w)
  write : ∀ {F : Nat → Prop} {w : World} {db : Nat} {S : DevS} (c : ChkS) (v : Value), Z.D F w db S → S.done ≤ 900000 → c.words → Wide c.z → Wide c.p → Wide c.b → c.dir.length ≤ 100 → RowF (fun k => ¬ F k) w v (u32s c.dir) →
    Calls Tryz.prog 14 #[.pointer (some ⟨db, 0, none⟩), ckV c v] w (WrDone Z X F db (S.wr c).1 (S.wr c).2 w)
  read : ∀ {F : Nat → Prop} {w : World} {db : Nat} {S : DevS} (zi : Int), Z.D F w db S → Calls Tryz.prog 18 #[.pointer (some ⟨db, 0, none⟩), .int .i64 zi] w (ChkTold X (S.slC zi) (S.slE zi) w)
  newest : ∀ {F : Nat → Prop} {w : World} {db : Nat} {S : DevS}, Z.D F w db S → Calls Tryz.prog 21 #[.pointer (some ⟨db, 0, none⟩)] w (ChkTold X S.newC S.newE w)
def sameS (a b : ChkS) : Bool := sameC a.nu a.se a.sq a.z a.p a.b a.dir b.nu b.se b.sq b.z b.p b.b b.dir
theorem sameS_self (a : ChkS) : sameS a a = true := by simp [sameS, sameC]
theorem RowF.numR {F : Nat → Prop} {w : World} {v : Value} {ns : List Int} (h : RowF F w v (u32s ns)) : ∃ A c, v = .slice A ns.length c ∧ ns.length ≤ c ∧ RdV w w.heap.size A (u32s ns) := by
  obtain ⟨A, c, e, hc, hr, _⟩ := h
  rw [u32s_len] at e hc
  exact ⟨A, c, e, hc, hr⟩
theorem csame_at {F G : Nat → Prop} {w : World} {v v2 : Value} (a b : ChkS) (h : RowF F w v (u32s a.dir)) (h2 : RowF G w v2 (u32s b.dir)) (hn : a.dir.length ≤ 1000) (hm : b.dir.length ≤ 1000) : Calls Tryz.prog 31 #[ckV a v, ckV b v2] w (BoolB (sameS a b) w) := by
  obtain ⟨A, c, rfl, _, hr⟩ := h.numR
  obtain ⟨A2, c2, rfl, _, hr2⟩ := h2.numR
  exact ksame_is a.nu a.se a.sq a.z a.p a.b b.nu b.se b.sq b.z b.p b.b hr hr2 rfl rfl hn hm
/-- The slice of A, l.length, c reads as these checkpoints, within F. -/
def ChksF (F : Nat → Prop) (w : World) (A : Option Addr) (l : List ChkS) : Prop :=
  0 < l.length → ∃ b o : Nat, A = some ⟨b, o, none⟩ ∧ b < w.heap.size ∧ F b ∧ ∀ i (h : i < l.length), ∃ v, RowF F w v (u32s l[i].dir) ∧ w.cell? ⟨b, o + i * 7, none⟩ = some (.int .u32 l[i].nu) ∧ w.cell? ⟨b, o + i * 7 + 1, none⟩ = some (.int .u32 l[i].se) ∧
    w.cell? ⟨b, o + i * 7 + 2, none⟩ = some (.int .u32 l[i].sq) ∧ w.cell? ⟨b, o + i * 7 + 3, none⟩ = some (.int .i64 l[i].z) ∧ w.cell? ⟨b, o + i * 7 + 4, none⟩ = some (.int .i64 l[i].p) ∧ w.cell? ⟨b, o + i * 7 + 5, none⟩ = some (.int .i64 l[i].b) ∧ w.cell? ⟨b, o + i * 7 + 6, none⟩ = some v
theorem ChksF.keep {F G : Nat → Prop} {w w' : World} {A : Option Addr} {l : List ChkS} (h : ChksF F w A l) (hk : Kept G w w') (hn : ∀ k, F k → ¬ G k) : ChksF F w' A l := by
  intro hp
  obtain ⟨b, o, e, hlt, hb, hx⟩ := h hp
  refine ⟨b, o, e, Nat.lt_of_lt_of_le hlt hk.size, hb, fun i hi => ?_⟩
  obtain ⟨v, hv, h0, h1, h2, h3, h4, h5, h6⟩ := hx i hi
  exact ⟨v, hv.keep hk hn, hk.cell h0 (hn _ hb), hk.cell h1 (hn _ hb), hk.cell h2 (hn _ hb), hk.cell h3 (hn _ hb), hk.cell h4 (hn _ hb), hk.cell h5 (hn _ hb), hk.cell h6 (hn _ hb)⟩
theorem ChksF.up {F : Nat → Prop} {w w' : World} {A : Option Addr} {l : List ChkS} (h : ChksF F w A l) (hb : Below w.heap.size w w') : ChksF F w' A l := h.keep (G := fun _ => False) (Kept.of_below hb) (fun _ _ => id)
/-- A checkpoint's numbers are such. -/
def ChkOk (c : ChkS) : Prop := c.words ∧ Wide c.z ∧ Wide c.p ∧ Wide c.b
def largeC (l : List ChkS) : Bool := decide (30 < l.length) || l.any (fun c => decide (100 < c.dir.length))
theorem largeC_bd {l : List ChkS} (h : largeC l = false) : l.length ≤ 30 ∧ ∀ c ∈ l, c.dir.length ≤ 100 := by
  unfold largeC at h
  simp only [Bool.or_eq_false_iff, decide_eq_false_iff_not, List.any_eq_false] at h
  refine ⟨by omega, fun x hx => ?_⟩
  have := h.2 x hx
  simp at this
  exact this
set_option maxHeartbeats 1000000 in
theorem slarge_is {F : Nat → Prop} {w : World} {A : Option Addr} {n c : Nat} {l : List ChkS} (hl : l.length = n) (h : ChksF F w A l) : Calls Tryz.prog 8 #[.slice A n c] w (BoolB (largeC l) w) := by
  have HA := Lib.hid h
  have HL := Lib.hid hl
  clear h hl
  by_cases h30 : 30 < n
  · have HR : Hid (largeC l = true) := Lib.hid (by simp [largeC, HL.out, h30])
    go_enter Tryz.func8, Tryz.ntmps8
    go_wp2_with fail
    go_ret
    rw [HR.out]
    exact ⟨rfl, Below.refl _ _⟩
  · go_enter Tryz.func8, Tryz.ntmps8
    go_wp2_with fail
    go_loopg [10] n (fun q x wr => ∃ i : Nat, i ≤ n ∧ q = n - i ∧ x = .int .i64 i ∧ (∀ j (h : j < l.length), j < i → l[j].dir.length ≤ 100) ∧ Below w.heap.size w wr)
    case atStart => exact ⟨0, by omega, by omega, rfl, fun j _ h => absurd h (by omega), Below.refl _ _⟩
    case round =>
      obtain ⟨i, hi, hq, rfl, hno, hb⟩ := hrel
      have HQ := Lib.hid hq
      have HN := Lib.hid hno
      have HB := Lib.hid hb
      clear hq hno hb
      by_cases hlt : i < n
      · have hll : i < l.length := by rw [HL.out]; exact hlt
        obtain ⟨b, o, rfl, hbl, _, hx⟩ := HA.out (by omega)
        obtain ⟨v, hf, h0, h1, h2, h3, h4, h5, h6⟩ := hx i hll
        obtain ⟨A1, c1, rfl, _, _⟩ := hf.numR
        obtain ⟨m, hm⟩ : ∃ m, l[i].dir.length = m := ⟨_, rfl⟩
        have HM := Lib.hid hm
        rw [hm] at h6
        have k0 := (HB.out.cell (p := ⟨b, o + i * 7, none⟩) hbl).trans h0
        have k1 := (HB.out.cell (p := ⟨b, o + i * 7 + 1, none⟩) hbl).trans h1
        have k2 := (HB.out.cell (p := ⟨b, o + i * 7 + 2, none⟩) hbl).trans h2
        have k3 := (HB.out.cell (p := ⟨b, o + i * 7 + 3, none⟩) hbl).trans h3
        have k4 := (HB.out.cell (p := ⟨b, o + i * 7 + 4, none⟩) hbl).trans h4
        have k5 := (HB.out.cell (p := ⟨b, o + i * 7 + 5, none⟩) hbl).trans h5
        have k6 := (HB.out.cell (p := ⟨b, o + i * 7 + 6, none⟩) hbl).trans h6
        have HBN : Hid (∀ cs, Below w.heap.size w (wr.alloc cs)) := Lib.hid (fun cs => HB.out.alloc HB.out.size cs)
        have HY : Hid (100 < m → largeC l = true) := Lib.hid (fun h => by
          simp only [largeC, Bool.or_eq_true, List.any_eq_true]
          exact .inr ⟨l[i], List.getElem_mem _, by rw [HM.out]; simpa using h⟩)
        obtain ⟨x0, e0⟩ : ∃ x, l[i].nu = x := ⟨_, rfl⟩
        obtain ⟨x1, e1⟩ : ∃ x, l[i].se = x := ⟨_, rfl⟩
        obtain ⟨x2, e2⟩ : ∃ x, l[i].sq = x := ⟨_, rfl⟩
        obtain ⟨x3, e3⟩ : ∃ x, l[i].z = x := ⟨_, rfl⟩
        obtain ⟨x4, e4⟩ : ∃ x, l[i].p = x := ⟨_, rfl⟩
        obtain ⟨x5, e5⟩ : ∃ x, l[i].b = x := ⟨_, rfl⟩
        rw [e0] at k0
        rw [e1] at k1
        rw [e2] at k2
        rw [e3] at k3
        rw [e4] at k4
        rw [e5] at k5
        clear hf hx h0 h1 h2 h3 h4 h5 h6 hm e0 e1 e2 e3 e4 e5
        by_cases q1 : 100 < m
        · go_wp2_with fail
          go_ret
          rw [HY.out q1]
          exact ⟨rfl, HBN.out _⟩
        · go_wp2_with fail
          go_roundg (n - (i + 1))
          case rel =>
            refine ⟨i + 1, by omega, rfl, by go_num, fun j h hj => ?_, HBN.out _⟩
            by_cases e : j = i
            · subst e
              rw [HM.out]
              omega
            · exact HN.out j h (by omega)
          case measure => have := HQ.out; omega
      · obtain rfl : i = n := by omega
        have HR : Hid (largeC l = false) := Lib.hid (by
          simp only [largeC, Bool.or_eq_false_iff, decide_eq_false_iff_not, List.any_eq_false]
          refine ⟨by rw [HL.out]; exact h30, fun x hx => ?_⟩
          obtain ⟨j, hj, rfl⟩ := List.getElem_of_mem hx
          have := HN.out j hj (by have := HL.out; omega)
          simp
          exact this)
        go_wp2_with fail
        go_ret
        rw [HR.out]
        exact ⟨rfl, HB.out⟩
end Go.Proofs.YthmpimjmajoimaaGreatDoor
namespace Go.Proofs.YthmpimjmajoimaaGreatDoor
namespace DevS
theorem mayS_done (S : DevS) (e : Int) : (S.mayS e).done ≤ S.done + 1 := by
  unfold mayS
  split
  · omega
  · split
    · omega
    · split
      · exact Nat.le_succ _
      · exact Nat.le_refl _
theorem app_done (S : DevS) (zi : Int) (b : List Int) : (S.app zi b).done ≤ S.done + 1 := by
  unfold app
  split
  · exact mayS_done S _
  · exact mayS_done S _
theorem reset_done (S : DevS) (zi : Int) : (S.reset zi).done ≤ S.done + 1 := by
  unfold reset
  split
  · exact mayS_done S _
  · exact mayS_done S _
theorem flush_done (S : DevS) : S.flush.done ≤ S.done + 1 := by
  unfold flush
  split
  · exact mayS_done S 0
  · exact mayS_done S 0
theorem appL_done (zi : Int) : ∀ (l : List (List Int)) (S : DevS), (S.appL zi l).1.done ≤ S.done + l.length
  | [], S => by simp [appL]
  | b :: r, S => by
    unfold appL
    have h1 := app_done S zi b
    split
    · have h2 := appL_done zi r (S.app zi b)
      rw [List.length_cons]
      omega
    · rw [List.length_cons]
      show (S.app zi b).done ≤ _
      omega
theorem wr_done (S : DevS) (c : ChkS) : (S.wr c).1.done ≤ S.done + 20 := by
  unfold wr
  split
  · exact Nat.le_add_right _ _
  · rename_i ha
    have hr : c.right = true := by
      unfold wrArg at ha
      cases h : c.right with
      | true => rfl
      | false => rw [h] at ha; simp at ha
    have h1 := reset_done S (whereN S.zones.length c.nu)
    have h2 := appL_done (whereN S.zones.length c.nu) c.pages (S.reset (whereN S.zones.length c.nu))
    have h3 := ChkS.blocks_le hr
    have h4 := (ChkS.right_bd hr).2
    have h5 := ChkS.pages_len (c := c)
    split
    · show (S.reset _).done ≤ _
      omega
    · split
      · omega
      · have h6 := flush_done ((S.reset (whereN S.zones.length c.nu)).appL (whereN S.zones.length c.nu) c.pages).1
        show ((S.reset _).appL _ c.pages).1.flush.done ≤ _
        omega
end DevS
theorem Turns.now {S : DevS} {n P i : Nat} {last : ChkS} (h : Turns S n P i last) (hn : 2 ≤ n) (hi : 0 < i) : S.newE = 0 ∧ S.newC = last := by
  have hlen := h.len
  have hp := h.p
  subst hlen hp
  obtain ⟨g1, g2, g3, g4⟩ := h.then_ hi
  rcases g4 with ⟨a1, a2⟩ | ⟨c0, a1, a2, a3, a4⟩
  · exact newest_is h.g hn g1 g2 (.inl (slot_bad h.g hn (by rw [a1]; exact hold_nil)))
  · exact newest_is h.g hn g1 g2 (.inr ⟨c0, a1, (where_next (n := S.zones.length) a2).2.1, a3, a2⟩)
/-- The checkpoints of awake. -/
def awC (nu : Int) : ChkS := ⟨nu, 2, 3, 11, 4, 6, [4, 0]⟩
theorem awC_fit {nu : Int} (h0 : 0 ≤ nu) (h1 : nu ≤ 4294967295) : Fit 11 4 (awC nu) := by
  refine ⟨by show rightC 11 4 6 2 = true; decide, ?_, rfl, rfl⟩
  intro x hx
  simp only [awC, List.mem_cons, List.not_mem_nil, or_false] at hx
  unfold Word4
  rcases hx with rfl | rfl | rfl | rfl | rfl <;> omega
def awS1 : DevS := ((DevS.new 11 4).wr (awC 4)).1
def awS2 : DevS := (awS1.wr (awC 5)).1
theorem aw_new : (DevS.new 11 4).newE = 10 ∧ (DevS.new 11 4).newC = ChkS.zero := ⟨by decide, by
  have : (DevS.new 11 4).newE = 10 := by decide
  unfold DevS.newC
  rw [if_pos (by rw [this]; decide)]⟩
theorem aw_one : ((DevS.new 11 4).wr (awC 4)).2 = 0 ∧ Turns awS1 11 4 1 (awC 4) := by
  have hf := awC_fit (nu := 4) (by decide) (by decide)
  have he : ((DevS.new 11 4).wr (awC 4)).2 = 0 := by
    obtain ⟨_, _, h⟩ := DevS.wr_to (S := DevS.new 11 4) rfl hf.r (by simp [DevS.new]; rfl) rfl
    rcases h with ⟨h, _⟩ | ⟨_, _, _, _, h⟩
    · exact h
    · exact absurd (by simp [DevS.new]) h
  exact ⟨he, (Turns.new (last := awC 4)).write (by decide) hf (fun h => by omega) he⟩
theorem aw_left : awS1.left < 0 := by
  have hf := awC_fit (nu := 4) (by decide) (by decide)
  obtain ⟨_, _, h⟩ := DevS.wr_to (S := DevS.new 11 4) rfl hf.r (by simp [DevS.new]; rfl) rfl
  have h0 : (DevS.new 11 4).left < 0 := by simp [DevS.new]
  rcases h with ⟨_, _, _, _, h⟩ | ⟨_, _, _, _, h⟩
  · show ((DevS.new 11 4).wr (awC 4)).1.left < 0
    rw [h h0]
    exact h0
  · exact absurd h0 h
theorem aw_two : (awS1.wr (awC 5)).2 = 0 ∧ Turns awS2 11 4 2 (awC 5) := by
  have hf := awC_fit (nu := 5) (by decide) (by decide)
  have ht := aw_one.2
  have he : (awS1.wr (awC 5)).2 = 0 := by
    obtain ⟨_, _, h⟩ := DevS.wr_to (S := awS1) ht.g hf.r (by rw [ht.len]; rfl) (by rw [ht.p]; rfl)
    rcases h with ⟨h, _⟩ | ⟨_, _, _, _, h⟩
    · exact h
    · exact absurd aw_left h
  exact ⟨he, ht.write (by decide) hf (fun _ => by decide) he⟩
theorem aw_read : awS1.slE 9 = 0 ∧ awS1.slC 9 = awC 4 := by
  have ht := aw_one.2
  have hf := awC_fit (nu := 4) (by decide) (by decide)
  obtain ⟨_, g2, _⟩ := ht.then_ (by decide)
  have := slot_holds (S := awS1) (c := awC 4) ht.g (by rw [ht.len]; decide) (by rw [ht.len, ht.p]; exact hf) (by rw [ht.len]; exact g2)
  rw [ht.len] at this
  exact this
theorem aw_no : awS2.slE 8 = 1 ∧ awS2.slC 8 = ChkS.zero := by
  have ht := aw_two.2
  have h : awS2.slE 8 = 1 := by
    unfold DevS.slE DevS.slotB
    rw [ht.len, ht.g]
    decide
  refine ⟨h, ?_⟩
  unfold DevS.slC
  rw [h, if_neg (by decide)]
/-- Slots apart: what was written last of either kind; the log is empty. -/
structure Apart (S : DevS) (n P : Nat) (c : Nat → Option ChkS) : Prop where
  len : S.zones.length = n
  p : S.P = P
  g : S.gone = false
  left : S.left < 0
  none_ : ∀ k, k < 2 → c k = none → (S.zone ((n : Int) - 2 + k)).pages = [] ∧ (S.zone ((n : Int) - 2 + k)).sure = 0
  some_ : ∀ k x, k < 2 → c k = some x → Fit n P x ∧ x.nu % 2 = (k : Int) ∧ (S.zone ((n : Int) - 2 + k)).pages = x.pages
  log : ∀ j : Nat, j + 2 < n → (S.zone (j : Int)).pages = []
theorem Apart.new {n P : Nat} : Apart (DevS.new n P) n P (fun _ => none) := by
  have hz : ∀ j, (DevS.new n P).zone j = ZoneS.empty := fun j => by
    unfold DevS.zone DevS.new
    simp only [List.getD_eq_getElem?_getD, List.getElem?_replicate]
    split <;> rfl
  exact ⟨by simp [DevS.new], rfl, rfl, by simp [DevS.new], fun k _ _ => by rw [hz]; exact ⟨rfl, rfl⟩, fun k x _ h => (by cases h), fun j _ => by rw [hz]; rfl⟩
theorem Apart.write {S : DevS} {n P : Nat} {c : Nat → Option ChkS} {x : ChkS} (h : Apart S n P c) (hn : 2 ≤ n) (hx : Fit n P x) : (S.wr x).2 = 0 ∧ Apart (S.wr x).1 n P (fun k => if (k : Int) = x.nu % 2 then some x else c k) := by
  have hlen := h.len
  have hp := h.p
  subst hlen hp
  obtain ⟨w1, w2, w3⟩ := DevS.wr_to h.g hx.r hx.z hx.p
  rcases w3 with ⟨f1, f2, f3, f4, f5⟩ | ⟨_, _, _, _, f⟩
  · refine ⟨f1, w1, w2, f2, by rw [f5 h.left]; exact h.left, fun k hk e => ?_, fun k y hk e => ?_, fun j hj => ?_⟩
    · have e : (if (k : Int) = x.nu % 2 then some x else c k) = none := e
      by_cases hkx : (k : Int) = x.nu % 2
      · rw [if_pos hkx] at e
        cases e
      · rw [if_neg hkx] at e
        have hi : S.is ((S.zones.length : Int) - 2 + k) = true := DevS.is_iff.2 (by omega)
        rw [f4 _ hi (by unfold whereN; omega)]
        have := h.none_ k hk e
        exact ⟨this.1, by show (S.zone _).pages.length = 0; rw [this.1]; rfl⟩
    · have e : (if (k : Int) = x.nu % 2 then some x else c k) = some y := e
      by_cases hkx : (k : Int) = x.nu % 2
      · rw [if_pos hkx] at e
        obtain rfl := Option.some.inj e
        refine ⟨hx, hkx.symm, ?_⟩
        have : (S.zones.length : Int) - 2 + k = whereN S.zones.length x.nu := by unfold whereN; omega
        rw [this, f3]
      · rw [if_neg hkx] at e
        have hi : S.is ((S.zones.length : Int) - 2 + k) = true := DevS.is_iff.2 (by omega)
        obtain ⟨a, b, d⟩ := h.some_ k y hk e
        refine ⟨a, b, ?_⟩
        rw [f4 _ hi (by unfold whereN; omega)]
        exact d
    · have hi : S.is (j : Int) = true := DevS.is_iff.2 (by omega)
      rw [f4 _ hi (by unfold whereN; omega)]
      exact h.log j hj
  · exact absurd h.left f
theorem Apart.read {S : DevS} {n P : Nat} {c : Nat → Option ChkS} (h : Apart S n P c) (hn : 2 ≤ n) {k : Nat} (hk : k < 2) : (c k = none → S.slE ((n : Int) - 2 + k) ≠ 0) ∧ ∀ x, c k = some x → S.slE ((n : Int) - 2 + k) = 0 ∧ S.slC ((n : Int) - 2 + k) = x := by
  have hlen := h.len
  have hp := h.p
  subst hlen hp
  refine ⟨fun e => slot_bad h.g hn (by rw [(h.none_ k hk e).1]; exact hold_nil), fun x e => ?_⟩
  obtain ⟨a, b, d⟩ := h.some_ k x hk e
  have hw : (S.zones.length : Int) - 2 + k = whereN S.zones.length x.nu := by unfold whereN; omega
  rw [hw] at d ⊢
  exact slot_holds h.g hn a d
end Go.Proofs.YthmpimjmajoimaaGreatDoor

/-
  The landed device's calls, the errors that are told, and the landed slots' calls as bundles of contracts; checkpoints in memory; large.
  What fault.met, fault.Wrap, (*Fault).Unwrap, fault.Place do in memory: an error is a chain of faults that ends in a code.
  What fault.Place and fault.Trail answer of an error that is a chain of faults.
  What fault.Trail answers of an error that is a chain of faults, and of none.
  What errors.Is answers of an error that is a chain of faults, at a target that is a code; and so fault.Is.
  What errors.As answers of an error that is a chain of faults, at a target that is a pointer to a code; and so fault.Code.
-/
import Derived.Test.YthmpimjmajoimaaGreatDoorSw14
import Derived.Test.YthmpimjmajoimaaGreatDoorSw21
import Derived.Test.YthmpimjmajoimaaGreatDoorSw22
import Derived.Test.YthmpimjmajoimaaGreatDoorChecked
import Derived.WalkKit
import Derived.LaidEql
import Derived.Stop.Asserts
import Derived.RowKitTokens
import Derived.Below
import Derived.Outline
import Derived.Lib.Hide
import Derived.Deep.LoopGhost
import Derived.OwnWalk
import Derived.Deep.AppendLies
import Derived.Test.YthmpimjmajoimaaGreatDoorSw01
namespace Go.Proofs.YthmpimjmajoimaaGreatDoor
open Go.RowKit

/-- The landed device, whatever its memory looks like, and its calls' contracts (FIELDS). -/
structure ZBas where
  D : (Nat → Prop) → World → Nat → DevS → Prop
  keep : ∀ {F G : Nat → Prop} {w w' : World} {db : Nat} {S : DevS}, D F w db S → Kept G w w' → (∀ k, F k → ¬ G k) → D F w' db S
  lt : ∀ {F : Nat → Prop} {w : World} {db : Nat} {S : DevS}, D F w db S → ∀ k, F k → k < w.heap.size
  wf : ∀ {F : Nat → Prop} {w : World} {db : Nat} {S : DevS}, D F w db S → S.WF
  mono : ∀ {F G : Nat → Prop} {w : World} {db : Nat} {S : DevS}, D F w db S → (∀ k, F k → G k) → (∀ k, G k → k < w.heap.size) → D G w db S
  new : ∀ {w : World} (n p : Int), Calls Tryz.prog 9 #[.int .i64 n, .int .i64 p] w (ZMade D (newD n p) w)
  load : ∀ {w : World} (p : Int) (v : Value) (l : List (List (List Int))), Rows3 w v l → (∀ z ∈ l, ∀ b ∈ z, Byt b) → l.length ≤ 30 → (∀ z ∈ l, z.length ≤ 30 ∧ ∀ b ∈ z, b.length ≤ 100) → Calls Tryz.prog 25 #[.int .i64 p, v] w (ZMade D (loadD p l) w)
  zones : ∀ {F : Nat → Prop} {w : World} {db : Nat} {S : DevS}, D F w db S → Calls Tryz.prog 35 #[.pointer (some ⟨db, 0, none⟩)] w (IntB (S.zones.length : Int) w)
  pages : ∀ {F : Nat → Prop} {w : World} {db : Nat} {S : DevS}, D F w db S → Calls Tryz.prog 74 #[.pointer (some ⟨db, 0, none⟩)] w (IntB (S.P : Int) w)
  ops : ∀ {F : Nat → Prop} {w : World} {db : Nat} {S : DevS}, D F w db S → Calls Tryz.prog 27 #[.pointer (some ⟨db, 0, none⟩)] w (IntB (S.done : Int) w)
  down : ∀ {F : Nat → Prop} {w : World} {db : Nat} {S : DevS}, D F w db S → Calls Tryz.prog 45 #[.pointer (some ⟨db, 0, none⟩)] w (BoolB S.gone w)
  point : ∀ {F : Nat → Prop} {w : World} {db : Nat} {S : DevS} (n : Int), D F w db S → Calls Tryz.prog 33 #[.pointer (some ⟨db, 0, none⟩), .int .i64 n] w (IntB (S.point n : Int) w)
  sure : ∀ {F : Nat → Prop} {w : World} {db : Nat} {S : DevS} (n : Int), D F w db S → Calls Tryz.prog 47 #[.pointer (some ⟨db, 0, none⟩), .int .i64 n] w (IntB (S.sureOf n : Int) w)
  append : ∀ {F : Nat → Prop} {w : World} {db : Nat} {S : DevS} (n : Int) (v : Value) (b : List Int), D F w db S → S.done ≤ 1000000 → BytF (fun k => ¬ F k) w v b → Byt b → b.length ≤ 100 →
    Calls Tryz.prog 77 #[.pointer (some ⟨db, 0, none⟩), .int .i64 n, v] w (ZDone D F db (S.app n b) (.tuple #[.int .i64 (S.appN n b), errV (S.mayE (S.appE n b))]) w)
  read : ∀ {F : Nat → Prop} {w : World} {db : Nat} {S : DevS} (n p : Int), D F w db S → Calls Tryz.prog 49 #[.pointer (some ⟨db, 0, none⟩), .int .i64 n, .int .i64 p] w (ZRead (S.readB n p) (S.readE n p) w)
  reset : ∀ {F : Nat → Prop} {w : World} {db : Nat} {S : DevS} (n : Int), D F w db S → S.done ≤ 1000000 → Calls Tryz.prog 76 #[.pointer (some ⟨db, 0, none⟩), .int .i64 n] w (ZDone D F db (S.reset n) (errV (S.mayE (S.resetE n))) w)
  flush : ∀ {F : Nat → Prop} {w : World} {db : Nat} {S : DevS}, D F w db S → S.done ≤ 1000000 → Calls Tryz.prog 78 #[.pointer (some ⟨db, 0, none⟩)] w (ZDone D F db S.flush (errV (S.mayE 0)) w)
  fuse : ∀ {F : Nat → Prop} {w : World} {db : Nat} {S : DevS} (n : Int), D F w db S → n ≤ 9223372036854775807 → Calls Tryz.prog 11 #[.pointer (some ⟨db, 0, none⟩), .int .i64 n] w (ZDone D F db (S.fuse n) (.tuple #[]) w)
  crash : ∀ {F : Nat → Prop} {w : World} {db : Nat} {S : DevS} (vk vt : Value) (keep : List Int) (tear : List Bool), D F w db S → RowF (fun k => ¬ F k) w vk (kCells keep) → RowF (fun k => ¬ F k) w vt (tCells tear) → keep.length ≤ 100 → tear.length ≤ 100 → (∀ n ∈ keep, Wd n) →
    Calls Tryz.prog 30 #[.pointer (some ⟨db, 0, none⟩), vk, vt] w (ZDone D F db (S.crash keep tear) (.tuple #[]) w)
theorem ZBas.up (Z : ZBas) {F : Nat → Prop} {w w' : World} {db : Nat} {S : DevS} (h : Z.D F w db S) (hb : Below w.heap.size w w') : Z.D F w' db S := Z.keep h (G := fun _ => False) (Kept.of_below hb) (fun _ _ => id)
/-- The landed device's contracts (FIELDS). -/
noncomputable def zBas : ZBas where
  D := LDev
  keep := fun ⟨zb, cap, f, col, zs, h⟩ hk hn => ⟨zb, cap, f, col, zs, h.keep hk hn⟩
  lt := fun ⟨_, _, _, _, _, h⟩ => h.lt
  wf := fun ⟨_, _, _, _, _, h⟩ => h.wf
  mono := fun ⟨zb, cap, f, col, zs, h⟩ hfg hlt => ⟨zb, cap, f, col, zs, h.mono hfg hlt⟩
  new := fun n p => lnew_at n p
  load := fun p v l h hby _ hz => lload_dev p v l h hby (fun z hm => (hz z hm).1)
  zones := fun ⟨_, _, _, _, _, h⟩ => lzones_at h
  pages := fun ⟨_, _, _, _, _, h⟩ => lpages_at h
  ops := fun ⟨_, _, _, _, _, h⟩ => lops_at h
  down := fun ⟨_, _, _, _, _, h⟩ => ldown_at h
  point := fun n ⟨_, _, _, _, _, h⟩ => lpoint_at n h
  sure := fun n ⟨_, _, _, _, _, h⟩ => lsure_at n h
  append := fun n _ b ⟨_, _, _, _, _, h⟩ hd ⟨A, c, e, hc, hr, hin, h0⟩ hby hl => e ▸ lappend_at n A b.length c b h hd rfl hr hin h0 hby hl
  read := fun n p ⟨_, _, _, _, _, h⟩ => lread_at n p h
  reset := fun n ⟨_, _, _, _, _, h⟩ hd => lreset_at n h hd
  flush := fun ⟨_, _, _, _, _, h⟩ hd => lflush_at h hd
  fuse := fun n ⟨_, _, _, _, _, h⟩ hn => lfuse_at n h hn
  crash := fun vk vt keep tear ⟨_, _, _, _, _, h⟩ ⟨KA, kc, ek, hkc, hkr, hkf, hk0⟩ ⟨TA, tc, et, htc, htr, htf, ht0⟩ _ _ hwd => by
    rw [kCells_len] at ek
    rw [tCells_len] at et
    subst ek et
    exact lcrash_at keep tear KA TA kc tc h hkr hkf htr htf hwd
/-- Errors as the landed packages tell them: v tells the code k; what it stands in lies in F. -/
structure EOps where
  E : (Nat → Prop) → World → Int → Value → Prop
  keep : ∀ {F G : Nat → Prop} {w w' : World} {k : Int} {v : Value}, E F w k v → Kept G w w' → (∀ j, F j → ¬ G j) → E F w' k v
  mono : ∀ {F G : Nat → Prop} {w : World} {k : Int} {v : Value}, E F w k v → (∀ j, F j → G j) → E G w k v
  none : ∀ {F : Nat → Prop} {w : World} {v : Value}, E F w 0 v → v = .nilIface
  some : ∀ {F : Nat → Prop} {w : World} {k : Int} {v : Value}, E F w k v → k ≠ 0 → ∃ T x, v = .iface T x
  code : ∀ {F : Nat → Prop} {w : World} {k : Int} {v : Value}, E F w k v → Gl w → Calls Tryz.prog 13 #[v] w (CodeIs w k)
theorem EOps.up (X : EOps) {F : Nat → Prop} {w w' : World} {k : Int} {v : Value} (h : X.E F w k v) (hb : Below w.heap.size w w') : X.E F w' k v := X.keep h (G := fun _ => False) (Kept.of_below hb) (fun _ _ => id)
/-- A checkpoint's value; its directory v. -/
abbrev ckV (c : ChkS) (v : Value) : Value := .agg #[.int .u32 c.nu, .int .u32 c.se, .int .u32 c.sq, .int .i64 c.z, .int .i64 c.p, .int .i64 c.b, v]
def ckC (c : ChkS) (v : Value) : List Value := [.int .u32 c.nu, .int .u32 c.se, .int .u32 c.sq, .int .i64 c.z, .int .i64 c.p, .int .i64 c.b, v]
/-- The blocks that are made on the way. -/
def newB (w w' : World) : Nat → Prop := fun k => w.heap.size ≤ k ∧ k < w'.heap.size
/-- What writing tells and does; the error lies beside the device. -/
def WrDone (Z : ZBas) (X : EOps) (F : Nat → Prop) (db : Nat) (S' : DevS) (e : Int) (w : World) (r : Ending) (w' : World) : Prop :=
  ∃ v F' G, r = .returned v ∧ X.E G w' e v ∧ Z.D F' w' db S' ∧ Kept F w w' ∧ (∀ k, F' k → grow F w w' k) ∧ ∀ k, G k → newB w w' k ∧ ¬ F' k
/-- A checkpoint that is told, and the error. -/
def ChkTold (X : EOps) (c : ChkS) (e : Int) (w : World) (r : Ending) (w' : World) : Prop :=
  ∃ sv ev, r = .returned (.tuple #[ckV c sv, ev]) ∧ RowF (newB w w') w' sv (u32s c.dir) ∧ X.E (newB w w') w' e ev ∧ Below w.heap.size w w'
/-- The landed slots' calls. -/
structure SlOps (Z : ZBas) (X : EOps) where
  place : ∀ {F : Nat → Prop} {w : World} {db : Nat} {S : DevS} (nu : Int), Z.D F w db S → 2 ≤ S.zones.length → 0 ≤ nu → nu ≤ 4294967295 → Calls Tryz.prog 23 #[.pointer (some ⟨db, 0, none⟩), .int .u32 nu] w (IntB (whereN S.zones.length nu) w)
  write : ∀ {F : Nat → Prop} {w : World} {db : Nat} {S : DevS} (c : ChkS) (v : Value), Z.D F w db S → S.done ≤ 900000 → c.words → Wide c.z → Wide c.p → Wide c.b → c.dir.length ≤ 100 → RowF (fun k => ¬ F k) w v (u32s c.dir) →
    Calls Tryz.prog 14 #[.pointer (some ⟨db, 0, none⟩), ckV c v] w (WrDone Z X F db (S.wr c).1 (S.wr c).2 w)
  read : ∀ {F : Nat → Prop} {w : World} {db : Nat} {S : DevS} (zi : Int), Z.D F w db S → Calls Tryz.prog 18 #[.pointer (some ⟨db, 0, none⟩), .int .i64 zi] w (ChkTold X (S.slC zi) (S.slE zi) w)
  newest : ∀ {F : Nat → Prop} {w : World} {db : Nat} {S : DevS}, Z.D F w db S → Calls Tryz.prog 21 #[.pointer (some ⟨db, 0, none⟩)] w (ChkTold X S.newC S.newE w)
def sameS (a b : ChkS) : Bool := sameC a.nu a.se a.sq a.z a.p a.b a.dir b.nu b.se b.sq b.z b.p b.b b.dir
theorem sameS_self (a : ChkS) : sameS a a = true := by simp [sameS, sameC]
theorem RowF.numR {F : Nat → Prop} {w : World} {v : Value} {ns : List Int} (h : RowF F w v (u32s ns)) : ∃ A c, v = .slice A ns.length c ∧ ns.length ≤ c ∧ RdV w w.heap.size A (u32s ns) := by
  obtain ⟨A, c, e, hc, hr, _⟩ := h
  rw [u32s_len] at e hc
  exact ⟨A, c, e, hc, hr⟩
theorem csame_at {F G : Nat → Prop} {w : World} {v v2 : Value} (a b : ChkS) (h : RowF F w v (u32s a.dir)) (h2 : RowF G w v2 (u32s b.dir)) (hn : a.dir.length ≤ 1000) (hm : b.dir.length ≤ 1000) : Calls Tryz.prog 31 #[ckV a v, ckV b v2] w (BoolB (sameS a b) w) := by
  obtain ⟨A, c, rfl, _, hr⟩ := h.numR
  obtain ⟨A2, c2, rfl, _, hr2⟩ := h2.numR
  exact ksame_is a.nu a.se a.sq a.z a.p a.b b.nu b.se b.sq b.z b.p b.b hr hr2 rfl rfl hn hm
/-- The slice of A, l.length, c reads as these checkpoints, within F. -/
def ChksF (F : Nat → Prop) (w : World) (A : Option Addr) (l : List ChkS) : Prop :=
  0 < l.length → ∃ b o : Nat, A = some ⟨b, o, none⟩ ∧ b < w.heap.size ∧ F b ∧ ∀ i (h : i < l.length), ∃ v, RowF F w v (u32s l[i].dir) ∧ w.cell? ⟨b, o + i * 7, none⟩ = some (.int .u32 l[i].nu) ∧ w.cell? ⟨b, o + i * 7 + 1, none⟩ = some (.int .u32 l[i].se) ∧
    w.cell? ⟨b, o + i * 7 + 2, none⟩ = some (.int .u32 l[i].sq) ∧ w.cell? ⟨b, o + i * 7 + 3, none⟩ = some (.int .i64 l[i].z) ∧ w.cell? ⟨b, o + i * 7 + 4, none⟩ = some (.int .i64 l[i].p) ∧ w.cell? ⟨b, o + i * 7 + 5, none⟩ = some (.int .i64 l[i].b) ∧ w.cell? ⟨b, o + i * 7 + 6, none⟩ = some v
theorem ChksF.keep {F G : Nat → Prop} {w w' : World} {A : Option Addr} {l : List ChkS} (h : ChksF F w A l) (hk : Kept G w w') (hn : ∀ k, F k → ¬ G k) : ChksF F w' A l := by
  intro hp
  obtain ⟨b, o, e, hlt, hb, hx⟩ := h hp
  refine ⟨b, o, e, Nat.lt_of_lt_of_le hlt hk.size, hb, fun i hi => ?_⟩
  obtain ⟨v, hv, h0, h1, h2, h3, h4, h5, h6⟩ := hx i hi
  exact ⟨v, hv.keep hk hn, hk.cell h0 (hn _ hb), hk.cell h1 (hn _ hb), hk.cell h2 (hn _ hb), hk.cell h3 (hn _ hb), hk.cell h4 (hn _ hb), hk.cell h5 (hn _ hb), hk.cell h6 (hn _ hb)⟩
theorem ChksF.up {F : Nat → Prop} {w w' : World} {A : Option Addr} {l : List ChkS} (h : ChksF F w A l) (hb : Below w.heap.size w w') : ChksF F w' A l := h.keep (G := fun _ => False) (Kept.of_below hb) (fun _ _ => id)
/-- A checkpoint's numbers are such. -/
def ChkOk (c : ChkS) : Prop := c.words ∧ Wide c.z ∧ Wide c.p ∧ Wide c.b
def largeC (l : List ChkS) : Bool := decide (30 < l.length) || l.any (fun c => decide (100 < c.dir.length))
theorem largeC_bd {l : List ChkS} (h : largeC l = false) : l.length ≤ 30 ∧ ∀ c ∈ l, c.dir.length ≤ 100 := by
  unfold largeC at h
  simp only [Bool.or_eq_false_iff, decide_eq_false_iff_not, List.any_eq_false] at h
  refine ⟨by omega, fun x hx => ?_⟩
  have := h.2 x hx
  simp at this
  exact this
set_option maxHeartbeats 1000000 in
theorem slarge_is {F : Nat → Prop} {w : World} {A : Option Addr} {n c : Nat} {l : List ChkS} (hl : l.length = n) (h : ChksF F w A l) : Calls Tryz.prog 8 #[.slice A n c] w (BoolB (largeC l) w) := by
  have HA := Lib.hid h
  have HL := Lib.hid hl
  clear h hl
  by_cases h30 : 30 < n
  · have HR : Hid (largeC l = true) := Lib.hid (by simp [largeC, HL.out, h30])
    go_enter Tryz.func8, Tryz.ntmps8
    go_wp2_with fail
    go_ret
    rw [HR.out]
    exact ⟨rfl, Below.refl _ _⟩
  · go_enter Tryz.func8, Tryz.ntmps8
    go_wp2_with fail
    go_loopg [10] n (fun q x wr => ∃ i : Nat, i ≤ n ∧ q = n - i ∧ x = .int .i64 i ∧ (∀ j (h : j < l.length), j < i → l[j].dir.length ≤ 100) ∧ Below w.heap.size w wr)
    case atStart => exact ⟨0, by omega, by omega, rfl, fun j _ h => absurd h (by omega), Below.refl _ _⟩
    case round =>
      obtain ⟨i, hi, hq, rfl, hno, hb⟩ := hrel
      have HQ := Lib.hid hq
      have HN := Lib.hid hno
      have HB := Lib.hid hb
      clear hq hno hb
      by_cases hlt : i < n
      · have hll : i < l.length := by rw [HL.out]; exact hlt
        obtain ⟨b, o, rfl, hbl, _, hx⟩ := HA.out (by omega)
        obtain ⟨v, hf, h0, h1, h2, h3, h4, h5, h6⟩ := hx i hll
        obtain ⟨A1, c1, rfl, _, _⟩ := hf.numR
        obtain ⟨m, hm⟩ : ∃ m, l[i].dir.length = m := ⟨_, rfl⟩
        have HM := Lib.hid hm
        rw [hm] at h6
        have k0 := (HB.out.cell (p := ⟨b, o + i * 7, none⟩) hbl).trans h0
        have k1 := (HB.out.cell (p := ⟨b, o + i * 7 + 1, none⟩) hbl).trans h1
        have k2 := (HB.out.cell (p := ⟨b, o + i * 7 + 2, none⟩) hbl).trans h2
        have k3 := (HB.out.cell (p := ⟨b, o + i * 7 + 3, none⟩) hbl).trans h3
        have k4 := (HB.out.cell (p := ⟨b, o + i * 7 + 4, none⟩) hbl).trans h4
        have k5 := (HB.out.cell (p := ⟨b, o + i * 7 + 5, none⟩) hbl).trans h5
        have k6 := (HB.out.cell (p := ⟨b, o + i * 7 + 6, none⟩) hbl).trans h6
        have HBN : Hid (∀ cs, Below w.heap.size w (wr.alloc cs)) := Lib.hid (fun cs => HB.out.alloc HB.out.size cs)
        have HY : Hid (100 < m → largeC l = true) := Lib.hid (fun h => by
          simp only [largeC, Bool.or_eq_true, List.any_eq_true]
          exact .inr ⟨l[i], List.getElem_mem _, by rw [HM.out]; simpa using h⟩)
        obtain ⟨x0, e0⟩ : ∃ x, l[i].nu = x := ⟨_, rfl⟩
        obtain ⟨x1, e1⟩ : ∃ x, l[i].se = x := ⟨_, rfl⟩
        obtain ⟨x2, e2⟩ : ∃ x, l[i].sq = x := ⟨_, rfl⟩
        obtain ⟨x3, e3⟩ : ∃ x, l[i].z = x := ⟨_, rfl⟩
        obtain ⟨x4, e4⟩ : ∃ x, l[i].p = x := ⟨_, rfl⟩
        obtain ⟨x5, e5⟩ : ∃ x, l[i].b = x := ⟨_, rfl⟩
        rw [e0] at k0
        rw [e1] at k1
        rw [e2] at k2
        rw [e3] at k3
        rw [e4] at k4
        rw [e5] at k5
        clear hf hx h0 h1 h2 h3 h4 h5 h6 hm e0 e1 e2 e3 e4 e5
        by_cases q1 : 100 < m
        · go_wp2_with fail
          go_ret
          rw [HY.out q1]
          exact ⟨rfl, HBN.out _⟩
        · go_wp2_with fail
          go_roundg (n - (i + 1))
          case rel =>
            refine ⟨i + 1, by omega, rfl, by go_num, fun j h hj => ?_, HBN.out _⟩
            by_cases e : j = i
            · subst e
              rw [HM.out]
              omega
            · exact HN.out j h (by omega)
          case measure => have := HQ.out; omega
      · obtain rfl : i = n := by omega
        have HR : Hid (largeC l = false) := Lib.hid (by
          simp only [largeC, Bool.or_eq_false_iff, decide_eq_false_iff_not, List.any_eq_false]
          refine ⟨by rw [HL.out]; exact h30, fun x hx => ?_⟩
          obtain ⟨j, hj, rfl⟩ := List.getElem_of_mem hx
          have := HN.out j hj (by have := HL.out; omega)
          simp
          exact this)
        go_wp2_with fail
        go_ret
        rw [HR.out]
        exact ⟨rfl, HB.out⟩
end Go.Proofs.YthmpimjmajoimaaGreatDoor
namespace Go.Proofs.YthmpimjmajoimaaGreatDoor
open Go.RowKit Go.Extern.Stop Go.Stop Go.Extern

/-- v is an error with the code e, wrapped by l (the outermost first). -/
def Err (w : World) (e : Int) : List (ByteArray × Int) → Value → Prop
  | [], v => v = .iface 31 (.int .i64 e)
  | s :: l, v => ∃ (b : Nat) (u : Value), v = .iface 143 (.pointer (some ⟨b, 0, none⟩)) ∧ b < w.heap.size ∧
      w.cell? ⟨b, 0, none⟩ = some (.string s.1) ∧ w.cell? ⟨b, 1, none⟩ = some (.int .i64 s.2) ∧ w.cell? ⟨b, 2, none⟩ = some u ∧ Err w e l u

theorem Err.below {w w' : World} {e : Int} (hb : Below w.heap.size w w') : ∀ {l : List (ByteArray × Int)} {v : Value}, Err w e l v → Err w' e l v
  | [], _, h => h
  | _ :: _, _, ⟨b, u, hv, hlt, h0, h1, h2, hr⟩ =>
    ⟨b, u, hv, Nat.lt_of_lt_of_le hlt hb.size, (hb.cell (p := ⟨b, 0, none⟩) hlt).trans h0, (hb.cell (p := ⟨b, 1, none⟩) hlt).trans h1, (hb.cell (p := ⟨b, 2, none⟩) hlt).trans h2, Err.below hb hr⟩

theorem ta_errno_errno (n : Value) (xT : TypeId) (w : World) : (Instr.typeAssert (.iface 31 n) xT 31 true).run Tryz.prog w = .ok (.tuple #[n, .bool true]) w := by kernel_rfl
theorem wrap_nil (op : ByteArray) (n : Int) (w : World) : Calls Tryz.prog 38 #[.string op, .int .i64 n, .nilIface] w fun r w' => r = .returned .nilIface ∧ w = w' := by
  go_enter Tryz.func38, Tryz.ntmps38
  go_wp2
  go_ret
  exact ⟨rfl, rfl⟩
theorem wrap_errno (op : ByteArray) (n e : Int) (w : World) (he : (e == 0) = false) : Calls Tryz.prog 38 #[.string op, .int .i64 n, .iface 31 (.int .i64 e)] w fun r w' => r = .returned (.iface 143 (.pointer (some ⟨w.heap.size, 0, none⟩))) ∧ w' = w.alloc (.cells #[.string op, .int .i64 n, .iface 31 (.int .i64 e)] 145) := by
  have h := ta_errno_errno
  go_enter Tryz.func38, Tryz.ntmps38
  go_wp2
  go_ret
  exact ⟨rfl, rfl⟩
theorem unwrap_some (b : Nat) (u : Value) (w : World) (h2 : w.cell? ⟨b, 2, none⟩ = some u) : Calls Tryz.prog 165 #[.pointer (some ⟨b, 0, none⟩)] w fun r w' => r = .returned u ∧ w = w' := by
  go_enter Tryz.func165, Tryz.ntmps165
  go_wp2
  go_ret
  exact ⟨rfl, rfl⟩
end Go.Proofs.YthmpimjmajoimaaGreatDoor
namespace Go.Proofs.YthmpimjmajoimaaGreatDoor
open Go.RowKit Go.Extern.Stop Go.Stop Go.Extern

/-- The pointer that met tells: to the chain's first fault, or none. -/
def Met (w : World) (e : Int) : List (ByteArray × Int) → Value → Prop
  | [], v => v = .pointer none
  | s :: l, v => ∃ (b : Nat) (u : Value), v = .pointer (some ⟨b, 0, none⟩) ∧ b < w.heap.size ∧
      w.cell? ⟨b, 0, none⟩ = some (.string s.1) ∧ w.cell? ⟨b, 1, none⟩ = some (.int .i64 s.2) ∧ w.cell? ⟨b, 2, none⟩ = some u ∧ Err w e l u

end Go.Proofs.YthmpimjmajoimaaGreatDoor
namespace Go.Proofs.YthmpimjmajoimaaGreatDoor
open Go.RowKit Go.Extern.Stop Go.Stop Go.Extern

/-- The slice value v reads as these texts, below block B. -/
def Strs (w : World) (B : Nat) (v : Value) (xs : List ByteArray) : Prop :=
  ∃ (A : Option Addr) (c : Nat), v = .slice A xs.length c ∧ xs.length ≤ c ∧ (0 < xs.length → ∃ b o : Nat, A = some ⟨b, o, none⟩ ∧ b < B ∧ ∀ i (h : i < xs.length), w.cell? ⟨b, o + i, none⟩ = some (.string xs[i]))

theorem Strs.below {w w' : World} {B : Nat} {v : Value} {xs : List ByteArray} (h : Strs w B v xs) (hb : Below B w w') : Strs w' B v xs := by
  obtain ⟨A, c, hv, hc, hr⟩ := h
  refine ⟨A, c, hv, hc, fun hn => ?_⟩
  obtain ⟨b, o, hA, hlt, hcell⟩ := hr hn
  exact ⟨b, o, hA, hlt, fun i hi => (hb.cell (p := ⟨b, o + i, none⟩) hlt).trans (hcell i hi)⟩
theorem Strs.mono {w : World} {B B' : Nat} {v : Value} {xs : List ByteArray} (h : Strs w B v xs) (hB : B ≤ B') : Strs w B' v xs := by
  obtain ⟨A, c, hv, hc, hr⟩ := h
  refine ⟨A, c, hv, hc, fun hn => ?_⟩
  obtain ⟨b, o, hA, hlt, hcell⟩ := hr hn
  exact ⟨b, o, hA, Nat.lt_of_lt_of_le hlt hB, hcell⟩
theorem Strs.of_own {w : World} {base : Nat} {v : Value} {xs : List ByteArray} (h : w.ownsRow base 9 1 v xs.length (xs.map Value.string)) : Strs w w.heap.size v xs := by
  rcases h.2 with ⟨rfl, h0⟩ | ⟨g, cap, cur, rfl, hb, hg, hn, _, _, ht⟩
  · exact ⟨none, 0, by rw [h0], by omega, fun hn => by omega⟩
  · refine ⟨_, cap, rfl, hn, fun hp => ⟨g, 0, rfl, ?_, fun i hi => ?_⟩⟩
    · rcases Nat.lt_or_ge g w.heap.size with hlt | hge
      · exact hlt
      · rw [Array.getElem?_eq_none hge] at hg; cases hg
    · have := h.cells (g := g) rfl i (.string xs[i]) (by simp [hi])
      rcases i with _ | i
      · simpa [Addr.add] using this
      · simpa [Addr.add, Nat.zero_add] using this

def ops (l : List (ByteArray × Int)) : List ByteArray := l.map (·.1)

theorem Met.below {w w' : World} {e : Int} (hb : Below w.heap.size w w') {l : List (ByteArray × Int)} {v : Value} (h : Met w e l v) : Met w' e l v := by
  cases l with
  | nil => exact h
  | cons s l =>
    obtain ⟨b, u, hv, hlt, h0, h1, h2, hr⟩ := h
    exact ⟨b, u, hv, Nat.lt_of_lt_of_le hlt hb.size, (hb.cell (p := ⟨b, 0, none⟩) hlt).trans h0, (hb.cell (p := ⟨b, 1, none⟩) hlt).trans h1, (hb.cell (p := ⟨b, 2, none⟩) hlt).trans h2, hr.below hb⟩

end Go.Proofs.YthmpimjmajoimaaGreatDoor
namespace Go.Proofs.YthmpimjmajoimaaGreatDoor
open Go.RowKit Go.Extern.Stop Go.Stop Go.Extern

/-! ### two errors of one integer type compared: as the numbers are -/
theorem eqIn_iface_int {P : Program} (w : World) (d : Nat) {ti tn : TypeId} {ms : Array (String × TypeId)} {i : TypeInfo} {k : IntKind} (a b : Int)
    (hi : P.underlying ti = some (.interface ms)) (hn : P.underlying tn = some (.int k)) (hinfo : P.info? tn = some i) (hcomp : i.comparable = true) :
    (Op.equalIn (d + 2) ti (.iface tn (.int k a)) (.iface tn (.int k b))).run P w = .ok (a == b) w := by
  simp [Op.equalIn, run_underlying hi, run_underlying hn, typeInfo, hinfo, hcomp]
theorem eq_iface_int {P : Program} (w : World) {ti tn : TypeId} {ms : Array (String × TypeId)} {i : TypeInfo} {k : IntKind} (a b : Int)
    (hi : P.underlying ti = some (.interface ms)) (hn : P.underlying tn = some (.int k)) (hinfo : P.info? tn = some i) (hcomp : i.comparable = true) :
    (binOp .eql ti (.iface tn (.int k a)) (.iface tn (.int k b))).run P w = .ok (.bool (a == b)) w := by
  simp only [binOp]
  simp [Op.equal, Op.maxDepth, eqIn_iface_int w 9998 a b hi hn hinfo hcomp]
theorem errnoComp : (Tryz.prog.info? 31).map (·.comparable) = some true := by kernel_rfl
theorem eq_errno (a b : Int) (w : World) : (binOp .eql 27 (.iface 31 (.int .i64 a)) (.iface 31 (.int .i64 b))).run Tryz.prog w = .ok (.bool (a == b)) w := by
  obtain ⟨i, hi, hc⟩ := Option.map_eq_some_iff.1 errnoComp
  exact eq_iface_int w a b Tryz.underlying27 Tryz.underlying31 hi hc
theorem eq_fault_errno (x y : Value) (w : World) : (binOp .eql 27 (.iface 143 x) (.iface 31 y)).run Tryz.prog w = .ok (.bool false) w :=
  run_eql_iface_types (P := Tryz.prog) 143 31 x y Tryz.underlying27 (by decide) w

/-! ### closed facts -/
theorem typeOf_errno (v : Value) (w : World) : (Extern.ReflectliteType.typeOf #[.iface 31 v]).run Tryz.prog w = .ok (.iface 170 (.agg #[.pointer (some ⟨1, 31, none⟩)])) w := by kernel_rfl
def compF : Array Value → Sem Value := Extern.ReflectliteType.method fun t => do Extern.Rtype.noPackHeld "Comparable" t; pure (.bool (← typeInfo t).comparable)
theorem comparable_errno (w : World) : (compF #[.agg #[.pointer (some ⟨1, 31, none⟩)]]).run Tryz.prog w = .ok (.bool true) w := by kernel_rfl
theorem method_comparable (v : Value) (w : World) : (Go.method 354 170 v "Comparable").run Tryz.prog w = .ok (168, v) w := by kernel_rfl
theorem noIs_errno (v : Value) (xT : TypeId) (w : World) : (Instr.typeAssert (.iface 31 v) xT 195 true).run Tryz.prog w = .ok (.tuple #[.nilIface, .bool false]) w := run_typeAssert_lacksB Tryz.underlying195 (by kernel_rfl) (by kernel_rfl) v xT w
theorem noIs_fault (v : Value) (xT : TypeId) (w : World) : (Instr.typeAssert (.iface 143 v) xT 195 true).run Tryz.prog w = .ok (.tuple #[.nilIface, .bool false]) w := run_typeAssert_lacksB Tryz.underlying195 (by kernel_rfl) (by kernel_rfl) v xT w
theorem noUn_errno (v : Value) (xT : TypeId) (w : World) : (Instr.typeAssert (.iface 31 v) xT 177 true).run Tryz.prog w = .ok (.tuple #[.nilIface, .bool false]) w := run_typeAssert_lacksB Tryz.underlying177 (by kernel_rfl) (by kernel_rfl) v xT w
theorem noUns_errno (v : Value) (xT : TypeId) (w : World) : (Instr.typeAssert (.iface 31 v) xT 178 true).run Tryz.prog w = .ok (.tuple #[.nilIface, .bool false]) w := run_typeAssert_lacksB Tryz.underlying178 (by kernel_rfl) (by kernel_rfl) v xT w
theorem un_fault (v : Value) (xT : TypeId) (w : World) : (Instr.typeAssert (.iface 143 v) xT 177 true).run Tryz.prog w = .ok (.tuple #[.iface 143 v, .bool true]) w := run_typeAssert_hasB Tryz.underlying177 (by kernel_rfl) v xT w
theorem method_unwrap (v : Value) (w : World) : (Go.method 354 143 v "Unwrap").run Tryz.prog w = .ok (165, v) w := by kernel_rfl

/-- What stands at the chain's next place is no nil. -/
theorem Err.form {w : World} {e : Int} {l : List (ByteArray × Int)} {v : Value} (h : Err w e l v) : ∃ (t : TypeId) (x : Value), v = .iface t x := by
  cases l with
  | nil => exact ⟨_, _, h⟩
  | cons s l => obtain ⟨b, u, rfl, _⟩ := h; exact ⟨_, _, rfl⟩

def BoolIsq1 (w : World) (x : Bool) (r : Ending) (w' : World) : Prop := r = .returned (.bool x) ∧ w = w'

theorem is_err {w : World} {e : Int} {l : List (ByteArray × Int)} {v : Value} (t : Int) (h : Err w e l v) : Calls Tryz.prog 96 #[v, .iface 31 (.int .i64 t), .bool true] w (BoolIsq1 w (e == t)) := by
  have H := Lib.hid h
  clear h
  have q1 := eq_errno
  have q2 := eq_fault_errno
  have nE := noIs_errno
  have nF := noIs_fault
  have uE := noUn_errno
  have vE := noUns_errno
  have uF := un_fault
  have mU := method_unwrap
  go_enter Tryz.func96, Tryz.ntmps96
  go_wp2_with fail
  go_loopg [0] l.length (fun k u wr => w = wr ∧ ∃ l' : List (ByteArray × Int), l'.length = k ∧ Err w e l' u)
  case atStart => exact ⟨rfl, l, rfl, H.out⟩
  case round =>
    clear H
    obtain ⟨rfl, l', hk, hm⟩ := hrel
    have HK := Lib.hid hk
    clear hk
    cases l' with
    | nil =>
      obtain rfl : _ = _ := hm
      cases ht : (e == t) with
      | true =>
        go_wp2
        go_ret
        exact ⟨rfl, rfl⟩
      | false =>
        go_wp2
        go_ret
        exact ⟨rfl, rfl⟩
    | cons s l2 =>
      obtain ⟨b, u, rfl, hlt, h0, h1, h2, hr⟩ := hm
      obtain ⟨tt, x, rfl⟩ := hr.form
      have HR := Lib.hid hr
      clear hr
      go_wp2_with fail
      refine (unwrap_some b _ _ h2).mono ?_
      rintro r w' ⟨rfl, rfl⟩
      go_wp2_with fail
      go_roundg l2.length
      case rel => exact ⟨rfl, l2, rfl, HR.out⟩
      case measure => have := HK.out; simp at this; omega

theorem eIs_err {w : World} {e : Int} {l : List (ByteArray × Int)} {v : Value} (t : Int) (h : Err w e l v) : Calls Tryz.prog 57 #[v, .iface 31 (.int .i64 t)] w (BoolIsq1 w (e == t)) := by
  obtain ⟨tt, x, rfl⟩ := h.form
  have H := Lib.hid h
  clear h
  have h8 := @run_callFunc_extern Tryz.prog 95 _ Extern.ReflectliteType.typeOf Tryz.func95 (by kernel_rfl) (by kernel_rfl) (by kernel_rfl) (by kernel_rfl)
  have h32 := @run_callFunc_extern Tryz.prog 168 _ compF Tryz.func168 (by kernel_rfl) (by kernel_rfl) (by kernel_rfl) (by kernel_rfl)
  have tT := typeOf_errno
  have cT := comparable_errno
  have mR := method_comparable
  go_enter Tryz.func57, Tryz.ntmps57
  go_wp2_with (go_at_call 96; refine (is_err t H.out).mono ?_; rintro r w' ⟨rfl, rfl⟩)
  go_ret
  exact ⟨rfl, rfl⟩

end Go.Proofs.YthmpimjmajoimaaGreatDoor
namespace Go.Proofs.YthmpimjmajoimaaGreatDoor
open Go.RowKit Go.Extern.Stop Go.Stop Go.Extern

theorem e_typeOfF (v : Value) (w : World) : (tOfF #[.iface 143 v]).run Tryz.prog w = .ok (.iface 170 (hnd 143)) w := by kernel_rfl
theorem e_assignF (w : World) : (rtAssignF #[hnd 143, .iface 170 (hnd 31)]).run Tryz.prog w = .ok (.bool false) w := by kernel_rfl
theorem e_noAs (v : Value) (xT : TypeId) (w : World) : (Instr.typeAssert (.iface 143 v) xT 174 true).run Tryz.prog w = .ok (.tuple #[.nilIface, .bool false]) w := run_typeAssert_lacksB Tryz.underlying174 (by kernel_rfl) (by kernel_rfl) v xT w

set_option maxHeartbeats 1000000 in
theorem as_err {w : World} {e : Int} {l : List (ByteArray × Int)} {v : Value} (a t : Addr) (old : Value) (h : Err w e l v) (ha : w.cell? a = some (.pointer (some t))) (ht : w.cell? t = some old) (hf : w.frozen? t = false) :
    Calls Tryz.prog 72 #[v, .iface 86 (.pointer (some t)), valP a, .iface 170 (hnd 31)] w (AsIs w a t e) := by
  have hal := lt_of_cell ha
  have htl := lt_of_cell ht
  have h32 := @run_callFunc_extern Tryz.prog 95 _ tOfF Tryz.func95 (by kernel_rfl) (by kernel_rfl) (by kernel_rfl) (by kernel_rfl)
  have h75 := @run_callFunc_extern Tryz.prog 167 _ rtAssignF Tryz.func167 (by kernel_rfl) (by kernel_rfl) (by kernel_rfl) (by kernel_rfl)
  have h37 := @run_callFunc_extern Tryz.prog 99 _ vElemF Tryz.func99 (by kernel_rfl) (by kernel_rfl) (by kernel_rfl) (by kernel_rfl)
  have h38 := @run_callFunc_extern Tryz.prog 100 _ vSetF Tryz.func100 (by kernel_rfl) (by kernel_rfl) (by kernel_rfl) (by kernel_rfl)
  have h28 := @run_callFunc_extern Tryz.prog 69 _ vOfF Tryz.func69 (by kernel_rfl) (by kernel_rfl) (by kernel_rfl) (by kernel_rfl)
  have k1 := e_typeOfE
  have k2 := e_typeOfF
  have k3 := e_assignE
  have k4 := e_assignF
  have k5 := e_mAssign
  have k6 := e_valueOfE
  have k7 := e_noAs
  have k8 := un_fault
  have k9 := method_unwrap
  have kE := e_elemV a t (w.alloc (.cells #[.pointer (some ⟨1, 86, none⟩), .pointer (some a), .int .u64 150] 133)) (by rw [World.cell?_alloc_lt _ _ a hal]; exact ha)
  have kS := e_set t ⟨w.heap.size + 1, 0, none⟩ e old ((w.alloc (.cells #[.pointer (some ⟨1, 86, none⟩), .pointer (some a), .int .u64 150] 133)).alloc (.cells #[.int .i64 e] 31))
    (by rw [World.cell?_alloc_at _ _ _ _ (by simp)]; rfl)
    (by rw [World.cell?_alloc_lt _ _ t (by simp; omega), World.cell?_alloc_lt _ _ t htl]; exact ht)
    (by rw [World.frozen?_alloc_old _ _ t (by simp; omega), World.frozen?_alloc_old _ _ t (Nat.ne_of_lt htl)]; exact hf)
  have H := Lib.hid h
  clear h ha ht hf
  go_enter Tryz.func72, Tryz.ntmps72
  go_wp2_with fail
  go_loopg [0] l.length (fun k u wr => w.alloc (.cells #[.pointer (some ⟨1, 86, none⟩), .pointer (some a), .int .u64 150] 133) = wr ∧ ∃ l' : List (ByteArray × Int), l'.length = k ∧ Err w e l' u)
  case atStart => exact ⟨rfl, l, rfl, H.out⟩
  case round =>
    clear H
    obtain ⟨rfl, l', hk, hm⟩ := hrel
    have HK := Lib.hid hk
    clear hk
    cases l' with
    | nil =>
      obtain rfl : _ = _ := hm
      go_wp2
      go_ret
      exact ⟨rfl, rfl⟩
    | cons s l2 =>
      obtain ⟨b, u, rfl, hlt, h0, h1, h2, hr⟩ := hm
      obtain ⟨tt, x, rfl⟩ := hr.form
      have HR := Lib.hid hr
      clear hr
      go_wp2_with fail
      refine (unwrap_some b _ _ ((World.cell?_alloc_lt _ _ ⟨b, 2, none⟩ hlt).trans h2)).mono ?_
      rintro r w' ⟨rfl, rfl⟩
      go_wp2_with fail
      go_roundg l2.length
      case rel => exact ⟨rfl, l2, rfl, HR.out⟩
      case measure => have := HK.out; simp at this; omega
end Go.Proofs.YthmpimjmajoimaaGreatDoor

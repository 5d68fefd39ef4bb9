/-
  The landed device's calls as one bundle of contracts; acts in memory; large.
-/
import Derived.Test.YtljpkngbhdplbaaDoorZnsM
import Derived.Test.YtljpkngbhdplbaaDoorCodeA
namespace Go.Proofs.YtljpkngbhdplbaaDoor
open Go.RowKit

theorem BytF.up {F : Nat → Prop} {w w' : World} {v : Value} {xs : List Int} (h : BytF F w v xs) (hb : Below w.heap.size w w') : BytF F w' v xs := h.keep (G := fun _ => False) (Kept.of_below hb) (fun _ _ => id)
/-- The value v is a slice of these cells, within F. -/
def RowF (F : Nat → Prop) (w : World) (v : Value) (vs : List Value) : Prop := ∃ A c, v = .slice A vs.length c ∧ vs.length ≤ c ∧ RdV w w.heap.size A vs ∧ InN vs.length F A ∧ (A = none → c = 0)
theorem RowF.keep {F G : Nat → Prop} {w w' : World} {v : Value} {vs : List Value} (h : RowF F w v vs) (hk : Kept G w w') (hn : ∀ k, F k → ¬ G k) : RowF F w' v vs := by
  obtain ⟨A, c, e, hc, hr, hf, h0⟩ := h
  exact ⟨A, c, e, hc, hr.keep hk (hf.mono hn), hf, h0⟩
theorem RowF.up {F : Nat → Prop} {w w' : World} {v : Value} {vs : List Value} (h : RowF F w v vs) (hb : Below w.heap.size w w') : RowF F w' v vs := h.keep (G := fun _ => False) (Kept.of_below hb) (fun _ _ => id)
theorem RowF.mono {F G : Nat → Prop} {w : World} {v : Value} {vs : List Value} (h : RowF F w v vs) (hfg : ∀ k, F k → G k) : RowF G w v vs := by
  obtain ⟨A, c, e, hc, hr, hf, h0⟩ := h
  exact ⟨A, c, e, hc, hr, hf.mono hfg, h0⟩
theorem RowF.nil (F : Nat → Prop) (w : World) : RowF F w (.slice none 0 0) [] := ⟨none, 0, rfl, by simp, RdV.nil, (InF.none _).n, fun _ => rfl⟩
theorem kCells_len (l : List Int) : (kCells l).length = l.length := by simp [kCells]
theorem tCells_len (l : List Bool) : (tCells l).length = l.length := by simp [tCells]

/-- A number that an int holds. -/
def Wd (n : Int) : Prop := -9223372036854775808 ≤ n ∧ n ≤ 9223372036854775807
/-- What a device's calls answer, as the landed package tells it. -/
def ZMade (D : (Nat → Prop) → World → Nat → DevS → Prop) (o : Option DevS) (w : World) (r : Ending) (w' : World) : Prop :=
  match o with
  | none => r = .returned (.tuple #[.pointer none, errV 1]) ∧ Below w.heap.size w w'
  | some S => ∃ db, r = .returned (.tuple #[.pointer (some ⟨db, 0, none⟩), .nilIface]) ∧ D (fun k => w.heap.size ≤ k ∧ k < w'.heap.size) w' db S ∧ Below w.heap.size w w'
def ZDone (D : (Nat → Prop) → World → Nat → DevS → Prop) (F : Nat → Prop) (db : Nat) (S' : DevS) (v : Value) (w : World) (r : Ending) (w' : World) : Prop := r = .returned v ∧ D (grow F w w') w' db S' ∧ Kept F w w'
def ZRead (xs : List Int) (e : Int) (w : World) (r : Ending) (w' : World) : Prop := ∃ v, r = .returned (.tuple #[v, errV e]) ∧ BytN w w' v xs ∧ Below w.heap.size w w'
/-- The landed device, whatever its memory looks like, and its calls' contracts. -/
structure ZOps where
  D : (Nat → Prop) → World → Nat → DevS → Prop
  keep : ∀ {F G : Nat → Prop} {w w' : World} {db : Nat} {S : DevS}, D F w db S → Kept G w w' → (∀ k, F k → ¬ G k) → D F w' db S
  lt : ∀ {F : Nat → Prop} {w : World} {db : Nat} {S : DevS}, D F w db S → ∀ k, F k → k < w.heap.size
  wf : ∀ {F : Nat → Prop} {w : World} {db : Nat} {S : DevS}, D F w db S → S.WF
  mono : ∀ {F G : Nat → Prop} {w : World} {db : Nat} {S : DevS}, D F w db S → (∀ k, F k → G k) → (∀ k, G k → k < w.heap.size) → D G w db S
  new : ∀ {w : World} (n p : Int), Calls Tryd.prog 11 #[.int .i64 n, .int .i64 p] w (ZMade D (newD n p) w)
  load : ∀ {w : World} (p : Int) (v : Value) (l : List (List (List Int))), Rows3 w v l → (∀ z ∈ l, ∀ b ∈ z, Byt b) → l.length ≤ 30 → (∀ z ∈ l, z.length ≤ 30 ∧ ∀ b ∈ z, b.length ≤ 100) → Calls Tryd.prog 19 #[.int .i64 p, v] w (ZMade D (loadD p l) w)
  zones : ∀ {F : Nat → Prop} {w : World} {db : Nat} {S : DevS}, D F w db S → Calls Tryd.prog 32 #[.pointer (some ⟨db, 0, none⟩)] w (IntB (S.zones.length : Int) w)
  pages : ∀ {F : Nat → Prop} {w : World} {db : Nat} {S : DevS}, D F w db S → Calls Tryd.prog 33 #[.pointer (some ⟨db, 0, none⟩)] w (IntB (S.P : Int) w)
  ops : ∀ {F : Nat → Prop} {w : World} {db : Nat} {S : DevS}, D F w db S → Calls Tryd.prog 26 #[.pointer (some ⟨db, 0, none⟩)] w (IntB (S.done : Int) w)
  down : ∀ {F : Nat → Prop} {w : World} {db : Nat} {S : DevS}, D F w db S → Calls Tryd.prog 24 #[.pointer (some ⟨db, 0, none⟩)] w (BoolB S.gone w)
  state : ∀ {F : Nat → Prop} {w : World} {db : Nat} {S : DevS} (n : Int), D F w db S → Calls Tryd.prog 31 #[.pointer (some ⟨db, 0, none⟩), .int .i64 n] w (IntB (S.state n) w)
  point : ∀ {F : Nat → Prop} {w : World} {db : Nat} {S : DevS} (n : Int), D F w db S → Calls Tryd.prog 22 #[.pointer (some ⟨db, 0, none⟩), .int .i64 n] w (IntB (S.point n : Int) w)
  sure : ∀ {F : Nat → Prop} {w : World} {db : Nat} {S : DevS} (n : Int), D F w db S → Calls Tryd.prog 21 #[.pointer (some ⟨db, 0, none⟩), .int .i64 n] w (IntB (S.sureOf n : Int) w)
  append : ∀ {F : Nat → Prop} {w : World} {db : Nat} {S : DevS} (n : Int) (v : Value) (b : List Int), D F w db S → S.done ≤ 1000000 → BytF (fun k => ¬ F k) w v b → Byt b → b.length ≤ 100 →
    Calls Tryd.prog 30 #[.pointer (some ⟨db, 0, none⟩), .int .i64 n, v] w (ZDone D F db (S.app n b) (.tuple #[.int .i64 (S.appN n b), errV (S.mayE (S.appE n b))]) w)
  read : ∀ {F : Nat → Prop} {w : World} {db : Nat} {S : DevS} (n p : Int), D F w db S → Calls Tryd.prog 23 #[.pointer (some ⟨db, 0, none⟩), .int .i64 n, .int .i64 p] w (ZRead (S.readB n p) (S.readE n p) w)
  reset : ∀ {F : Nat → Prop} {w : World} {db : Nat} {S : DevS} (n : Int), D F w db S → S.done ≤ 1000000 → Calls Tryd.prog 34 #[.pointer (some ⟨db, 0, none⟩), .int .i64 n] w (ZDone D F db (S.reset n) (errV (S.mayE (S.resetE n))) w)
  finish : ∀ {F : Nat → Prop} {w : World} {db : Nat} {S : DevS} (n : Int), D F w db S → S.done ≤ 1000000 → Calls Tryd.prog 36 #[.pointer (some ⟨db, 0, none⟩), .int .i64 n] w (ZDone D F db (S.finish n) (errV (S.mayE (S.finE n))) w)
  flush : ∀ {F : Nat → Prop} {w : World} {db : Nat} {S : DevS}, D F w db S → S.done ≤ 1000000 → Calls Tryd.prog 28 #[.pointer (some ⟨db, 0, none⟩)] w (ZDone D F db S.flush (errV (S.mayE 0)) w)
  fuse : ∀ {F : Nat → Prop} {w : World} {db : Nat} {S : DevS} (n : Int), D F w db S → n ≤ 9223372036854775807 → Calls Tryd.prog 25 #[.pointer (some ⟨db, 0, none⟩), .int .i64 n] w (ZDone D F db (S.fuse n) (.tuple #[]) w)
  crash : ∀ {F : Nat → Prop} {w : World} {db : Nat} {S : DevS} (vk vt : Value) (keep : List Int) (tear : List Bool), D F w db S → RowF (fun k => ¬ F k) w vk (kCells keep) → RowF (fun k => ¬ F k) w vt (tCells tear) → keep.length ≤ 100 → tear.length ≤ 100 → (∀ n ∈ keep, Wd n) →
    Calls Tryd.prog 27 #[.pointer (some ⟨db, 0, none⟩), vk, vt] w (ZDone D F db (S.crash keep tear) (.tuple #[]) w)
theorem ZOps.up (Z : ZOps) {F : Nat → Prop} {w w' : World} {db : Nat} {S : DevS} (h : Z.D F w db S) (hb : Below w.heap.size w w') : Z.D F w' db S := Z.keep h (G := fun _ => False) (Kept.of_below hb) (fun _ _ => id)

/-- An act's six cells. -/
def ActF (F : Nat → Prop) (w : World) (vb vk vt : Value) (x : ActS) : Prop := BytF F w vb x.B ∧ RowF F w vk (kCells x.keep) ∧ RowF F w vt (tCells x.tear)
theorem ActF.keep {F G : Nat → Prop} {w w' : World} {vb vk vt : Value} {x : ActS} (h : ActF F w vb vk vt x) (hk : Kept G w w') (hn : ∀ k, F k → ¬ G k) : ActF F w' vb vk vt x := ⟨h.1.keep hk hn, h.2.1.keep hk hn, h.2.2.keep hk hn⟩
theorem ActF.up {F : Nat → Prop} {w w' : World} {vb vk vt : Value} {x : ActS} (h : ActF F w vb vk vt x) (hb : Below w.heap.size w w') : ActF F w' vb vk vt x := ⟨h.1.up hb, h.2.1.up hb, h.2.2.up hb⟩
theorem ActF.mono {F G : Nat → Prop} {w : World} {vb vk vt : Value} {x : ActS} (h : ActF F w vb vk vt x) (hfg : ∀ k, F k → G k) : ActF G w vb vk vt x := ⟨h.1.mono hfg, h.2.1.mono hfg, h.2.2.mono hfg⟩
theorem ActF.form {F : Nat → Prop} {w : World} {vb vk vt : Value} {x : ActS} (h : ActF F w vb vk vt x) : ∃ A1 c1 A2 c2 A3 c3, vb = .slice A1 x.B.length c1 ∧ vk = .slice A2 x.keep.length c2 ∧ vt = .slice A3 x.tear.length c3 := by
  obtain ⟨⟨A1, c1, e1, _⟩, ⟨A2, c2, e2, _⟩, ⟨A3, c3, e3, _⟩⟩ := h
  rw [kCells_len] at e2
  rw [tCells_len] at e3
  exact ⟨A1, c1, A2, c2, A3, c3, e1, e2, e3⟩
def actCells (x : ActS) (vb vk vt : Value) : List Value := [.int .i64 x.Do, .int .i64 x.zone, .int .i64 x.page, vb, vk, vt]
def actV (x : ActS) (vb vk vt : Value) : Value := .agg #[.int .i64 x.Do, .int .i64 x.zone, .int .i64 x.page, vb, vk, vt]
/-- The slice of A, l.length, c reads as these acts, within F. -/
def ActsF (F : Nat → Prop) (w : World) (A : Option Addr) (l : List ActS) : Prop :=
  0 < l.length → ∃ b o : Nat, A = some ⟨b, o, none⟩ ∧ b < w.heap.size ∧ F b ∧ ∀ i (h : i < l.length), ∃ vb vk vt, ActF F w vb vk vt l[i] ∧ w.cell? ⟨b, o + i * 6, none⟩ = some (.int .i64 l[i].Do) ∧ w.cell? ⟨b, o + i * 6 + 1, none⟩ = some (.int .i64 l[i].zone) ∧
    w.cell? ⟨b, o + i * 6 + 2, none⟩ = some (.int .i64 l[i].page) ∧ w.cell? ⟨b, o + i * 6 + 3, none⟩ = some vb ∧ w.cell? ⟨b, o + i * 6 + 4, none⟩ = some vk ∧ w.cell? ⟨b, o + i * 6 + 5, none⟩ = some vt
theorem ActsF.keep {F G : Nat → Prop} {w w' : World} {A : Option Addr} {l : List ActS} (h : ActsF F w A l) (hk : Kept G w w') (hn : ∀ k, F k → ¬ G k) : ActsF F w' A l := by
  intro hp
  obtain ⟨b, o, e, hlt, hb, hx⟩ := h hp
  refine ⟨b, o, e, Nat.lt_of_lt_of_le hlt hk.size, hb, fun i hi => ?_⟩
  obtain ⟨vb, vk, vt, ha, h0, h1, h2, h3, h4, h5⟩ := hx i hi
  exact ⟨vb, vk, vt, ha.keep hk hn, hk.cell h0 (hn _ hb), hk.cell h1 (hn _ hb), hk.cell h2 (hn _ hb), hk.cell h3 (hn _ hb), hk.cell h4 (hn _ hb), hk.cell h5 (hn _ hb)⟩
theorem ActsF.up {F : Nat → Prop} {w w' : World} {A : Option Addr} {l : List ActS} (h : ActsF F w A l) (hb : Below w.heap.size w w') : ActsF F w' A l := h.keep (G := fun _ => False) (Kept.of_below hb) (fun _ _ => id)
/-- An act's numbers and bytes are such. -/
def ActOk (x : ActS) : Prop := x.page ≤ 9223372036854775807 ∧ Byt x.B ∧ ∀ n ∈ x.keep, Wd n

def longA (x : ActS) : Bool := decide (100 < x.B.length) || decide (100 < x.keep.length) || decide (100 < x.tear.length)
def largeA (l : List ActS) : Bool := decide (100 < l.length) || l.any longA
theorem large_bd {l : List ActS} (h : largeA l = false) : l.length ≤ 100 ∧ ∀ x ∈ l, x.B.length ≤ 100 ∧ x.keep.length ≤ 100 ∧ x.tear.length ≤ 100 := by
  unfold largeA at h
  simp only [Bool.or_eq_false_iff, decide_eq_false_iff_not, List.any_eq_false] at h
  refine ⟨by omega, fun x hx => ?_⟩
  have := h.2 x hx
  simp [longA] at this
  omega
theorem large_is {F : Nat → Prop} {w : World} {A : Option Addr} {n c : Nat} {l : List ActS} (hl : l.length = n) (h : ActsF F w A l) : Calls Tryd.prog 10 #[.slice A n c] w (BoolB (largeA l) w) := by
  have HA := Lib.hid h
  have HL := Lib.hid hl
  clear h hl
  by_cases h100 : 100 < n
  · have HR : Hid (largeA l = true) := Lib.hid (by simp [largeA, HL.out, h100])
    go_enter Tryd.func10, Tryd.ntmps10
    go_wp2_with fail
    go_ret
    rw [HR.out]
    exact ⟨rfl, Below.refl _ _⟩
  · go_enter Tryd.func10, Tryd.ntmps10
    go_wp2_with fail
    go_loopg [10] n (fun q x wr => ∃ i : Nat, i ≤ n ∧ q = n - i ∧ x = .int .i64 i ∧ (∀ j (h : j < l.length), j < i → longA l[j] = false) ∧ Below w.heap.size w wr)
    case atStart => exact ⟨0, by omega, by omega, rfl, fun j _ h => absurd h (by omega), Below.refl _ _⟩
    case round =>
      obtain ⟨i, hi, hq, rfl, hno, hb⟩ := hrel
      have HQ := Lib.hid hq
      have HN := Lib.hid hno
      have HB := Lib.hid hb
      clear hq hno hb
      by_cases hlt : i < n
      · have hll : i < l.length := by rw [HL.out]; exact hlt
        obtain ⟨b, o, rfl, hbl, _, hx⟩ := HA.out (by omega)
        obtain ⟨vb, vk, vt, hf, h0, h1, h2, h3, h4, h5⟩ := hx i hll
        obtain ⟨x, hx⟩ : ∃ x, l[i] = x := ⟨_, rfl⟩
        rw [hx] at hf h0 h1 h2
        obtain ⟨A1, c1, A2, c2, A3, c3, rfl, rfl, rfl⟩ := hf.form
        have HX := Lib.hid hx
        obtain ⟨m1, hm1⟩ : ∃ m, x.B.length = m := ⟨_, rfl⟩
        obtain ⟨m2, hm2⟩ : ∃ m, x.keep.length = m := ⟨_, rfl⟩
        obtain ⟨m3, hm3⟩ : ∃ m, x.tear.length = m := ⟨_, rfl⟩
        have HM := Lib.hid (And.intro hm1 (And.intro hm2 hm3))
        rw [hm1] at h3
        rw [hm2] at h4
        rw [hm3] at h5
        have k0 := (HB.out.cell (p := ⟨b, o + i * 6, none⟩) hbl).trans h0
        have k1 := (HB.out.cell (p := ⟨b, o + i * 6 + 1, none⟩) hbl).trans h1
        have k2 := (HB.out.cell (p := ⟨b, o + i * 6 + 2, none⟩) hbl).trans h2
        have k3 := (HB.out.cell (p := ⟨b, o + i * 6 + 3, none⟩) hbl).trans h3
        have k4 := (HB.out.cell (p := ⟨b, o + i * 6 + 4, none⟩) hbl).trans h4
        have k5 := (HB.out.cell (p := ⟨b, o + i * 6 + 5, none⟩) hbl).trans h5
        have HBN : Hid (∀ cs, Below w.heap.size w (wr.alloc cs)) := Lib.hid (fun cs => HB.out.alloc HB.out.size cs)
        have HY : Hid (longA x = true → largeA l = true) := Lib.hid (fun h => by
          simp only [largeA, Bool.or_eq_true, List.any_eq_true]
          exact .inr ⟨x, by rw [← HX.out]; exact List.getElem_mem _, h⟩)
        clear hf hx h0 h1 h2 h3 h4 h5 hm1 hm2 hm3
        by_cases q1 : 100 < m1
        · go_wp2_with fail
          go_ret
          rw [HY.out (by simp [longA, HM.out.1, q1])]
          exact ⟨rfl, HBN.out _⟩
        · by_cases q2 : 100 < m2
          · go_wp2_with fail
            go_ret
            rw [HY.out (by simp [longA, HM.out.2.1, q2])]
            exact ⟨rfl, HBN.out _⟩
          · by_cases q3 : 100 < m3
            · go_wp2_with fail
              go_ret
              rw [HY.out (by simp [longA, HM.out.2.2, q3])]
              exact ⟨rfl, HBN.out _⟩
            · go_wp2_with fail
              go_roundg (n - (i + 1))
              case rel =>
                refine ⟨i + 1, by omega, rfl, by go_num, fun j h hj => ?_, HBN.out _⟩
                by_cases e : j = i
                · subst e
                  rw [HX.out]
                  simp [longA, HM.out.1, HM.out.2.1, HM.out.2.2]
                  omega
                · exact HN.out j h (by omega)
              case measure => have := HQ.out; omega
      · obtain rfl : i = n := by omega
        have HR : Hid (largeA l = false) := Lib.hid (by
          simp only [largeA, Bool.or_eq_false_iff, decide_eq_false_iff_not, List.any_eq_false]
          refine ⟨by rw [HL.out]; exact h100, fun x hx => ?_⟩
          obtain ⟨j, hj, rfl⟩ := List.getElem_of_mem hx
          rw [HN.out j hj (by have := HL.out; omega)]
          simp)
        go_wp2_with fail
        go_ret
        rw [HR.out]
        exact ⟨rfl, HB.out⟩
end Go.Proofs.YtljpkngbhdplbaaDoor

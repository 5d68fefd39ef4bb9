/-
  head.Bytes where it is refused; bytes.Clone; head.Read.
-/
import Derived.Test.YtnkkifnglkajfaaDoorHeadD
import Derived.Laws.Cover3
namespace Go.Proofs.YtnkkifnglkajfaaDoor
open Go.RowKit

def BytesNo (e : Int) (w : World) (r : Ending) (w' : World) : Prop := r = .returned (.tuple #[.slice none 0 0, .iface 31 (.int .i64 e)]) ∧ Below w.heap.size w w'
theorem bytes_arg (k s i q : Int) (A : Option Addr) (n c : Nat) (w : World) (hk : rightK k = false) : Calls Tryd.prog 7 #[.agg #[.int .u8 k, .int .u32 s, .int .u32 i, .int .u32 q], .slice A n c] w (BytesNo 1 w) := by
  have HB0 := Lib.hid ((Below.refl w.heap.size w).alloc (Nat.le_refl _) (.cells #[.int .u8 k, .int .u32 s, .int .u32 i, .int .u32 q] 24))
  go_enter Tryd.func7, Tryd.ntmps7
  go_wp2_with fail
  refine (hright_is k s i q _).mono ?_
  rintro r w1 ⟨rfl, hb⟩
  have HB1 := Lib.hid (HB0.out.trans (hb.mono HB0.out.size))
  clear hb
  rw [hk]
  go_wp2_with fail
  go_ret2
  exact ⟨rfl, HB1.out⟩
theorem bytes_short (k s i q : Int) (A : Option Addr) (n c : Nat) (w : World) (hk : rightK k = true) (hn : n ≠ 16) : Calls Tryd.prog 7 #[.agg #[.int .u8 k, .int .u32 s, .int .u32 i, .int .u32 q], .slice A n c] w (BytesNo 3 w) := by
  have HB0 := Lib.hid ((Below.refl w.heap.size w).alloc (Nat.le_refl _) (.cells #[.int .u8 k, .int .u32 s, .int .u32 i, .int .u32 q] 24))
  have q1 : ((n : Int) == 16) = false := by simp; omega
  go_enter Tryd.func7, Tryd.ntmps7
  go_wp2_with fail
  refine (hright_is k s i q _).mono ?_
  rintro r w1 ⟨rfl, hb⟩
  have HB1 := Lib.hid (HB0.out.trans (hb.mono HB0.out.size))
  clear hb
  rw [hk]
  go_wp2_with fail
  go_ret2
  exact ⟨rfl, HB1.out⟩

theorem eq_nil8 (a : Option Addr) (n c : Nat) (w : World) : (binOp .eql 25 (.slice a n c) (.slice none 0 0)).run Tryd.prog w = .ok (.bool a.isNone) w := by
  simp only [binOp]
  simp [run_equal_slice_nil w 25 5 a n c Tryd.underlying25]
/-- bytes.Clone. -/
def CloneIs (n : Nat) (xs : List Int) (w : World) (r : Ending) (w' : World) : Prop := ∃ g cap, r = .returned (.slice (some ⟨g, 0, none⟩) n cap) ∧ Own8 w' w.heap.size g cap xs ∧ Below w.heap.size w w'
set_option maxRecDepth 100000 in
theorem clone_is (b o n c : Nat) (xs : List Int) (w : World) (hr : Rd w w.heap.size (some ⟨b, o, none⟩) xs) (hl : xs.length = n) (hn : 0 < n) (hm : n ≤ 20000) : Calls Tryd.prog 21 #[.slice (some ⟨b, o, none⟩) n c] w (CloneIs n xs w) := by
  have HR := Lib.hid hr
  have HL := Lib.hid hl
  clear hr hl
  have HE := Lib.hid (own_empty w w.heap.size (Nat.le_refl _))
  have HB := Lib.hid ((Below.refl w.heap.size w).alloc (Nat.le_refl _) (.cells #[] 5))
  obtain rfl := HL.out
  have hq := eq_nil8
  go_enter Tryd.func21, Tryd.ntmps21
  go_wp2_with (first
    | (at_builtin; refine append_rd _ rfl (.tmp 5) (.tmp 6) rfl w.heap.size w.heap.size _ [] rfl HE.out (some ⟨b, o, none⟩) xs c rfl (HR.out.below HB.out) (fun h => by cases h) (by simp; omega) HB.out.size ?_; intro v3 w3 zs hzs hown hg; obtain rfl : xs = zs := (by rw [hzs.out]; rfl); clear hzs; have HB4 := Lib.hid (HB.out.grown hg HB.out.size (fun q hq => (HE.out.lt q hq).1)); clear hg; obtain ⟨g, cap, rfl, ho⟩ := Own8.of hown hn; have HO := Lib.hid ho; clear hown ho)
    | fail)
  go_ret
  exact ⟨g, cap, rfl, HO.out, HB4.out⟩

/-- What Read answers: a head and a row, or none and an error's code. -/
def ReadNo (e : Int) (w : World) (r : Ending) (w' : World) : Prop := r = .returned (.tuple #[.agg #[.int .u8 0, .int .u32 0, .int .u32 0, .int .u32 0], .slice none 0 0, .iface 31 (.int .i64 e)]) ∧ Below w.heap.size w w'
def ReadOk (ps : List Int) (w : World) (r : Ending) (w' : World) : Prop :=
  ∃ g cap, r = .returned (.tuple #[.agg #[.int .u8 (ps.getD 0 0), .int .u32 (bk ps 1), .int .u32 (bk ps 5), .int .u32 (bk ps 9)], .slice (some ⟨g, 0, none⟩) 16 cap, .nilIface]) ∧ Own8 w' w.heap.size g cap (ps.drop 17) ∧ Below w.heap.size w w'
theorem read_short (A : Option Addr) (n c : Nat) (w : World) (hn : n ≠ 33) : Calls Tryd.prog 9 #[.slice A n c] w (ReadNo 3 w) := by
  have HB0 := Lib.hid ((Below.refl w.heap.size w).alloc (Nat.le_refl _) (.cells #[.int .u8 0, .int .u32 0, .int .u32 0, .int .u32 0] 24))
  have q1 : ((n : Int) == 33) = false := by simp; omega
  go_enter Tryd.func9, Tryd.ntmps9
  go_wp2_with fail
  refine bodyPost_ret (v := .tuple #[.agg #[.int .u8 0, .int .u32 0, .int .u32 0, .int .u32 0], .slice none 0 0, .iface 31 (.int .i64 3)]) (by simp [results, Tryd.results9, go_sem]) rfl ⟨rfl, ?_⟩
  exact HB0.out

theorem rd_four_at {w : World} {B b o : Nat} {ps : List Int} (k : Nat) (hr : Rd w B (some ⟨b, o, none⟩) ps) (hx : Byt ps) (hk : k + 4 ≤ ps.length) : Four w b (o + k) (bk ps k) := by
  obtain ⟨b', o', hA, _, hc⟩ := hr (by omega)
  injection hA with hA
  injection hA with e1 e2
  subst e1 e2
  have g : ∀ j (h : j < ps.length), ps.getD j 0 = ps[j] := fun j h => by simp [List.getD_eq_getElem?_getD, h]
  refine ⟨ps.getD k 0, ps.getD (k + 1) 0, ps.getD (k + 2) 0, ps.getD (k + 3) 0, rfl, ?_, ?_, ?_, ?_, ?_, ?_, ?_, ?_⟩
  · rw [g k (by omega)]; exact hx.get k (by omega)
  · rw [g (k + 1) (by omega)]; exact hx.get (k + 1) (by omega)
  · rw [g (k + 2) (by omega)]; exact hx.get (k + 2) (by omega)
  · rw [g (k + 3) (by omega)]; exact hx.get (k + 3) (by omega)
  · rw [g k (by omega)]; exact hc k (by omega)
  · rw [g (k + 1) (by omega), Nat.add_assoc]; exact hc (k + 1) (by omega)
  · rw [g (k + 2) (by omega), Nat.add_assoc]; exact hc (k + 2) (by omega)
  · rw [g (k + 3) (by omega), Nat.add_assoc]; exact hc (k + 3) (by omega)
theorem Four.up {w w' : World} {B b o : Nat} {n : Int} (h : Four w b o n) (hb : Below B w w') (hB : b < B) : Four w' b o n := by
  obtain ⟨x0, x1, x2, x3, hn, b0, b1, b2, b3, c0, c1, c2, c3⟩ := h
  exact ⟨x0, x1, x2, x3, hn, b0, b1, b2, b3, (hb.cell (p := ⟨b, o, none⟩) hB).trans c0, (hb.cell (p := ⟨b, o + 1, none⟩) hB).trans c1, (hb.cell (p := ⟨b, o + 2, none⟩) hB).trans c2, (hb.cell (p := ⟨b, o + 3, none⟩) hB).trans c3⟩

def box1 (w : World) : World := (w.alloc (.cells #[.int .u32 0] 22)).alloc (.cells #[.pointer (some ⟨w.heap.size, 0, none⟩)] 52)
theorem take1_at {b o c c2 : Nat} {n : Int} {w u : World} (hu : u = box1 w) (h4 : Four w b o n) (hb : b < w.heap.size) :
    Calls Tryd.prog 20 #[.slice (some ⟨b, o, none⟩) 4 c, .slice (some ⟨w.heap.size + 1, 0, none⟩) 1 c2] u fun r w' => r = .returned (.tuple #[]) ∧ Below w.heap.size w w' ∧ Blk w' w.heap.size 22 [.int .u32 n] := by
  subst hu
  have hbel : Below w.heap.size w (box1 w) := ((Below.refl _ _).alloc (Nat.le_refl _) _).alloc (by simp) _
  have hB : Blk (box1 w) w.heap.size 22 [.int .u32 0] := (Below.heap_alloc _ _ _ (by simp)).trans (heap_alloc_new w _)
  refine (htake_is b o 4 c (w.heap.size + 1) c2 w.heap.size 0 22 [.int .u32 0] [n] (box1 w) hB (by simp) (by omega) (by omega) (by simp) ?_ ?_ (by simp) (by omega) (by simp)).mono ?_
  · intro j hj
    have hj' : j < 1 := hj
    have hh : (box1 w).heap[w.heap.size + 1]? = some (.cells #[.pointer (some ⟨w.heap.size, 0, none⟩)] 52 (0, 0)) := by
      have := heap_alloc_new (w.alloc (.cells #[.int .u32 0] 22)) (.cells #[.pointer (some ⟨w.heap.size, 0, none⟩)] 52)
      rwa [World.size_alloc] at this
    rw [cell_of_row _ (w.heap.size + 1) j _ 52 (0, 0) hh]
    rcases j with _ | j
    all_goals first | omega | rfl
  · intro j hj
    have hj' : j < 1 := hj
    rcases j with _ | j
    · exact h4.up hbel hb
    · omega
  · rintro r w' ⟨rfl, h1, h2⟩
    exact ⟨rfl, hbel.grown h1 hbel.size (fun k hk => by injection hk; omega), h2⟩

/-- The call's own result variable, and the number that was read. -/
def KeptN (w : World) (p : Nat) (v : Int) (u : World) : Prop := Below w.heap.size w u ∧ Blk u w.heap.size 24 [.int .u8 0, .int .u32 0, .int .u32 0, .int .u32 0] ∧ Blk u p 22 [.int .u32 v]
theorem KeptN.up {w : World} {p : Nat} {v : Int} {a u : World} (h : KeptN w p v a) (hb : Below a.heap.size a u) : KeptN w p v u := ⟨below_all h.1 hb, h.2.1.up hb (lt_of_block h.2.1), h.2.2.up hb (lt_of_block h.2.2)⟩

set_option maxHeartbeats 1000000 in
set_option maxRecDepth 100000 in
theorem read_sum (b o c : Nat) (ps : List Int) (w : World) (hr : Rd w w.heap.size (some ⟨b, o, none⟩) ps) (hx : Byt ps) (hl : ps.length = 33) (hc : 33 ≤ c) (hs : bk ps 13 ≠ tot ps) : Calls Tryd.prog 9 #[.slice (some ⟨b, o, none⟩) 33 c] w (ReadNo 4 w) := by
  obtain ⟨_, _, hA, hbl, _⟩ := hr (by omega)
  injection hA with hA
  injection hA with e1 e2
  subst e1 e2
  have HR := Lib.hid hr
  have HX := Lib.hid hx
  have HL := Lib.hid hl
  have HS : Hid ((bk ps 13 == tot ps) = false) := Lib.hid (by simpa using hs)
  have HB0 := Lib.hid ((Below.refl w.heap.size w).alloc (Nat.le_refl _) (.cells #[.int .u8 0, .int .u32 0, .int .u32 0, .int .u32 0] 24))
  have HH0 : Hid (Blk (w.alloc (.cells #[.int .u8 0, .int .u32 0, .int .u32 0, .int .u32 0] 24)) w.heap.size 24 [.int .u8 0, .int .u32 0, .int .u32 0, .int .u32 0]) := Lib.hid (heap_alloc_new w _)
  clear hr hx hl hs
  go_enter Tryd.func9, Tryd.ntmps9
  go_wp2_with fail
  refine (hparts_is b o c _ hc).mono ?_
  rintro r w1 ⟨rfl, hb⟩
  have HB1 := Lib.hid (HB0.out.trans (hb.mono HB0.out.size))
  have HH1 := Lib.hid (Blk.up HH0.out hb (lt_of_block HH0.out))
  have hs1 := HB1.out.size
  clear hb HB0 HH0
  go_wp2_with fail
  refine (take1_at (w := w1) rfl (rd_four_at 13 (HR.out.below HB1.out) HX.out (by rw [HL.out]; omega)) (by omega)).mono ?_
  rintro r w2 ⟨rfl, hb, hbl2⟩
  have HK : Hid (KeptN w w1.heap.size (bk ps 13) w2.drew) := Lib.hid ⟨(HB1.out.trans (hb.mono hs1)).drew, HH1.out.up hb.drew (lt_of_block HH1.out), hbl2⟩
  clear hb hbl2
  go_wp2_with fail
  obtain ⟨p, hp⟩ : ∃ p, w1.heap.size = p := ⟨_, rfl⟩
  rw [hp] at HK ⊢
  refine wp_region_in (KeptN w p (bk ps 13)) HK.out (by kernel_rfl) (by kernel_rfl) (fun ne => ?_)
  have c0 := fun n : In (KeptN w p (bk ps 13)) => n.ok.2.2.cell 0 (by simp)
  have totD : ∀ n : In (KeptN w p (bk ps 13)), Calls Tryd.prog 17 #[.slice (some ⟨b, o, none⟩) 13 13, .slice (some ⟨b, o + 17, none⟩) 16 16] n.w (NumB (tot ps) n.w) := fun n =>
    htotal_is (HX.out.take 13) (fun x hx => HX.out x (List.mem_of_mem_drop hx)) (((HR.out.below n.ok.1).take 13).mono n.ok.1.size) (((HR.out.below n.ok.1).drop 17).mono n.ok.1.size) (by simp [HL.out]) (by simp [HL.out]) (Nat.le_refl _) (Nat.le_refl _) (by omega) (by omega) rfl
  have q1 := HS.out
  generalize bk ps 13 = v at *
  generalize tot ps = t at *
  repeat (go_big_quiet_step (first
    | (go_at_call 17; with_reducible exact In.more KeptN.up (totD _))))
  refine wpQuiet_nil ?_
  intro nq
  have HK2 := Lib.hid nq.ok
  clear c0 totD HK HS HR HX HL HB1 HH1
  have d0 := HK2.out.2.1.cell 0 (by simp)
  have d1 := HK2.out.2.1.cell 1 (by simp)
  have d2 := HK2.out.2.1.cell 2 (by simp)
  have d3 := HK2.out.2.1.cell 3 (by simp)
  have f0 := HK2.out.2.1.free 0
  have f1 := HK2.out.2.1.free 1
  have f2 := HK2.out.2.1.free 2
  have f3 := HK2.out.2.1.free 3
  go_wp2_with fail
  refine bodyPost_ret (v := .tuple #[.agg #[.int .u8 0, .int .u32 0, .int .u32 0, .int .u32 0], .slice none 0 0, .iface 31 (.int .i64 4)]) (by simp [results, Tryd.results9, go_sem, d0, d1, d2, d3]) rfl ⟨rfl, ?_⟩
  exact (((HK2.out.1.setCell (p := ⟨w.heap.size, 0, none⟩) (Nat.le_refl _) _).setCell (p := ⟨w.heap.size, 1, none⟩) (Nat.le_refl _) _).setCell (p := ⟨w.heap.size, 2, none⟩) (Nat.le_refl _) _).setCell (p := ⟨w.heap.size, 3, none⟩) (Nat.le_refl _) _
end Go.Proofs.YtnkkifnglkajfaaDoor

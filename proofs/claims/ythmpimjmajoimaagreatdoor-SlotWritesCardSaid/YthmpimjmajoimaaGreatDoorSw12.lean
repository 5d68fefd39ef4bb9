/-
  slices.Delete up to the end, of a row of bytes' rows; the cells that are behind are nil.
  The landed device: pick; a zone cut, its pages sure: the device behind it.
-/
import Derived.Test.YthmpimjmajoimaaGreatDoorSw11
import Derived.Deep.Upon
import Derived.Lib.SliceRun
import Derived.Lib.AppendZeros
namespace Go.Proofs.YthmpimjmajoimaaGreatDoor
open Go.RowKit

theorem cells_kept (g : Nat) : ∀ (vs : List Value) (o : Nat) (a w : World), Kept (fun k => k = g) a w → Kept (fun k => k = g) a (w.setCells g o vs)
  | [], _, _, _, h => h
  | v :: r, o, a, w, h => cells_kept g r (o + 1) a (w.setCell ⟨g, o, none⟩ v) (h.put (.inl rfl) o v)
theorem cells_blk (g : Nat) (T : TypeId) : ∀ (vs : List Value) (o : Nat) (w : World) (cs : List Value), Blk w g T cs → ∃ cs', Blk (w.setCells g o vs) g T cs' ∧ cs'.length = cs.length ∧ cs'.take o = cs.take o
  | [], _, _, cs, h => ⟨cs, h, rfl, rfl⟩
  | v :: r, o, w, cs, h => by
    obtain ⟨cs', h1, h2, h3⟩ := cells_blk g T r (o + 1) (w.setCell ⟨g, o, none⟩ v) (cs.set o v) (h.put o v)
    refine ⟨cs', h1, by rw [h2, List.length_set], ?_⟩
    have e : (cs'.take (o + 1)).take o = ((cs.set o v).take (o + 1)).take o := by rw [h3]
    rw [List.take_take, List.take_take, Nat.min_eq_left (by omega)] at e
    rw [e, List.take_set_of_le (by omega)]
/-- The row's beginning, when the cells behind it are written. -/
theorem OwnG.cut {w : World} {g cap s : Nat} {vs : List Value} (h : OwnG w 0 61 g cap vs) (hs : s ≤ vs.length) (zs : List Value) : OwnG (w.setCells g s zs) 0 61 g cap (vs.take s) := by
  rcases h.2 with ⟨h', _⟩ | ⟨g', c', cur, hv, _, hg, hn, hm, hz, ht⟩
  · simp at h'
  · injection hv with h1 _ h3
    have h1 := Option.some.inj h1
    injection h1 with h1
    subst h1 h3
    obtain ⟨cs', k1, k2, k3⟩ := cells_blk g 61 zs s w cur.toList hg
    refine ⟨by simp, .inr ⟨g, cap, cs'.toArray, rfl, Nat.zero_le _, k1, ?_, hm, ?_, ?_⟩⟩
    · simp only [List.length_take]
      omega
    · rw [List.size_toArray, k2]
      exact hz
    · simp only [List.length_take, Nat.min_eq_left hs, Nat.mul_one] at ht ⊢
      rw [k3, ← ht, List.take_take, Nat.min_eq_left hs]
theorem append_zero (w : World) (ty : TypeId) (A A' : Option Addr) (s cap c' : Nat) (hs : s ≤ cap) : (Builtin.append_ #[60, 60] ty #[.slice A s cap, .slice A' 0 c']).run Tryz.prog w = .ok (.slice A s cap) w := by
  obtain ⟨i0, hi, hz0, hz1, hz2⟩ := info_parts infoRow
  refine run_append_nothing w 60 60 ty 61 i0 Tryz.underlying60 hi A s cap hs (.slice A' 0 c') ⟨.inl ⟨61, Tryz.underlying60⟩, fun w' => by simp [Builtin.lenOf], ?_, ?_, by simp, fun u hu => by cases hu⟩
  · cases A' <;> simp [Builtin.firstCells, loadCells, loadCellsFrom]
  · cases A' <;> simp [Builtin.firstCells, loadCells, loadCellsFrom]
theorem step_run {P : Program} (w : World) {ops : Array Oper} {o : Oper} {a : Act} {K : Act → World → Prop} {Q : Exit → Act → World → Prop} {E : Prop} (hgd : o.guard = none) (s x : Operand) (t tn : TypeId)
    (ho : o.op = .call { callee := .builtin .append, args := #[s, x], argTypes := #[t, tn] }) (vs vx : Value) (hs : a.eval s = vs) (hx : a.eval x = vx)
    (v' : Value) (w' : World) (hr : (Builtin.append_ #[t, tn] o.type #[vs, vx]).run P w = .ok v' w') (h : K (a.put o.dst v') w') : if Region.wanted o (yielded ops a.tmps) = true then Oper.wp P o a w K Q else E := by
  have hw : Region.wanted o (yielded ops a.tmps) = true := by simp [Region.wanted, hgd]
  rw [if_pos hw]
  exact Lib.wp_append_run w s x t tn ho vs vx hs hx v' w' hr h
theorem zero_row (w : World) : (zeroValue 61).run Tryz.prog w = .ok (.slice none 0 0) w := by kernel_rfl
/-- Delete, from s on. -/
def DelIs (A : Option Addr) (m s c : Nat) (vs : List Value) (w : World) (r : Ending) (w' : World) : Prop := r = .returned (.slice A s c) ∧ RowV w' 0 61 (.slice A s c) (vs.take s) ∧ Kept (fun k => (Value.slice A m c).ownBlock = some k) w w'
set_option maxHeartbeats 1000000 in
set_option maxRecDepth 100000 in
theorem ldelete_all {w : World} {A : Option Addr} {m c : Nat} {vs : List Value} (hrow : RowV w 0 61 (.slice A m c) vs) (hl : vs.length = m) : Calls Tryz.prog 98 #[.slice A m c, .int .i64 (m : Int), .int .i64 (m : Int)] w (DelIs A m m c vs w) := by
  have hmc : m ≤ c := by
    obtain ⟨A2, c2, e, h, _⟩ := hrow.out
    injection e with _ _ e
    omega
  have HR : Hid (RowV w 0 61 (.slice A m c) (vs.take m)) := Lib.hid (by rw [List.take_of_length_le (by omega)]; exact hrow)
  clear hrow hl
  go_enter Tryz.func98, Tryz.ntmps98
  go_wp2_with fail
  go_ret
  exact ⟨rfl, HR.out, Kept.refl _ _⟩
set_option maxHeartbeats 1000000 in
set_option maxRecDepth 100000 in
theorem ldelete_full {w : World} {g m s : Nat} {vs : List Value} (hown : OwnG w 0 61 g m vs) (hl : vs.length = m) (hs : s < m) : Calls Tryz.prog 98 #[.slice (some ⟨g, 0, none⟩) m m, .int .i64 (s : Int), .int .i64 (m : Int)] w (DelIs (some ⟨g, 0, none⟩) m s m vs w) := by
  have hOD : OwnG w.drew 0 61 g m vs := hown
  have hcell : ∀ j, j < m → (w.drew.cell? ⟨g, j, none⟩).isSome = true := fun j hj => by rw [hOD.cell j (by omega)]; rfl
  have hfr : ∀ j, w.drew.frozen? ⟨g, j, none⟩ = false := fun j => World.ownsRow.frozenAt hOD j
  have hcl : ∀ ty, (Builtin.clear_ #[60] ty #[.slice (some ⟨g, s, none⟩) (m - s) (m - s)]).run Tryz.prog w.drew = .ok (.tuple #[]) (w.drew.setCells g s (List.replicate (m - s) (.slice none 0 0))) :=
    fun ty => Lib.run_clear_slice w.drew 60 61 ty (.slice none 0 0) Tryz.underlying60 zero_row rfl rfl g s (m - s) (m - s) (by omega) (fun j hj => hcell _ (by omega)) (fun j hj => hfr _)
  have HO : Hid (RowV (w.drew.setCells g s (List.replicate (m - s) (.slice none 0 0))) 0 61 (.slice (some ⟨g, 0, none⟩) s m) (vs.take s)) := Lib.hid (by
    have := hOD.cut (s := s) (by omega) (List.replicate (m - s) (.slice none 0 0))
    unfold OwnG at this
    have e : (vs.take s).length = s := by simp; omega
    unfold RowV
    rw [e] at this ⊢
    exact this)
  have HK : Hid (Kept (fun k => (Value.slice (some ⟨g, 0, none⟩) m m).ownBlock = some k) w (w.drew.setCells g s (List.replicate (m - s) (.slice none 0 0)))) := Lib.hid ((cells_kept g _ s w w.drew (Kept.refl _ _).drew).mono (fun k _ e => by subst e; rfl))
  have hmc : m ≤ m := by have := hown.cap; omega
  have HZ : Hid (∀ (ty : TypeId) (A' : Option Addr) (c' : Nat), (Builtin.append_ #[60, 60] ty #[.slice (some ⟨g, 0, none⟩) s m, .slice A' 0 c']).run Tryz.prog w.drew = .ok (.slice (some ⟨g, 0, none⟩) s m) w.drew) := Lib.hid (fun ty A' c' => append_zero w.drew ty _ A' s m c' (by omega))
  have hq : ((s : Int) == (m : Int)) = false := by simp; omega
  have hsm : s ≤ m := by omega
  have hns : ¬ m = s := by omega
  have hnm : ¬ s = m := by omega
  clear hown hl hOD hcell hfr
  go_enter Tryz.func98, Tryz.ntmps98
  go_wp2_with fail
  refine wp_region_any (by kernel_rfl) ?_
  try (change wpAny _ _ _ _ _ _ _ (World.drew _))
  refine wpAny_take (i := 0) (v := ?_) rfl (by kernel_rfl) (by kernel_rfl) (by kernel_rfl) (fun _ _ _ h => h) (Or.inl ⟨by rfl, ?_⟩) ?_
  rotate_left
  · intro u
    go_simp
    try with_reducible rfl
  simp only [Act.put, List.setIfInBounds_toArray]
  refine wpAny_take (i := 1) (v := ?_) rfl (by kernel_rfl) (by kernel_rfl) (by kernel_rfl) (fun _ _ _ h => h) (Or.inl ⟨by rfl, ?_⟩) ?_
  rotate_left
  · intro u
    go_simp
    try with_reducible rfl
  simp only [Act.put]
  refine wpAny_take (i := 2) (v := ?_) rfl (by kernel_rfl) (by kernel_rfl) (by kernel_rfl) (fun _ _ _ h => h) (Or.inl ⟨by rfl, ?_⟩) ?_
  rotate_left
  · intro u
    go_simp
    try with_reducible rfl
  simp only [Act.put]
  refine wpAny_take (i := 3) (v := ?_) rfl (by kernel_rfl) (by kernel_rfl) (by kernel_rfl) (fun _ _ _ h => h) (Or.inl ⟨by rfl, ?_⟩) ?_
  rotate_left
  · intro u
    go_simp
    try with_reducible rfl
  simp only [Act.put]
  refine wpAny_take (i := 4) (v := ?_) rfl (by kernel_rfl) (by kernel_rfl) (by kernel_rfl) (fun _ _ _ h => h) (Or.inl ⟨by rfl, ?_⟩) ?_
  rotate_left
  · intro u
    go_simp
    try with_reducible rfl
  simp only [Act.put]
  refine wpAny_take (i := 5) (v := ?_) rfl (by kernel_rfl) (by kernel_rfl) (by kernel_rfl) (fun _ _ _ h => h) (Or.inl ⟨by rfl, ?_⟩) ?_
  rotate_left
  · intro u
    go_simp
    try with_reducible rfl
  simp only [Act.put]
  refine wpAny_ready (rs := [6]) (by kernel_rfl) (by simp) ?_
  refine AllReady.cons rfl (fun K hK => ?_) AllReady.nil
  refine step_run w.drew (by rfl) (.tmp 22) (.tmp 25) 60 60 (by rfl) _ _ (by rfl) (by rfl) _ _ (HZ.out _ _ _) ?_
  refine hK _ _ ?_
  clear hK K
  try simp only [Act.put]
  refine wpAny_ready (rs := [7]) (by kernel_rfl) (by simp) ?_
  refine AllReady.cons rfl (fun K hK => ?_) AllReady.nil
  go_simp
  refine hK _ _ ?_
  clear hK K
  refine wpAny_done (by kernel_rfl) ?_ _
  go_wp2_with fail
  go_ret
  exact ⟨rfl, HO.out, HK.out⟩
set_option maxHeartbeats 1000000 in
set_option maxRecDepth 100000 in
theorem ldelete_some {w : World} {g m s cap : Nat} {vs : List Value} (hown : OwnG w 0 61 g cap vs) (hl : vs.length = m) (hs : s < m) (hcm : m < cap) : Calls Tryz.prog 98 #[.slice (some ⟨g, 0, none⟩) m cap, .int .i64 (s : Int), .int .i64 (m : Int)] w (DelIs (some ⟨g, 0, none⟩) m s cap vs w) := by
  have hOD : OwnG w.drew 0 61 g cap vs := hown
  have hcell : ∀ j, j < m → (w.drew.cell? ⟨g, j, none⟩).isSome = true := fun j hj => by rw [hOD.cell j (by omega)]; rfl
  have hfr : ∀ j, w.drew.frozen? ⟨g, j, none⟩ = false := fun j => World.ownsRow.frozenAt hOD j
  have hcl : ∀ ty, (Builtin.clear_ #[60] ty #[.slice (some ⟨g, s, none⟩) (m - s) (cap - s)]).run Tryz.prog w.drew = .ok (.tuple #[]) (w.drew.setCells g s (List.replicate (m - s) (.slice none 0 0))) :=
    fun ty => Lib.run_clear_slice w.drew 60 61 ty (.slice none 0 0) Tryz.underlying60 zero_row rfl rfl g s (m - s) (cap - s) (by omega) (fun j hj => hcell _ (by omega)) (fun j hj => hfr _)
  have HO : Hid (RowV (w.drew.setCells g s (List.replicate (m - s) (.slice none 0 0))) 0 61 (.slice (some ⟨g, 0, none⟩) s cap) (vs.take s)) := Lib.hid (by
    have := hOD.cut (s := s) (by omega) (List.replicate (m - s) (.slice none 0 0))
    unfold OwnG at this
    have e : (vs.take s).length = s := by simp; omega
    unfold RowV
    rw [e] at this ⊢
    exact this)
  have HK : Hid (Kept (fun k => (Value.slice (some ⟨g, 0, none⟩) m cap).ownBlock = some k) w (w.drew.setCells g s (List.replicate (m - s) (.slice none 0 0)))) := Lib.hid ((cells_kept g _ s w w.drew (Kept.refl _ _).drew).mono (fun k _ e => by subst e; rfl))
  have hmc : m ≤ cap := by have := hown.cap; omega
  have HZ : Hid (∀ (ty : TypeId) (A' : Option Addr) (c' : Nat), (Builtin.append_ #[60, 60] ty #[.slice (some ⟨g, 0, none⟩) s cap, .slice A' 0 c']).run Tryz.prog w.drew = .ok (.slice (some ⟨g, 0, none⟩) s cap) w.drew) := Lib.hid (fun ty A' c' => append_zero w.drew ty _ A' s cap c' (by omega))
  have hq : ((s : Int) == (m : Int)) = false := by simp; omega
  have hsm : s ≤ m := by omega
  have hsc : s ≤ cap := by omega
  have hns : ¬ m = s := by omega
  have hnm : ¬ s = m := by omega
  have hns2 : ¬ cap = s := by omega
  have hnm2 : ¬ cap = m := by omega
  clear hown hl hOD hcell hfr
  go_enter Tryz.func98, Tryz.ntmps98
  go_wp2_with fail
  refine wp_region_any (by kernel_rfl) ?_
  try (change wpAny _ _ _ _ _ _ _ (World.drew _))
  refine wpAny_take (i := 0) (v := ?_) rfl (by kernel_rfl) (by kernel_rfl) (by kernel_rfl) (fun _ _ _ h => h) (Or.inl ⟨by rfl, ?_⟩) ?_
  rotate_left
  · intro u
    go_simp
    try with_reducible rfl
  simp only [Act.put, List.setIfInBounds_toArray]
  refine wpAny_take (i := 1) (v := ?_) rfl (by kernel_rfl) (by kernel_rfl) (by kernel_rfl) (fun _ _ _ h => h) (Or.inl ⟨by rfl, ?_⟩) ?_
  rotate_left
  · intro u
    go_simp
    try with_reducible rfl
  simp only [Act.put]
  refine wpAny_take (i := 2) (v := ?_) rfl (by kernel_rfl) (by kernel_rfl) (by kernel_rfl) (fun _ _ _ h => h) (Or.inl ⟨by rfl, ?_⟩) ?_
  rotate_left
  · intro u
    go_simp
    try with_reducible rfl
  simp only [Act.put]
  refine wpAny_take (i := 3) (v := ?_) rfl (by kernel_rfl) (by kernel_rfl) (by kernel_rfl) (fun _ _ _ h => h) (Or.inl ⟨by rfl, ?_⟩) ?_
  rotate_left
  · intro u
    go_simp
    try with_reducible rfl
  simp only [Act.put]
  refine wpAny_take (i := 4) (v := ?_) rfl (by kernel_rfl) (by kernel_rfl) (by kernel_rfl) (fun _ _ _ h => h) (Or.inl ⟨by rfl, ?_⟩) ?_
  rotate_left
  · intro u
    go_simp
    try with_reducible rfl
  simp only [Act.put]
  refine wpAny_take (i := 5) (v := ?_) rfl (by kernel_rfl) (by kernel_rfl) (by kernel_rfl) (fun _ _ _ h => h) (Or.inl ⟨by rfl, ?_⟩) ?_
  rotate_left
  · intro u
    go_simp
    try with_reducible rfl
  simp only [Act.put]
  refine wpAny_ready (rs := [6]) (by kernel_rfl) (by simp) ?_
  refine AllReady.cons rfl (fun K hK => ?_) AllReady.nil
  refine step_run w.drew (by rfl) (.tmp 22) (.tmp 25) 60 60 (by rfl) _ _ (by rfl) (by rfl) _ _ (HZ.out _ _ _) ?_
  refine hK _ _ ?_
  clear hK K
  try simp only [Act.put]
  refine wpAny_ready (rs := [7]) (by kernel_rfl) (by simp) ?_
  refine AllReady.cons rfl (fun K hK => ?_) AllReady.nil
  go_simp
  refine hK _ _ ?_
  clear hK K
  refine wpAny_done (by kernel_rfl) ?_ _
  go_wp2_with fail
  go_ret
  exact ⟨rfl, HO.out, HK.out⟩
theorem ldelete_at {w : World} {A : Option Addr} {m s c : Nat} {vs : List Value} (hrow : RowV w 0 61 (.slice A m c) vs) (hl : vs.length = m) (hs : s ≤ m) : Calls Tryz.prog 98 #[.slice A m c, .int .i64 (s : Int), .int .i64 (m : Int)] w (DelIs A m s c vs w) := by
  by_cases e : s = m
  · subst e
    exact ldelete_all hrow hl
  · obtain ⟨g, cap, hv, hO⟩ := hrow.form (by omega)
    injection hv with h1 _ h3
    subst h1 h3
    have hc := hO.cap
    by_cases hcm : c = m
    · subst hcm
      exact ldelete_full hO hl (by omega)
    · exact ldelete_some hO hl (by omega) (by omega)
end Go.Proofs.YthmpimjmajoimaaGreatDoor
namespace Go.Proofs.YthmpimjmajoimaaGreatDoor
open Go.RowKit

def PickIs (v : Value) (w : World) (r : Ending) (w' : World) : Prop := r = .returned v ∧ w = w'
theorem lpickI_at {w : World} {A : Option Addr} {m c k : Nat} {l : List Int} (hr : RdV w w.heap.size A (kCells l)) (hl : l.length = m) : Calls Tryz.prog 65 #[.slice A m c, .int .i64 (k : Int)] w (PickIs (.int .i64 (l.getD k 0)) w) := by
  have HL := Lib.hid hl
  by_cases hk : m ≤ k
  · have HG : Hid (l.getD k 0 = 0) := Lib.hid (by simp [List.getD_eq_getElem?_getD, List.getElem?_eq_none (show l.length ≤ k by omega)])
    clear hr hl
    go_enter Tryz.func65, Tryz.ntmps65
    go_wp2_with fail
    go_ret
    exact ⟨by rw [HG.out]; rfl, rfl⟩
  · obtain ⟨b, o, rfl, _, hc⟩ := hr (by rw [kCells_len]; omega)
    have c0 := hc k (by rw [kCells_len]; omega)
    have hg : (kCells l)[k]'(by rw [kCells_len]; omega) = .int .i64 (l.getD k 0) := by simp [kCells, List.getD_eq_getElem?_getD, List.getElem?_eq_getElem (show k < l.length by omega)]
    rw [hg] at c0
    have hkm : k < m := by omega
    clear hr hl hc hg
    generalize l.getD k 0 = x at *
    go_enter Tryz.func65, Tryz.ntmps65
    go_wp2_with fail
    go_ret
    exact ⟨rfl, rfl⟩
theorem lpickB_at {w : World} {A : Option Addr} {m c k : Nat} {l : List Bool} (hr : RdV w w.heap.size A (tCells l)) (hl : l.length = m) : Calls Tryz.prog 66 #[.slice A m c, .int .i64 (k : Int)] w (PickIs (.bool (l.getD k false)) w) := by
  have HL := Lib.hid hl
  by_cases hk : m ≤ k
  · have HG : Hid (l.getD k false = false) := Lib.hid (by simp [List.getD_eq_getElem?_getD, List.getElem?_eq_none (show l.length ≤ k by omega)])
    clear hr hl
    go_enter Tryz.func66, Tryz.ntmps66
    go_wp2_with fail
    go_ret
    exact ⟨by rw [HG.out]; rfl, rfl⟩
  · obtain ⟨b, o, rfl, _, hc⟩ := hr (by rw [tCells_len]; omega)
    have c0 := hc k (by rw [tCells_len]; omega)
    have hg : (tCells l)[k]'(by rw [tCells_len]; omega) = .bool (l.getD k false) := by simp [tCells, List.getD_eq_getElem?_getD, List.getElem?_eq_getElem (show k < l.length by omega)]
    rw [hg] at c0
    have hkm : k < m := by omega
    clear hr hl hc hg
    generalize l.getD k false = x at *
    go_enter Tryz.func66, Tryz.ntmps66
    go_wp2_with fail
    go_ret
    exact ⟨rfl, rfl⟩

section
variable {F G : Nat → Prop} {w w' u u' : World} {db zb cap : Nat} {f : Int} {col : Nat → Nat} {zs : List Value} {S S' : DevS}
theorem put_put (S : DevS) (n : Int) (a b : ZoneS) : (S.put n a).put n b = S.put n b := by simp [DevS.put]
theorem put_is (S : DevS) (n k : Int) (a : ZoneS) : (S.put n a).is k = S.is k := by simp [DevS.put, DevS.is]
theorem put_zone_at {n : Nat} (h : S.is (n : Int) = true) (a : ZoneS) : (S.put (n : Int) a).zone (n : Int) = a := by
  have hlt := is_lt h
  simp [DevS.put, DevS.zone, List.getD_eq_getElem?_getD, hlt]
/-- The device behind a zone that is cut. -/
theorem LD.cut {i s m c : Nat} {A : Option Addr} (h : LD F w db zb cap f col zs S) (hi : S.is (i : Int) = true) {vs : List Value} (hz2 : zs[i * 3 + 2]? = some (.slice A m c))
    (ho : ∀ j, (Value.slice A m c).ownBlock = some j → (F j ∧ j ≠ db ∧ j ≠ zb) ∧ col j = i + 1) (hl : vs.length = (S.zone (i : Int)).pages.length) (hxs : ∀ j (h : j < vs.length) (h2 : j < (S.zone (i : Int)).pages.length), BytF (fun k => (F k ∧ k ≠ db ∧ k ≠ zb) ∧ col k = 0) w vs[j] (S.zone (i : Int)).pages[j])
    (hs : s ≤ (S.zone (i : Int)).pages.length) (hsu : (S.zone (i : Int)).sure ≤ s) (hr : RowV u 0 61 (.slice A s c) (vs.take s)) (hk : Kept (fun k => (Value.slice A m c).ownBlock = some k) w u) :
    LD (grow F w (u.setCell ⟨zb, i * 3 + 2, none⟩ (.slice A s c))) (u.setCell ⟨zb, i * 3 + 2, none⟩ (.slice A s c)) db zb cap f col (zs.set (i * 3 + 2) (.slice A s c)) (S.put (i : Int) { S.zone (i : Int) with pages := (S.zone (i : Int)).pages.take s }) ∧
    Kept F w (u.setCell ⟨zb, i * 3 + 2, none⟩ (.slice A s c)) := by
  obtain ⟨_, _, _, _, _, hlz, hlt, z0, z1, _⟩ := h.zone i hi
  have hk1 : Kept (fun k => k = zb ∨ (F k ∧ k ≠ db ∧ k ≠ zb ∧ col k = i + 1)) w u := hk.mono (fun k _ e => .inr ⟨(ho k e).1.1, (ho k e).1.2.1, (ho k e).1.2.2, (ho k e).2⟩)
  have hk2 := hk1.put (g := zb) (.inl (.inl rfl)) (i * 3 + 2) (.slice A s c)
  have hbz : Blk u zb 119 zs := hk.blk h.blk (fun e => (ho zb e).1.2.2 rfl)
  have hz := set_one (zs := zs) (k := i * 3 + 2) (.slice A s c) hlz
  have hwf : (S.put (i : Int) { S.zone (i : Int) with pages := (S.zone (i : Int)).pages.take s }).WF := by
    have hw := h.wf.pages _ (DevS.zone_mem hi)
    refine DevS.put_wf h.wf _ ⟨?_, ?_, fun b hb => hw.2.2 b (List.mem_of_mem_take hb)⟩
    · simp only [List.length_take]
      have := hw.1
      omega
    · simp only [List.length_take]
      omega
  refine ⟨h.setZone (col' := col) (i := i) (z := { S.zone (i : Int) with pages := (S.zone (i : Int)).pages.take s }) (v := .slice A s c) hlt (hbz.put _ _) hk2 hz.1 (fun k _ _ h2 => hz.2.1 k h2) (by rw [hz.2.1 _ (by omega)]; exact z0) (by rw [hz.2.1 _ (by omega)]; exact z1) hz.2.2 (fun _ _ => rfl) ?_ hwf, hk2.mono (fun k _ e => e.elim (fun e => e ▸ h.fz) (fun e => e.1))⟩
  have hkz := kept_put u zb (i * 3 + 2) (.slice A s c)
  refine ⟨vs.take s, hr.keep hkz (fun g hg => ?_), fun g hg => ?_, by simp [hl], fun j h1 h2 => ?_⟩
  · have hg' : (Value.slice A m c).ownBlock = some g := by cases A <;> exact hg
    exact (ho g hg').1.2.2
  · have hg' : (Value.slice A m c).ownBlock = some g := by cases A <;> exact hg
    exact ⟨⟨.inl (ho g hg').1.1, (ho g hg').1.2⟩, (ho g hg').2⟩
  · simp only [List.length_take] at h1 h2
    rw [List.getElem_take, List.getElem_take]
    refine (((hxs j (by omega) (by omega)).keep hk (fun k hk3 e => ?_)).keep hkz (fun k hk3 => hk3.1.2.2)).mono (fun k hk3 => ⟨⟨.inl hk3.1.1, hk3.1.2⟩, hk3.2⟩)
    have := (ho k e).2
    have := hk3.2
    omega
/-- The device behind a zone's new count of sure pages. -/
theorem LD.sured {i n : Nat} (h : LD F w db zb cap f col zs S) (hi : S.is (i : Int) = true) (hn : n ≤ (S.zone (i : Int)).pages.length) :
    LD (grow F w (w.setCell ⟨zb, i * 3, none⟩ (.int .i64 (n : Int)))) (w.setCell ⟨zb, i * 3, none⟩ (.int .i64 (n : Int))) db zb cap f col (zs.set (i * 3) (.int .i64 (n : Int))) (S.put (i : Int) { S.zone (i : Int) with sure := n }) ∧
    Kept F w (w.setCell ⟨zb, i * 3, none⟩ (.int .i64 (n : Int))) := by
  obtain ⟨v, _, _, _, hpg, hlz, hlt, z0, z1, z2⟩ := h.zone i hi
  have hk := kept_put w zb (i * 3) (.int .i64 (n : Int))
  have hz := set_one (zs := zs) (k := i * 3) (.int .i64 (n : Int)) (by omega)
  have hw := h.wf.pages _ (DevS.zone_mem hi)
  refine ⟨h.setZone (col' := col) (i := i) (z := { S.zone (i : Int) with sure := n }) (v := v) hlt (h.blk.put _ _) (hk.mono (fun k _ e => .inl e)) hz.1 (fun k h0 _ _ => hz.2.1 k h0) hz.2.2 (by rw [hz.2.1 _ (by omega)]; exact z1) (by rw [hz.2.1 _ (by omega)]; exact z2) (fun _ _ => rfl) ?_ (DevS.put_wf h.wf _ ⟨hw.1, hn, hw.2.2⟩), hk.mono (fun k _ e => e ▸ h.fz)⟩
  exact (hpg.keep hk (fun k hk2 _ => hk2.2.2)).mono (fun k hk2 _ => ⟨⟨.inl hk2.1, hk2.2⟩, rfl⟩)
end
end Go.Proofs.YthmpimjmajoimaaGreatDoor

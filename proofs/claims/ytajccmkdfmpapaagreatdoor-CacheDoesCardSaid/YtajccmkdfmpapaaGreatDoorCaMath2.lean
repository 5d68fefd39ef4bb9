/-
  A cache as mathematics: slots that are free, a new entry's slot.
-/
import Derived.Test.YtajccmkdfmpapaaGreatDoorCaMath
namespace Go.Proofs.YtajccmkdfmpapaaGreatDoor

theorem pigeon : ∀ (i : Nat) (l : List Nat), l.Nodup → (∀ t, t < i → t ∈ l) → i ≤ l.length
  | 0, _, _, _ => Nat.zero_le _
  | i + 1, l, hn, h => by
    have h1 := but_len hn (h i (by omega))
    have h2 := pigeon i (butL l i) (but_nd hn i) (fun t ht => mem_but.2 ⟨h t (by omega), by omega⟩)
    omega
namespace CaS
variable {S : CaS}
theorem b_nd (hw : S.WF) : (S.E.map CE.b).Nodup := by
  have h1 : (S.E.map CE.b).Pairwise (· < ·) := List.pairwise_map.2 hw.asc
  exact h1.imp (fun h => by omega)
theorem rk_len (hw : S.WF) : (S.T ++ S.K).length = S.E.length := by
  have hp : (S.T ++ S.K).Perm (S.E.map CE.b) := (List.perm_ext_iff_of_nodup hw.nd (b_nd hw)).2 (fun x => by rw [hw.mem x]; simp)
  simpa using hp.length_eq
/-- Slots of one's own for all blocks. -/
def Inj (S : CaS) (σ : Nat → Nat) : Prop := ∀ x ∈ S.E, ∀ y ∈ S.E, σ x.b = σ y.b → x.b = y.b
theorem inj_rk {σ : Nat → Nat} (hw : S.WF) (hi : S.Inj σ) {x : Nat} (hx : ∃ e ∈ S.E, e.b = x) : ∀ y ∈ S.rk.T ++ S.rk.K, σ y = σ x → y = x := by
  intro y hy e
  obtain ⟨e1, h1, rfl⟩ := (hw.mem y).1 hy
  obtain ⟨e2, h2, rfl⟩ := hx
  exact hi e1 h1 e2 h2 e
theorem free_lt {σ : Nat → Nat} (hw : S.WF) (hi : S.Inj σ) (hlt : S.E.length < S.n) {i : Nat} (h : ∀ t, t < i → (S.rk.map σ).has (t : Int) = true) : i < S.n := by
  have hnd : ((S.rk.map σ).T ++ (S.rk.map σ).K).Nodup := by
    show (S.T.map σ ++ S.K.map σ).Nodup
    rw [← List.map_append]
    refine List.pairwise_map.2 (List.Pairwise.imp_of_mem ?_ hw.nd)
    intro x y hx hy hne e
    obtain ⟨e2, h2, rfl⟩ := (hw.mem y).1 hy
    exact hne (inj_rk hw hi ⟨e2, h2, rfl⟩ x hx e)
  have h1 := pigeon i _ hnd (fun t ht => by
    obtain ⟨s, e, hs⟩ := RkS.has_some (h t ht)
    have : t = s := by omega
    rw [this]
    exact hs)
  have h2 : ((S.rk.map σ).T ++ (S.rk.map σ).K).length = S.E.length := by
    rw [← rk_len hw]
    simp [RkS.map, rk]
  omega
/-- A new entry's ranking. -/
theorem map_new {σ : Nat → Nat} (hw : S.WF) {b s : Nat} (hb : ∀ e ∈ S.E, e.b ≠ b) (h0 : s < S.n) (hs : (S.rk.map σ).has (s : Int) = false) : (S.rk.map σ).insS (s : Int) = (RkS.mk (b :: S.T) S.K S.n).map (upd σ b s) := by
  have hm : ∀ l : List Nat, (∀ y ∈ l, y ∈ S.T ++ S.K) → l.map (upd σ b s) = l.map σ := fun l hl => List.map_congr_left fun y hy => upd_ne (fun e => by
    subst e
    obtain ⟨e, he, e2⟩ := (hw.mem y).1 (hl y hy)
    exact hb e he e2)
  have hi : (S.rk.map σ).insB (s : Int) = true := by
    unfold RkS.insB
    rw [hs]
    simp
    exact h0
  unfold RkS.insS
  rw [if_pos hi]
  unfold RkS.map
  simp only [Int.toNat_natCast, List.map_cons, upd_same]
  rw [hm S.T (fun y hy => by simp [hy]), hm S.K (fun y hy => by simp [hy])]
  rfl
theorem inj_new {σ : Nat → Nat} (hw : S.WF) (hi : S.Inj σ) {b s a : Nat} {d : Bool} (hb : ∀ e ∈ S.E, e.b ≠ b) (hs : (S.rk.map σ).has (s : Int) = false) : ∀ x ∈ insE S.E ⟨b, a, d⟩, ∀ y ∈ insE S.E ⟨b, a, d⟩, upd σ b s x.b = upd σ b s y.b → x.b = y.b := by
  have hno : ∀ e ∈ S.E, σ e.b ≠ s := fun e he e2 => by
    have h1 : e.b ∈ S.T ++ S.K := (hw.mem e.b).2 ⟨e, he, rfl⟩
    have h2 : s ∈ (S.rk.map σ).T ++ (S.rk.map σ).K := by
      show s ∈ S.T.map σ ++ S.K.map σ
      rw [← List.map_append, ← e2]
      exact List.mem_map_of_mem h1
    rw [RkS.has_of_mem h2] at hs
    cases hs
  intro x hx y hy e
  rcases insE_mem.1 hx with rfl | hx
  · rcases insE_mem.1 hy with rfl | hy
    · rfl
    · rw [upd_same, upd_ne (hb y hy)] at e
      exact absurd e.symm (hno y hy)
  · rcases insE_mem.1 hy with rfl | hy
    · rw [upd_same, upd_ne (hb x hx)] at e
      exact absurd e (hno x hx)
    · rw [upd_ne (hb x hx), upd_ne (hb y hy)] at e
      exact hi x hx y hy e
end CaS
end Go.Proofs.YtajccmkdfmpapaaGreatDoor

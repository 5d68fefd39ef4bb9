/-
  Plain mathematics of slots: the newest one where nothing crashed; how many calls a write is; the checkpoints of awake; slots apart.
-/
import Derived.Test.YthmpimjmajoimaaGreatDoorSw22
namespace Go.Proofs.YthmpimjmajoimaaGreatDoor
namespace DevS
theorem mayS_done (S : DevS) (e : Int) : (S.mayS e).done ≤ S.done + 1 := by
  unfold mayS
  split
  · omega
  · split
    · omega
    · split
      · exact Nat.le_succ _
      · exact Nat.le_refl _
theorem app_done (S : DevS) (zi : Int) (b : List Int) : (S.app zi b).done ≤ S.done + 1 := by
  unfold app
  split
  · exact mayS_done S _
  · exact mayS_done S _
theorem reset_done (S : DevS) (zi : Int) : (S.reset zi).done ≤ S.done + 1 := by
  unfold reset
  split
  · exact mayS_done S _
  · exact mayS_done S _
theorem flush_done (S : DevS) : S.flush.done ≤ S.done + 1 := by
  unfold flush
  split
  · exact mayS_done S 0
  · exact mayS_done S 0
theorem appL_done (zi : Int) : ∀ (l : List (List Int)) (S : DevS), (S.appL zi l).1.done ≤ S.done + l.length
  | [], S => by simp [appL]
  | b :: r, S => by
    unfold appL
    have h1 := app_done S zi b
    split
    · have h2 := appL_done zi r (S.app zi b)
      rw [List.length_cons]
      omega
    · rw [List.length_cons]
      show (S.app zi b).done ≤ _
      omega
theorem wr_done (S : DevS) (c : ChkS) : (S.wr c).1.done ≤ S.done + 20 := by
  unfold wr
  split
  · exact Nat.le_add_right _ _
  · rename_i ha
    have hr : c.right = true := by
      unfold wrArg at ha
      cases h : c.right with
      | true => rfl
      | false => rw [h] at ha; simp at ha
    have h1 := reset_done S (whereN S.zones.length c.nu)
    have h2 := appL_done (whereN S.zones.length c.nu) c.pages (S.reset (whereN S.zones.length c.nu))
    have h3 := ChkS.blocks_le hr
    have h4 := (ChkS.right_bd hr).2
    have h5 := ChkS.pages_len (c := c)
    split
    · show (S.reset _).done ≤ _
      omega
    · split
      · omega
      · have h6 := flush_done ((S.reset (whereN S.zones.length c.nu)).appL (whereN S.zones.length c.nu) c.pages).1
        show ((S.reset _).appL _ c.pages).1.flush.done ≤ _
        omega
end DevS
theorem Turns.now {S : DevS} {n P i : Nat} {last : ChkS} (h : Turns S n P i last) (hn : 2 ≤ n) (hi : 0 < i) : S.newE = 0 ∧ S.newC = last := by
  have hlen := h.len
  have hp := h.p
  subst hlen hp
  obtain ⟨g1, g2, g3, g4⟩ := h.then_ hi
  rcases g4 with ⟨a1, a2⟩ | ⟨c0, a1, a2, a3, a4⟩
  · exact newest_is h.g hn g1 g2 (.inl (slot_bad h.g hn (by rw [a1]; exact hold_nil)))
  · exact newest_is h.g hn g1 g2 (.inr ⟨c0, a1, (where_next (n := S.zones.length) a2).2.1, a3, a2⟩)
/-- The checkpoints of awake. -/
def awC (nu : Int) : ChkS := ⟨nu, 2, 3, 11, 4, 6, [4, 0]⟩
theorem awC_fit {nu : Int} (h0 : 0 ≤ nu) (h1 : nu ≤ 4294967295) : Fit 11 4 (awC nu) := by
  refine ⟨by show rightC 11 4 6 2 = true; decide, ?_, rfl, rfl⟩
  intro x hx
  simp only [awC, List.mem_cons, List.not_mem_nil, or_false] at hx
  unfold Word4
  rcases hx with rfl | rfl | rfl | rfl | rfl <;> omega
def awS1 : DevS := ((DevS.new 11 4).wr (awC 4)).1
def awS2 : DevS := (awS1.wr (awC 5)).1
theorem aw_new : (DevS.new 11 4).newE = 10 ∧ (DevS.new 11 4).newC = ChkS.zero := ⟨by decide, by
  have : (DevS.new 11 4).newE = 10 := by decide
  unfold DevS.newC
  rw [if_pos (by rw [this]; decide)]⟩
theorem aw_one : ((DevS.new 11 4).wr (awC 4)).2 = 0 ∧ Turns awS1 11 4 1 (awC 4) := by
  have hf := awC_fit (nu := 4) (by decide) (by decide)
  have he : ((DevS.new 11 4).wr (awC 4)).2 = 0 := by
    obtain ⟨_, _, h⟩ := DevS.wr_to (S := DevS.new 11 4) rfl hf.r (by simp [DevS.new]; rfl) rfl
    rcases h with ⟨h, _⟩ | ⟨_, _, _, _, h⟩
    · exact h
    · exact absurd (by simp [DevS.new]) h
  exact ⟨he, (Turns.new (last := awC 4)).write (by decide) hf (fun h => by omega) he⟩
theorem aw_left : awS1.left < 0 := by
  have hf := awC_fit (nu := 4) (by decide) (by decide)
  obtain ⟨_, _, h⟩ := DevS.wr_to (S := DevS.new 11 4) rfl hf.r (by simp [DevS.new]; rfl) rfl
  have h0 : (DevS.new 11 4).left < 0 := by simp [DevS.new]
  rcases h with ⟨_, _, _, _, h⟩ | ⟨_, _, _, _, h⟩
  · show ((DevS.new 11 4).wr (awC 4)).1.left < 0
    rw [h h0]
    exact h0
  · exact absurd h0 h
theorem aw_two : (awS1.wr (awC 5)).2 = 0 ∧ Turns awS2 11 4 2 (awC 5) := by
  have hf := awC_fit (nu := 5) (by decide) (by decide)
  have ht := aw_one.2
  have he : (awS1.wr (awC 5)).2 = 0 := by
    obtain ⟨_, _, h⟩ := DevS.wr_to (S := awS1) ht.g hf.r (by rw [ht.len]; rfl) (by rw [ht.p]; rfl)
    rcases h with ⟨h, _⟩ | ⟨_, _, _, _, h⟩
    · exact h
    · exact absurd aw_left h
  exact ⟨he, ht.write (by decide) hf (fun _ => by decide) he⟩
theorem aw_read : awS1.slE 9 = 0 ∧ awS1.slC 9 = awC 4 := by
  have ht := aw_one.2
  have hf := awC_fit (nu := 4) (by decide) (by decide)
  obtain ⟨_, g2, _⟩ := ht.then_ (by decide)
  have := slot_holds (S := awS1) (c := awC 4) ht.g (by rw [ht.len]; decide) (by rw [ht.len, ht.p]; exact hf) (by rw [ht.len]; exact g2)
  rw [ht.len] at this
  exact this
theorem aw_no : awS2.slE 8 = 1 ∧ awS2.slC 8 = ChkS.zero := by
  have ht := aw_two.2
  have h : awS2.slE 8 = 1 := by
    unfold DevS.slE DevS.slotB
    rw [ht.len, ht.g]
    decide
  refine ⟨h, ?_⟩
  unfold DevS.slC
  rw [h, if_neg (by decide)]
/-- Slots apart: what was written last of either kind; the log is empty. -/
structure Apart (S : DevS) (n P : Nat) (c : Nat → Option ChkS) : Prop where
  len : S.zones.length = n
  p : S.P = P
  g : S.gone = false
  left : S.left < 0
  none_ : ∀ k, k < 2 → c k = none → (S.zone ((n : Int) - 2 + k)).pages = [] ∧ (S.zone ((n : Int) - 2 + k)).sure = 0
  some_ : ∀ k x, k < 2 → c k = some x → Fit n P x ∧ x.nu % 2 = (k : Int) ∧ (S.zone ((n : Int) - 2 + k)).pages = x.pages
  log : ∀ j : Nat, j + 2 < n → (S.zone (j : Int)).pages = []
theorem Apart.new {n P : Nat} : Apart (DevS.new n P) n P (fun _ => none) := by
  have hz : ∀ j, (DevS.new n P).zone j = ZoneS.empty := fun j => by
    unfold DevS.zone DevS.new
    simp only [List.getD_eq_getElem?_getD, List.getElem?_replicate]
    split <;> rfl
  exact ⟨by simp [DevS.new], rfl, rfl, by simp [DevS.new], fun k _ _ => by rw [hz]; exact ⟨rfl, rfl⟩, fun k x _ h => (by cases h), fun j _ => by rw [hz]; rfl⟩
theorem Apart.write {S : DevS} {n P : Nat} {c : Nat → Option ChkS} {x : ChkS} (h : Apart S n P c) (hn : 2 ≤ n) (hx : Fit n P x) : (S.wr x).2 = 0 ∧ Apart (S.wr x).1 n P (fun k => if (k : Int) = x.nu % 2 then some x else c k) := by
  have hlen := h.len
  have hp := h.p
  subst hlen hp
  obtain ⟨w1, w2, w3⟩ := DevS.wr_to h.g hx.r hx.z hx.p
  rcases w3 with ⟨f1, f2, f3, f4, f5⟩ | ⟨_, _, _, _, f⟩
  · refine ⟨f1, w1, w2, f2, by rw [f5 h.left]; exact h.left, fun k hk e => ?_, fun k y hk e => ?_, fun j hj => ?_⟩
    · have e : (if (k : Int) = x.nu % 2 then some x else c k) = none := e
      by_cases hkx : (k : Int) = x.nu % 2
      · rw [if_pos hkx] at e
        cases e
      · rw [if_neg hkx] at e
        have hi : S.is ((S.zones.length : Int) - 2 + k) = true := DevS.is_iff.2 (by omega)
        rw [f4 _ hi (by unfold whereN; omega)]
        have := h.none_ k hk e
        exact ⟨this.1, by show (S.zone _).pages.length = 0; rw [this.1]; rfl⟩
    · have e : (if (k : Int) = x.nu % 2 then some x else c k) = some y := e
      by_cases hkx : (k : Int) = x.nu % 2
      · rw [if_pos hkx] at e
        obtain rfl := Option.some.inj e
        refine ⟨hx, hkx.symm, ?_⟩
        have : (S.zones.length : Int) - 2 + k = whereN S.zones.length x.nu := by unfold whereN; omega
        rw [this, f3]
      · rw [if_neg hkx] at e
        have hi : S.is ((S.zones.length : Int) - 2 + k) = true := DevS.is_iff.2 (by omega)
        obtain ⟨a, b, d⟩ := h.some_ k y hk e
        refine ⟨a, b, ?_⟩
        rw [f4 _ hi (by unfold whereN; omega)]
        exact d
    · have hi : S.is (j : Int) = true := DevS.is_iff.2 (by omega)
      rw [f4 _ hi (by unfold whereN; omega)]
      exact h.log j hj
  · exact absurd h.left f
theorem Apart.read {S : DevS} {n P : Nat} {c : Nat → Option ChkS} (h : Apart S n P c) (hn : 2 ≤ n) {k : Nat} (hk : k < 2) : (c k = none → S.slE ((n : Int) - 2 + k) ≠ 0) ∧ ∀ x, c k = some x → S.slE ((n : Int) - 2 + k) = 0 ∧ S.slC ((n : Int) - 2 + k) = x := by
  have hlen := h.len
  have hp := h.p
  subst hlen hp
  refine ⟨fun e => slot_bad h.g hn (by rw [(h.none_ k hk e).1]; exact hold_nil), fun x e => ?_⟩
  obtain ⟨a, b, d⟩ := h.some_ k x hk e
  have hw : (S.zones.length : Int) - 2 + k = whereN S.zones.length x.nu := by unfold whereN; omega
  rw [hw] at d ⊢
  exact slot_holds h.g hn a d
end Go.Proofs.YthmpimjmajoimaaGreatDoor

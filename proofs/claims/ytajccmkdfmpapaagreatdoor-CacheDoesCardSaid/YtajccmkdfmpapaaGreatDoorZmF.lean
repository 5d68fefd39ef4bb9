/-
  A region that draws its order, in two parts: where each operation from number k on waits for each one ahead of k, the first part may be walked as a region of its own, and then the rest. For whatever program.
  The document's ranking in memory: Touch.
-/
import Derived.Deep.RegionHeldLaw
import Derived.Test.YtajccmkdfmpapaaGreatDoorZmE
import Derived.Deep.DeepCutAuto
namespace Go.Proofs.YtajccmkdfmpapaaGreatDoor

section
variable {P : Program} {ops ops1 : Array Oper} {Q : Exit → Act → World → Prop} {md : Region.Mode}

/-- What the first part ends in. -/
def upto (R : Act → World → Prop) (Q : Exit → Act → World → Prop) : Exit → Act → World → Prop
  | .normal, a, w => R a w
  | .exit i, a, w => Q (.exit i) a w
  | .goto l, a, w => Q (.goto l) a w
  | .ret, a, w => Q .ret a w
  | .panic c, a, w => Q (.panic c) a w
  | .outgrown, a, w => Q .outgrown a w

theorem wp_upto {o : Oper} {a : Act} {w : World} {K R : Act → World → Prop} (h : o.wp P a w K (upto R Q)) : o.wp P a w K Q := by
  unfold Oper.wp at *
  generalize (execOp a.eval o).run P w = r at *
  cases r with
  | ok n w' =>
    cases n <;> simp only [Oper.upon] at h ⊢ <;>
      first
        | exact h
        | exact Calls.mono h (fun e w'' he => by cases e <;> exact he)
  | halt x w' => cases x <;> simp only [Oper.upon] at h ⊢ <;> exact h

/-- Each operation from k on waits for each one ahead of k; the ones ahead of k wait for earlier ones alone, and their guards are ahead of k. -/
def inParts (md : Region.Mode) (ops : Array Oper) (k : Nat) : Bool :=
  (List.range ops.size).all fun j => match ops[j]? with
    | none => true
    | some o => bif Nat.blt j k then (o.after.all fun e => Nat.blt e.on j) && (match o.guard with | none => true | some (g, _) => Nat.blt g k)
      else (List.range k).all fun i => o.after.any fun e => Region.binds md e && Nat.beq e.on i

theorem inParts_low {k j : Nat} {o : Oper} (h : inParts md ops k = true) (ho : ops[j]? = some o) (hj : j < k) : (∀ e ∈ o.after, e.on < j) ∧ ∀ g b, o.guard = some (g, b) → g < k := by
  unfold inParts at h
  rw [List.all_eq_true] at h
  have h1 := h j (List.mem_range.2 (Array.getElem?_eq_some_iff.1 ho).1)
  have e1 : Nat.blt j k = true := by simpa using hj
  simp only [ho, e1, cond_true, Bool.and_eq_true, Array.all_eq_true_iff_forall_mem] at h1
  refine ⟨fun e he => by simpa using h1.1 e he, fun g b hg => ?_⟩
  have h2 := h1.2
  rw [hg] at h2
  simpa using h2
theorem inParts_high {k j i : Nat} {o : Oper} (h : inParts md ops k = true) (ho : ops[j]? = some o) (hj : k ≤ j) (hi : i < k) : ∃ e ∈ o.after, Region.binds md e = true ∧ e.on = i := by
  unfold inParts at h
  rw [List.all_eq_true] at h
  have h1 := h j (List.mem_range.2 (Array.getElem?_eq_some_iff.1 ho).1)
  have e1 : Nat.blt j k = false := by rw [← Bool.not_eq_true, Nat.blt_eq]; omega
  simp only [ho, e1, cond_false, List.all_eq_true] at h1
  obtain ⟨e, he, hb⟩ := Array.any_eq_true'.1 (h1 i (List.mem_range.2 hi))
  simp only [Bool.and_eq_true] at hb
  exact ⟨e, he, hb.1, by simpa using hb.2⟩

/-- More room does no harm. -/
theorem wpAny_more : ∀ (n : Nat) (listed : Array Bool) (a : Act) (w : World), wpAny P md ops Q n listed a w → wpAny P md ops Q (n + 1) listed a w
  | 0, _, _, _, h => ⟨fun _ => h.2, fun i hi => by rw [h.1] at hi; cases hi⟩
  | n + 1, _, _, _, h => ⟨h.1, fun i hi => wpOp_mono (fun a' w' h' => wpAny_more n _ a' w' h') (h.2 i hi)⟩
theorem wpAny_more' {n m : Nat} {listed : Array Bool} {a : Act} {w : World} (h : wpAny P md ops Q m listed a w) : wpAny P md ops Q (n + m) listed a w := by
  induction n with
  | zero => rw [Nat.zero_add]; exact h
  | succ n ih => rw [Nat.succ_add]; exact wpAny_more _ _ _ _ ih

/-- One operation of the first part. -/
theorem wpOp_part {k i : Nat} {K K' R : Act → World → Prop} {a : Act} {w : World} (hp : inParts md ops k = true) (hops : ∀ j, j < k → ops1[j]? = ops[j]?) (hi : i < k) (hK : ∀ a w, K a w → K' a w) (h : wpOp P ops1 (upto R Q) i K a w) : wpOp P ops Q i K' a w := by
  have h0 : wpOp P ops Q i K a w := by
    unfold wpOp at *
    rw [hops i hi] at h
    cases ho : ops[i]? with
    | none => rw [ho] at h; exact h
    | some o =>
      rw [ho] at h
      have hw : Region.wanted o (yielded ops1 a.tmps) = Region.wanted o (yielded ops a.tmps) := by
        unfold Region.wanted
        cases hg : o.guard with
        | none => rfl
        | some gb =>
          obtain ⟨g, b⟩ := gb
          have hgk := (inParts_low hp ho hi).2 g b hg
          simp only [yielded, hops g hgk]
      simp only [hw] at h
      split at h
      · rename_i h1
        simp only [h1, if_true]
        exact h.imp wp_upto id
      · rename_i h1
        simp only [h1]
        exact h
  exact wpOp_mono hK h0

structure Halves (ops : Array Oper) (k : Nat) (listed listed1 : Array Bool) : Prop where
  size : listed.size = ops.size
  size1 : listed1.size = k
  same : ∀ j, j < k → listed1[j]? = listed[j]?
  late : ∀ j, k ≤ j → j < ops.size → listed[j]? = some false

theorem Halves.put {k i : Nat} {listed listed1 : Array Bool} (h : Halves ops k listed listed1) (hi : i < k) : Halves ops k (listed.setIfInBounds i true) (listed1.setIfInBounds i true) := by
  refine ⟨by simp [h.size], by simp [h.size1], fun j hj => ?_, fun j hj hjs => ?_⟩
  · by_cases e : i = j
    · subst e
      have h1 := h.same i hj
      by_cases hs : i < listed.size
      · have hs1 : i < listed1.size := by rw [h.size1]; exact hj
        simp [hs, hs1]
      · have hs1 : i < listed1.size := by rw [h.size1]; exact hj
        rw [Array.getElem?_eq_getElem hs1, Array.getElem?_eq_none (by omega)] at h1
        cases h1
    · rw [Array.getElem?_setIfInBounds_ne e, Array.getElem?_setIfInBounds_ne e]
      exact h.same j hj
  · rw [Array.getElem?_setIfInBounds_ne (by omega)]
    exact h.late j hj hjs

theorem getD_of {xs : Array Bool} {j : Nat} {b d : Bool} (h : xs[j]? = some b) : xs.getD j d = b := by
  simp [h]

theorem Halves.ready {k i0 : Nat} {listed listed1 : Array Bool} (h : Halves ops k listed listed1) (hp : inParts md ops k = true) (hops : ∀ j, j < k → ops1[j]? = ops[j]?) (_hs1 : ops1.size = k) (hi0 : i0 < k) (hu : listed[i0]? = some false) (j : Nat) : j ∈ Region.ready md ops listed ↔ j ∈ Region.ready md ops1 listed1 ∧ j < k := by
  rw [mem_ready, mem_ready]
  have key : ∀ j, j < k → ∀ d, listed1.getD j d = listed.getD j d := fun j hj d => by
    have := h.same j hj
    simp [this]
  constructor
  · rintro ⟨h1, o, ho, h2⟩
    have hjk : j < k := by
      rcases Nat.lt_or_ge j k with hj | hj
      · exact hj
      · obtain ⟨e, he, hb, hon⟩ := inParts_high hp ho hj hi0
        have := h2 e he hb
        rw [hon, getD_of hu] at this
        cases this
    exact ⟨⟨by rw [key j hjk]; exact h1, o, by rw [hops j hjk]; exact ho, fun e he hb => by rw [key e.on (by have := (inParts_low hp ho hjk).1 e he; omega)]; exact h2 e he hb⟩, hjk⟩
  · rintro ⟨⟨h1, o, ho, h2⟩, hjk⟩
    rw [hops j hjk] at ho
    exact ⟨by rw [← key j hjk]; exact h1, o, ho, fun e he hb => by rw [← key e.on (by have := (inParts_low hp ho hjk).1 e he; omega)]; exact h2 e he hb⟩

theorem Halves.some_ready {k : Nat} {listed listed1 : Array Bool} (h : Halves ops k listed listed1) (hp : inParts md ops k = true) (hops : ∀ j, j < k → ops1[j]? = ops[j]?) (hs1 : ops1.size = k) : ∀ (n i0 : Nat), i0 ≤ n → i0 < k → listed[i0]? = some false → ∃ j, j ∈ Region.ready md ops1 listed1 := by
  intro n
  induction n with
  | zero =>
    intro i0 hn hk hu
    obtain rfl : i0 = 0 := by omega
    have ho : ops1[0]? = some ops1[0] := Array.getElem?_eq_getElem (by omega)
    refine ⟨0, mem_ready.2 ⟨getD_of (by rw [h.same 0 hk]; exact hu), _, ho, fun e he _ => ?_⟩⟩
    have := (inParts_low hp (by rw [← hops 0 hk]; exact ho) hk).1 e he
    omega
  | succ n ih =>
    intro i0 hn hk hu
    by_cases hex : ∃ i, i < i0 ∧ listed[i]? = some false
    · obtain ⟨i, hi, hiu⟩ := hex
      exact ih i (by omega) (by omega) hiu
    · have ho : ops1[i0]? = some ops1[i0] := Array.getElem?_eq_getElem (by omega)
      refine ⟨i0, mem_ready.2 ⟨getD_of (by rw [h.same i0 hk]; exact hu), _, ho, fun e he _ => ?_⟩⟩
      have hlt := (inParts_low hp (by rw [← hops i0 hk]; exact ho) hk).1 e he
      have hsz : e.on < listed1.size := by rw [h.size1]; omega
      cases hb : listed1[e.on] with
      | true => simp [hsz, hb]
      | false => exact absurd ⟨e.on, hlt, by rw [← h.same e.on (by omega), Array.getElem?_eq_getElem hsz, hb]⟩ hex

/-- The first k have come up. -/
def marks (k n : Nat) : Array Bool := (List.replicate k true ++ List.replicate (n - k) false).toArray

theorem Halves.all {k : Nat} {listed listed1 : Array Bool} (h : Halves ops k listed listed1) (hk : k ≤ ops.size) (hall : ¬ ∃ i, i < k ∧ listed[i]? = some false) : listed = marks k ops.size := by
  apply Array.ext
  · simp [marks, h.size]; omega
  · intro i h1 h2
    have hm : (marks k ops.size)[i] = decide (i < k) := by
      simp only [marks, List.getElem_toArray]
      by_cases hi : i < k
      · rw [List.getElem_append_left (by simpa using hi)]; simp [hi]
      · rw [List.getElem_append_right (by simpa using hi)]; simp [hi]
    rw [hm]
    by_cases hi : i < k
    · cases hb : listed[i] with
      | true => simp [hi]
      | false => exact absurd ⟨i, hi, by rw [Array.getElem?_eq_getElem h1, hb]⟩ hall
    · have := h.late i (by omega) (by rw [← h.size]; exact h1)
      rw [Array.getElem?_eq_getElem h1] at this
      rw [Option.some.inj this]
      simp [hi]

theorem wpAny_parts {k m : Nat} (hp : inParts md ops k = true) (hops : ∀ j, j < k → ops1[j]? = ops[j]?) (hs1 : ops1.size = k) (hk : k ≤ ops.size) : ∀ (n : Nat) (listed listed1 : Array Bool) (a : Act) (w : World), Halves ops k listed listed1 →
    wpAny P md ops1 (upto (fun a w => wpAny P md ops Q m (marks k ops.size) a w) Q) n listed1 a w → wpAny P md ops Q (n + m) listed a w := by
  intro n
  induction n with
  | zero =>
    intro listed listed1 a w H h
    rw [Nat.zero_add]
    have hall : ¬ ∃ i, i < k ∧ listed[i]? = some false := by
      rintro ⟨i, hi, hu⟩
      obtain ⟨j, hj⟩ := H.some_ready hp hops hs1 i i (Nat.le_refl _) hi hu
      rw [h.1] at hj
      cases hj
    rw [H.all hk hall]
    exact h.2
  | succ n ih =>
    intro listed listed1 a w H h
    by_cases hex : ∃ i, i < k ∧ listed[i]? = some false
    · obtain ⟨i0, hi0, hu⟩ := hex
      rw [Nat.succ_add]
      refine ⟨fun hr => ?_, fun i hi => ?_⟩
      · obtain ⟨j, hj⟩ := H.some_ready hp hops hs1 i0 i0 (Nat.le_refl _) hi0 hu
        have hjk : j < k := by
          obtain ⟨_, o, ho, _⟩ := mem_ready.1 hj
          rw [← hs1]
          exact (Array.getElem?_eq_some_iff.1 ho).1
        have := (H.ready hp hops hs1 hi0 hu j).2 ⟨hj, hjk⟩
        rw [hr] at this
        cases this
      · obtain ⟨hi1, hik⟩ := (H.ready hp hops hs1 hi0 hu i).1 hi
        exact wpOp_part hp hops hik (fun a' w' h' => ih _ _ a' w' (H.put hik) h') (h.2 i hi1)
    · have hr : Region.ready md ops1 listed1 = [] := by
        cases hrr : Region.ready md ops1 listed1 with
        | nil => rfl
        | cons j js =>
          have hj : j ∈ Region.ready md ops1 listed1 := by rw [hrr]; exact List.mem_cons_self
          obtain ⟨hd, o, ho, _⟩ := mem_ready.1 hj
          have hjk : j < k := by
            rw [← hs1]
            exact (Array.getElem?_eq_some_iff.1 ho).1
          refine absurd ⟨j, hjk, ?_⟩ hex
          rw [← H.same j hjk]
          have hsz : j < listed1.size := by rw [H.size1]; exact hjk
          rw [Array.getElem?_eq_getElem hsz]
          simp [hsz] at hd
          rw [hd]
      have h2 := h.1 hr
      rw [H.all hk hex]
      exact wpAny_more' h2

/-- **The beginning**: the first part as a region of its own; what it ends in is the rest of the region. -/
theorem wp_region_parts {S : World → Prop} {id : Nat} {a : Act} {w : World} (k m : Nat) (l1 : List Oper) (hm : P.follows .mixedOrders = true) (hp : inParts .any ops k = true) (hs : ops.size = k + m) (h1 : ops.toList.take k = l1) (hS : S w.drew)
    (h : S w.drew → wpAnyH P .any l1.toArray (upto (fun a w => wpAny P .any ops Q m (marks k (k + m)) a w) Q) S k (Array.replicate k false) a w.drew) : (Code.region id ops true).wp P Q a w := by
  refine wp_region_any hm ?_
  have hs1 : l1.toArray.size = k := by rw [← h1, List.size_toArray, List.length_take, Array.length_toList]; omega
  have hops : ∀ j, j < k → l1.toArray[j]? = ops[j]? := fun j hj => by
    rw [← Array.getElem?_toList, ← Array.getElem?_toList, ← h1, List.toList_toArray, List.getElem?_take]
    simp [hj]
  have h2 := wpAny_of_held _ _ _ _ (h hS)
  rw [← hs] at h2
  have H : Halves ops k (Array.replicate ops.size false) (Array.replicate k false) := by
    refine ⟨by simp, by simp, fun j hj => ?_, fun j _ hj => ?_⟩
    · rw [Array.getElem?_replicate, Array.getElem?_replicate]
      simp [hj, show j < ops.size by omega]
    · rw [Array.getElem?_replicate]
      simp [hj]
  have := wpAny_parts hp hops hs1 (by omega) k _ _ a _ H h2
  rw [← hs] at this
  exact this
end
end Go.Proofs.YtajccmkdfmpapaaGreatDoor
namespace Go.Proofs.YtajccmkdfmpapaaGreatDoor
open Go.RowKit

/-- append of numbers that are read, onto a row of numbers of the call's own, as one step of a region that draws. -/
theorem stepI (w : World) {ops : Array Oper} {o : Oper} {a : Act} {K : Act → World → Prop} {Q : Exit → Act → World → Prop} {E : Prop} (hgd : o.guard = none) (s x : Operand) (ho : o.op = .call { callee := .builtin .append, args := #[s, x], argTypes := #[43, 43] })
    (base B g cap n m c : Nat) (ys xs : List Int) (A : Option Addr) (hs : a.eval s = .slice (some ⟨g, 0, none⟩) n cap) (hown : OwnG w base 3 g cap (iCells ys)) (hn : ys.length = n) (hx : a.eval x = .slice A m c) (hr : RdV w B A (iCells xs)) (hm : xs.length = m)
    (hlen : n + m ≤ 1000000) (hbase : base ≤ w.heap.size)
    (h : ∀ g' cap' w', OwnG w' base 3 g' cap' (iCells (ys ++ xs)) → w.grownBy w' (some g) → (g' = g ∨ g' = w.heap.size) → K (a.put o.dst (.slice (some ⟨g', 0, none⟩) (n + m) cap')) w') : if Region.wanted o (yielded ops a.tmps) = true then Oper.wp Tryz.prog o a w K Q else E := by
  rcases Nat.eq_zero_or_pos m with h0 | hp
  · subst h0
    have h0 : xs = [] := List.eq_nil_of_length_eq_zero hm
    subst h0
    have hc := hown.cap
    rw [iCells_len, hn] at hc
    have hw : Region.wanted o (yielded ops a.tmps) = true := by simp [Region.wanted, hgd]
    rw [if_pos hw]
    have hrun := append_zeroI w o.type (some ⟨g, 0, none⟩) A n cap c hc
    unfold Oper.wp
    simp [execOp, ho, resolve, invoke, builtin, hs, hx, hrun, Result.andThen]
    have := h g cap w (by rw [List.append_nil]; exact hown) (World.grownBy.refl w _) (.inl rfl)
    rwa [Nat.add_zero] at this
  · have hrow : 0 < (iCells xs).length := by rw [iCells_len]; omega
    obtain ⟨b, o', rfl, _, hc⟩ := hr hrow
    obtain ⟨i0, hi, hz0, hz1, hz2⟩ := info_parts intInfo
    subst hn hm
    refine step_append_lies w hgd s x 43 ho base 3 i0 (.int .i64 0) 1 8 Tryz.underlying43 hi hz0 hz1 hz2 rfl (by decide) _ ys.length (iCells ys) hs (by have := hown; unfold OwnG at this; rwa [iCells_len] at this) ⟨b, o', none⟩ xs.length c (iCells xs) hx (by simp [iCells]) (fun j u hj => ?_) iCells_one hp (by unfold maxLen; omega) (by omega) hbase w.heap.size rfl ?_
    · obtain ⟨hjl, rfl⟩ := List.getElem?_eq_some_iff.1 hj
      have := hc j hjl
      rcases j with _ | j
      · simpa [Addr.add] using this
      · simpa [Addr.add] using this
    · intro g' cap' w' h2 h3 h4 _
      refine h g' cap' w' ?_ h3 (h4.imp (fun e => (Option.some.inj e).symm) id)
      unfold OwnG
      rw [iCells_len, List.length_append]
      simpa [iCells] using h2

section
variable {w : World} {base : Nat → Prop} {rb : Nat} {S : RkS}
theorem rdv_take {w : World} {B : Nat} {A : Option Addr} {vs : List Value} (h : RdV w B A vs) (k : Nat) : RdV w B A (vs.take k) := by
  intro hn
  have hp : 0 < vs.length := by simp at hn; omega
  obtain ⟨b, o, hA, hb, hc⟩ := h hp
  refine ⟨b, o, hA, hb, fun i hi => ?_⟩
  rw [hc i (by simp at hi; omega)]
  simp
theorem RefC.conK {w1 w2 : World} {g cap m s : Nat} {vT vK : Value} {K : List Nat} (h : RefC w1 base rb vT vK S) (hK : S.K = K) (hb : Below w1.heap.size w1 w2) (hn : NatR w2 w1.heap.size g cap (s :: K)) (hm : (s :: K).length = m) :
    ∃ w3, w2.setCell ⟨rb, 1, none⟩ (.slice (some ⟨g, 0, none⟩) m cap) = w3 ∧ RefC w3 base rb vT (.slice (some ⟨g, 0, none⟩) m cap) ⟨S.T, s :: K, S.n⟩ ∧ Kept (fun k => k = rb) w1 w3 ∧ NatR w3 w1.heap.size g cap (s :: K) := by
  have h3 := h.newK hb hn (Nat.le_refl _) hm
  have hlt := lt_of_block h.1
  have hmem := hn.mem
  exact ⟨_, rfl, h3.1, h3.2, hn.keep (kept_put w2 rb 1 _) (by omega)⟩
set_option maxHeartbeats 4000000 in
set_option maxRecDepth 100000 in
theorem rtouch_at (x : Int) (h : RefM w base rb S) : Calls Tryz.prog 55 #[.pointer (some ⟨rb, 0, none⟩), .int .i64 x] w (RefTo base rb (S.has x) (S.touS x) w) := by
  have HR := Lib.hid (rremove_at x h)
  cases hx : S.has x with
  | false =>
    have HE : Hid (∀ w', RefTo base rb (S.has x) (S.remS x) w (.returned (.bool false)) w' → RefTo base rb false (S.touS x) w (.returned (.bool false)) w') := Lib.hid (fun w' ⟨_, b, c⟩ => by
      unfold RkS.remS at b
      unfold RkS.touS
      rw [hx] at b ⊢
      exact ⟨rfl, b, c⟩)
    rw [hx] at HR HE
    clear h hx
    go_enter Tryz.func55, Tryz.ntmps55
    go_wp2_with fail
    refine HR.out.mono ?_
    rintro r w' ⟨rfl, ht⟩
    have HT := Lib.hid ht
    clear ht
    go_wp2_with fail
    go_ret
    exact HE.out _ ⟨rfl, HT.out⟩
  | true =>
    have HW := Lib.hid (RkS.touS_wf h.2 x)
    obtain ⟨s, rfl, hs⟩ := RkS.has_some hx
    have hwf := h.2
    have hrem : S.remS (s : Int) = { S with T := butL S.T s, K := butL S.K s } := by
      unfold RkS.remS
      rw [if_pos hx]
      simp
    have htou : S.touS (s : Int) = RkS.demo { S with T := butL S.T s, K := s :: butL S.K s } := by
      unfold RkS.touS
      rw [if_pos hx]
      simp
    have hmid := RkS.touch_mid hwf hs
    have hlen := RkS.len_le hmid
    simp only [List.length_cons] at hlen
    have hn64 := hwf.n64
    rw [hx, hrem] at HR
    rw [htou] at HW ⊢
    obtain ⟨tl, htl⟩ : ∃ tl, (butL S.T s).length = tl := ⟨_, rfl⟩
    obtain ⟨kl, hkl⟩ : ∃ kl, (butL S.K s).length = kl := ⟨_, rfl⟩
    obtain ⟨n, hn⟩ : ∃ n, S.n = n := ⟨_, rfl⟩
    have HLN : Hid ((butL S.T s).length = tl ∧ (butL S.K s).length = kl ∧ tl + kl ≤ 63) := Lib.hid ⟨htl, hkl, by omega⟩
    have hkl63 : kl ≤ 63 := by omega
    have hn64' : n ≤ 64 := by omega
    rw [hn] at HR HW ⊢
    clear h hx hs hwf hrem htou hmid hlen hn64 htl hkl hn
    go_enter Tryz.func55, Tryz.ntmps55
    go_wp2_with fail
    refine HR.out.mono ?_
    rintro r w1 ⟨rfl, ⟨⟨vT, vK, hc1⟩, _⟩, hk1⟩
    obtain ⟨A, c, A2, c2, rfl, rfl⟩ := hc1.slices
    have HC1 := Lib.hid hc1
    have HK1 := Lib.hid hk1
    have HN2 : Hid (NatR (w1.alloc (.cells #[.int .i64 (s : Int)] 3)) w1.heap.size w1.heap.size 1 [s]) := Lib.hid (NatR.new w1 _ (Nat.le_refl _) [s] (by simp))
    have HB2 : Hid (Below w1.heap.size w1 (w1.alloc (.cells #[.int .i64 (s : Int)] 3))) := Lib.hid ((Below.refl _ _).alloc (Nat.le_refl _) _)
    have k1 := (HC1.out.up HB2.out).cells.2.1
    simp only [HLN.out.2.1] at k1
    have e2 : (1 : Int) + (kl : Int) - 1 = (kl : Int) := by omega
    clear hc1 hk1 HR
    go_wp2_with (first
      | (at_builtin; refine appI _ rfl (.tmp 12) (.tmp 16) rfl w1.heap.size w1.heap.size w1.heap.size 1 1 kl c2 [(s : Int)] (nats (butL S.K s)) A2 rfl HN2.out rfl rfl (HC1.out.2.2.1.rdI.1.below HB2.out) (by rw [nats_len]; exact HLN.out.2.1) (by omega) HB2.out.size ?_; intro g cap w2 ho hg hgg; have HO2 : Hid (NatR w2 w1.heap.size g cap (s :: butL S.K s)) := Lib.hid ho; have HBB2 := Lib.hid (HB2.out.grown hg HB2.out.size (fun e he => by have := Option.some.inj he; omega)); have f2 := (HC1.out.up HBB2.out).1.free 1; have k2 := (HC1.out.up HBB2.out).cells.2.1; obtain ⟨w3, hw3, hc3, hk3, hn3⟩ := HC1.out.conK rfl HBB2.out HO2.out (m := 1 + kl) (by have := HLN.out.2.1; simp; omega); have HN3 := Lib.hid hn3; have HK13 := Lib.hid (HK1.out.and hk3); have HC3 := Lib.hid hc3; clear ho hg hgg hn3 hk3 hc3; obtain ⟨q0, q1, q2⟩ := HC3.out.cells; simp only [HLN.out.1] at q0)
      | fail)
    by_cases hd : n / 2 < 1 + kl
    · go_cut [36] (fun s36 wx => s36 = .bool true ∧ Below w3.heap.size w3 wx)
      case first =>
        have hdd : ((n : Int) / 2 < 1 + (kl : Int)) := by omega
        go_quiet (fail)
        all_goals
          go_wp2_with fail
          go_meet
          case rel => exact ⟨rfl, below_drewN (Below.refl _ _) _⟩
      case rest =>
        obtain ⟨rfl, hb⟩ := hcut
        have HB5 := Lib.hid hb
        obtain ⟨z, hz⟩ : ∃ z, (s :: butL S.K s)[kl]'(by have := HLN.out.2.1; simp; omega) = z := ⟨_, rfl⟩
        have HSS : Hid (∀ u, Below w3.heap.size w3 u → u.cell? ⟨rb, 0, none⟩ = some (.slice A tl c) ∧ u.cell? ⟨rb, 1, none⟩ = some (.slice (some ⟨g, 0, none⟩) (1 + kl) cap) ∧ u.cell? ⟨g, kl, none⟩ = some (.int .i64 (z : Int))) := Lib.hid (fun u hu => by
          obtain ⟨z0, z1, _⟩ := (HC3.out.up hu).cells
          simp only [HLN.out.1] at z0
          refine ⟨z0, z1, ?_⟩
          rw [(HN3.out.up hu).cell kl (by have := HLN.out.2.1; simp; omega), hz])
        have HE : Hid (∀ (w' : World) vT vK, RefC w' base rb vT vK ⟨z :: butL S.T s, (s :: butL S.K s).take kl, n⟩ → Kept (fun k => k = rb) w w' → RefTo base rb true (RkS.demo ⟨butL S.T s, s :: butL S.K s, n⟩) w (.returned (.bool true)) w') := Lib.hid (fun w' vT vK hc hk => by
          have hl : (s :: butL S.K s).length = kl + 1 := by have := HLN.out.2.1; simp; omega
          have hW := HW.out
          unfold RkS.demo at hW ⊢
          rw [if_pos (by simp only [hl]; omega)] at hW ⊢
          simp only [List.dropLast_eq_take, hl, Nat.add_sub_cancel, List.getLast?_eq_getElem?, List.getElem?_eq_getElem (show kl < (s :: butL S.K s).length by omega), hz, Option.toList, List.singleton_append] at hW ⊢
          exact ⟨rfl, ⟨⟨vT, vK, hc⟩, hW⟩, hk⟩)
        have hcap : kl + 1 ≤ cap := by
          have := HN3.out.cap
          rw [iCells_len, nats_len] at this
          have := HLN.out.2.1
          simp at *
          omega
        have HGN : Hid (¬ g = rb) := Lib.hid (by have := HN3.out.mem.1; have := lt_of_block HC1.out.1; omega)
        have HLT : Hid ((nats ((s :: butL S.K s).take kl)).length = kl) := Lib.hid (by have := HLN.out.2.1; rw [nats_len, List.length_take]; simp; omega)
        have HLT2 : Hid (0 + kl ≤ 1000000) := Lib.hid (by omega)
        have HLN' : Hid ((butL S.T s).length = tl ∧ (butL S.K s).length = kl ∧ (z :: butL S.T s).length = 1 + tl ∧ 1 + tl ≤ 1000000) := Lib.hid ⟨HLN.out.1, HLN.out.2.1, by have := HLN.out.1; simp; omega, by have := HLN.out.2.2; omega⟩
        clear hz HLN hb
        have HLN := HLN'
        clear HLN'
        have e5 : (kl : Int) < 1 + (kl : Int) := by omega
        go_wp2_with fail
        refine wp_region_parts (S := fun u => u.cell? ⟨rb, 0, none⟩ = some (.slice A tl c) ∧ u.cell? ⟨rb, 1, none⟩ = some (.slice (some ⟨g, 0, none⟩) (1 + kl) cap) ∧ u.cell? ⟨g, kl, none⟩ = some (.int .i64 (z : Int))) 14 3 _ (by kernel_rfl) (by kernel_rfl) (by rfl) (by simp only [List.take_succ_cons, List.take_zero]; rfl) ?_ (fun hHeld => ?_)
        · exact HSS.out _ HB5.out.drew
        refine wpAnyH_take (i := 0) (v := ?_) rfl (by kernel_rfl) (by kernel_rfl) (by kernel_rfl) (fun _ _ _ h => h) (Or.inl ⟨by rfl, ?_⟩) hHeld ?_
        rotate_left
        · intro u hSu
          obtain ⟨s0, s1, s2⟩ := hSu
          go_simp
          try with_reducible rfl
        try simp only [Act.put, List.setIfInBounds_toArray, List.set_cons_zero, List.set_cons_succ, List.getElem_toArray, List.getElem_cons_zero, List.getElem_cons_succ]
        refine wpAnyH_take (i := 1) (v := ?_) rfl (by kernel_rfl) (by kernel_rfl) (by kernel_rfl) (fun _ _ _ h => h) (Or.inl ⟨by rfl, ?_⟩) hHeld ?_
        rotate_left
        · intro u hSu
          obtain ⟨s0, s1, s2⟩ := hSu
          go_simp
          try with_reducible rfl
        try simp only [Act.put, List.setIfInBounds_toArray, List.set_cons_zero, List.set_cons_succ, List.getElem_toArray, List.getElem_cons_zero, List.getElem_cons_succ]
        refine wpAnyH_take (i := 2) (v := ?_) rfl (by kernel_rfl) (by kernel_rfl) (by kernel_rfl) (fun _ _ _ h => h) (Or.inl ⟨by rfl, ?_⟩) hHeld ?_
        rotate_left
        · intro u hSu
          obtain ⟨s0, s1, s2⟩ := hSu
          go_simp
          try with_reducible rfl
        try simp only [Act.put, List.setIfInBounds_toArray, List.set_cons_zero, List.set_cons_succ, List.getElem_toArray, List.getElem_cons_zero, List.getElem_cons_succ]
        refine wpAnyH_take (i := 3) (v := ?_) rfl (by kernel_rfl) (by kernel_rfl) (by kernel_rfl) (fun _ _ _ h => h) (Or.inl ⟨by rfl, ?_⟩) hHeld ?_
        rotate_left
        · intro u hSu
          obtain ⟨s0, s1, s2⟩ := hSu
          go_simp
          try with_reducible rfl
        try simp only [Act.put, List.setIfInBounds_toArray, List.set_cons_zero, List.set_cons_succ, List.getElem_toArray, List.getElem_cons_zero, List.getElem_cons_succ]
        refine wpAnyH_take (i := 4) (v := ?_) rfl (by kernel_rfl) (by kernel_rfl) (by kernel_rfl) (fun _ _ _ h => h) (Or.inl ⟨by rfl, ?_⟩) hHeld ?_
        rotate_left
        · intro u hSu
          obtain ⟨s0, s1, s2⟩ := hSu
          go_simp
          try with_reducible rfl
        try simp only [Act.put, List.setIfInBounds_toArray, List.set_cons_zero, List.set_cons_succ, List.getElem_toArray, List.getElem_cons_zero, List.getElem_cons_succ]
        refine wpAnyH_take (i := 5) (v := ?_) rfl (by kernel_rfl) (by kernel_rfl) (by kernel_rfl) (fun _ _ _ h => h) (Or.inl ⟨by rfl, ?_⟩) hHeld ?_
        rotate_left
        · intro u hSu
          obtain ⟨s0, s1, s2⟩ := hSu
          go_simp
          try with_reducible rfl
        try simp only [Act.put, List.setIfInBounds_toArray, List.set_cons_zero, List.set_cons_succ, List.getElem_toArray, List.getElem_cons_zero, List.getElem_cons_succ]
        refine wpAnyH_take (i := 6) (v := ?_) rfl (by kernel_rfl) (by kernel_rfl) (by kernel_rfl) (fun _ _ _ h => h) (Or.inl ⟨by rfl, ?_⟩) hHeld ?_
        rotate_left
        · intro u hSu
          obtain ⟨s0, s1, s2⟩ := hSu
          go_simp
          try with_reducible rfl
        try simp only [Act.put, List.setIfInBounds_toArray, List.set_cons_zero, List.set_cons_succ, List.getElem_toArray, List.getElem_cons_zero, List.getElem_cons_succ]
        refine wpAnyH_take (i := 7) (v := ?_) rfl (by kernel_rfl) (by kernel_rfl) (by kernel_rfl) (fun _ _ _ h => h) (Or.inl ⟨by rfl, ?_⟩) hHeld ?_
        rotate_left
        · intro u hSu
          obtain ⟨s0, s1, s2⟩ := hSu
          go_simp
          try with_reducible rfl
        try simp only [Act.put, List.setIfInBounds_toArray, List.set_cons_zero, List.set_cons_succ, List.getElem_toArray, List.getElem_cons_zero, List.getElem_cons_succ]
        refine wpAnyH_take (i := 9) (v := ?_) rfl (by kernel_rfl) (by kernel_rfl) (by kernel_rfl) (fun _ _ _ h => h) (Or.inl ⟨by rfl, ?_⟩) hHeld ?_
        rotate_left
        · intro u hSu
          obtain ⟨s0, s1, s2⟩ := hSu
          go_simp
          try with_reducible rfl
        try simp only [Act.put, List.setIfInBounds_toArray, List.set_cons_zero, List.set_cons_succ, List.getElem_toArray, List.getElem_cons_zero, List.getElem_cons_succ]
        refine wpAnyH_take (i := 10) (v := ?_) rfl (by kernel_rfl) (by kernel_rfl) (by kernel_rfl) (fun _ _ _ h => h) (Or.inl ⟨by rfl, ?_⟩) hHeld ?_
        rotate_left
        · intro u hSu
          obtain ⟨s0, s1, s2⟩ := hSu
          go_simp
          try with_reducible rfl
        try simp only [Act.put, List.setIfInBounds_toArray, List.set_cons_zero, List.set_cons_succ, List.getElem_toArray, List.getElem_cons_zero, List.getElem_cons_succ]
        refine wpAnyH_take (i := 11) (v := ?_) rfl (by kernel_rfl) (by kernel_rfl) (by kernel_rfl) (fun _ _ _ h => h) (Or.inl ⟨by rfl, ?_⟩) hHeld ?_
        rotate_left
        · intro u hSu
          obtain ⟨s0, s1, s2⟩ := hSu
          go_simp
          try with_reducible rfl
        try simp only [Act.put, List.setIfInBounds_toArray, List.set_cons_zero, List.set_cons_succ, List.getElem_toArray, List.getElem_cons_zero, List.getElem_cons_succ]
        refine wpAnyH_take (i := 12) (v := ?_) rfl (by kernel_rfl) (by kernel_rfl) (by kernel_rfl) (fun _ _ _ h => h) (Or.inl ⟨by rfl, ?_⟩) hHeld ?_
        rotate_left
        · intro u hSu
          obtain ⟨s0, s1, s2⟩ := hSu
          go_simp
          try with_reducible rfl
        try simp only [Act.put, List.setIfInBounds_toArray, List.set_cons_zero, List.set_cons_succ, List.getElem_toArray, List.getElem_cons_zero, List.getElem_cons_succ]
        obtain ⟨w6, hw6⟩ : ∃ w6, wc.drew = w6 := ⟨_, rfl⟩
        have HB56 : Hid (Below w3.heap.size w3 w6) := Lib.hid (by rw [← hw6]; exact HB5.out.drew)
        rw [hw6] at hHeld ⊢
        clear hw6
        have HB6 : Hid (Below w3.heap.size w3 (w6.alloc (.cells #[.int .i64 (z : Int)] 3))) := Lib.hid (HB56.out.alloc HB56.out.size _)
        have HN6 : Hid (NatR (w6.alloc (.cells #[.int .i64 (z : Int)] 3)) w3.heap.size w6.heap.size 1 [z]) := Lib.hid (NatR.new w6 _ HB56.out.size [z] (by simp))
        refine wpAnyH_ready (rs := [8]) (by kernel_rfl) (by simp) ?_
        refine (AllReadyH.cons rfl (fun K hK => ?_) AllReadyH.nil)
        go_simp
        refine hK.out _ _ ?_ (fun hHeld2 => ?_)
        · exact HSS.out _ HB6.out
        clear hK K hHeld
        have hHeld := hHeld2
        clear hHeld2
        try simp only [Act.put, List.setIfInBounds_toArray, List.set_cons_zero, List.set_cons_succ, List.getElem_toArray, List.getElem_cons_zero, List.getElem_cons_succ]
        refine wpAnyH_ready (rs := [13]) (by kernel_rfl) (by simp) ?_
        refine (AllReadyH.cons rfl (fun K hK => ?_) AllReadyH.nil)
        (refine stepI (w6.alloc (.cells #[.int .i64 (z : Int)] 3)) (by rfl) (.tmp 45) (.tmp 49) (by rfl) w3.heap.size w3.heap.size w6.heap.size 1 1 tl c [(z : Int)] (nats (butL S.T s)) A (by rfl) HN6.out rfl (by rfl) (HC3.out.2.1.rdI.1.below HB6.out) (by rw [nats_len]; exact HLN.out.1) HLN.out.2.2.2 HB6.out.size ?_; intro g7 cap7 w7 ho hg hgg; have HO7 : Hid (NatR w7 w3.heap.size g7 cap7 (z :: butL S.T s)) := Lib.hid ho; have HB7 := Lib.hid (HB6.out.grown hg HB6.out.size (fun e he => by have := Option.some.inj he; have := HB56.out.size; omega)); have f7 := (HC3.out.up HB7.out).1.free 0; have k7 := (HC3.out.up HB7.out).cells.1; clear ho hg hgg)
        refine hK.out _ _ ?_ (fun hHeld2 => ?_)
        · exact HSS.out _ HB7.out
        clear hK K hHeld
        have hHeld := hHeld2
        clear hHeld2
        try simp only [Act.put, List.setIfInBounds_toArray, List.set_cons_zero, List.set_cons_succ, List.getElem_toArray, List.getElem_cons_zero, List.getElem_cons_succ]
        refine wpAnyH_done (by kernel_rfl) ?_ _
        show wpAny _ _ _ _ 3 _ _ _
        clear hHeld
        refine wpAny_take (i := 14) (v := ?_) rfl (by kernel_rfl) (by kernel_rfl) (by kernel_rfl) (fun _ _ _ h => h) (Or.inl ⟨by rfl, ?_⟩) ?_
        rotate_left
        · intro u
          go_simp
          try with_reducible rfl
        try simp only [Act.put, List.setIfInBounds_toArray, List.set_cons_zero, List.set_cons_succ, List.getElem_toArray, List.getElem_cons_zero, List.getElem_cons_succ]
        refine wpAny_take (i := 15) (v := ?_) rfl (by kernel_rfl) (by kernel_rfl) (by kernel_rfl) (fun _ _ _ h => h) (Or.inl ⟨by rfl, ?_⟩) ?_
        rotate_left
        · intro u
          go_simp
          try with_reducible rfl
        try simp only [Act.put, List.setIfInBounds_toArray, List.set_cons_zero, List.set_cons_succ, List.getElem_toArray, List.getElem_cons_zero, List.getElem_cons_succ]
        have hT8 := HC3.out.newT HB7.out HO7.out (Nat.le_refl _) (m := 1 + tl) HLN.out.2.2.1
        have HT8 := Lib.hid hT8.1
        have HK8 := Lib.hid (HK13.out.and hT8.2)
        have HN8 := Lib.hid ((HN3.out.up HB7.out).keep (kept_put w7 rb 0 (.slice (some ⟨g7, 0, none⟩) (1 + tl) cap7)) HGN.out)
        clear hT8
        refine wpAny_ready (rs := [16]) (by kernel_rfl) (by simp) ?_
        refine AllReady.cons rfl (fun K hK => ?_) AllReady.nil
        go_simp
        refine hK _ _ ?_
        clear hK K
        refine wpAny_done (by kernel_rfl) ?_ _
        obtain ⟨w8, hw8⟩ : ∃ w8, w7.setCell ⟨rb, 0, none⟩ (.slice (some ⟨g7, 0, none⟩) (1 + tl) cap7) = w8 := ⟨_, rfl⟩
        rw [hw8] at HT8 HK8 HN8
        try rw [hw8]
        clear hw8 f7 k7
        have HB9 : Hid (Below w8.heap.size w8 (w8.alloc (.cells #[] 3))) := Lib.hid ((Below.refl _ _).alloc (Nat.le_refl _) _)
        have HN9 : Hid (NatR (w8.alloc (.cells #[] 3)) w8.heap.size w8.heap.size 0 []) := Lib.hid (NatR.new w8 _ (Nat.le_refl _) [] (by simp))
        have r1 := (HT8.out.up HB9.out).cells.2.1
        have r2 : RdV w8 w8.heap.size (some ⟨g, 0, none⟩) (iCells (nats ((s :: butL S.K s).take kl))) := by
          have := rdv_take HN8.out.rd kl
          rwa [show (iCells (nats (s :: butL S.K s))).take kl = iCells (nats ((s :: butL S.K s).take kl)) by simp [iCells, nats, List.map_take]] at this
        have HR2 := Lib.hid r2
        clear r2
        go_wp2_with (first
          | (at_builtin; refine appI _ rfl (.tmp 54) (.tmp 60) rfl w8.heap.size w8.heap.size w8.heap.size 0 0 kl cap [] (nats ((s :: butL S.K s).take kl)) (some ⟨g, 0, none⟩) rfl HN9.out rfl rfl (HR2.out.below HB9.out) HLT.out HLT2.out HB9.out.size ?_; intro g10 cap10 w10 ho hg hgg; rw [Nat.zero_add, List.nil_append] at *; have HO10 : Hid (NatR w10 w8.heap.size g10 cap10 ((s :: butL S.K s).take kl)) := Lib.hid ho; have HB10 := Lib.hid (HB9.out.grown hg HB9.out.size (fun e he => by have := Option.some.inj he; omega)); have f10 := (HT8.out.up HB10.out).1.free 1; have k10 := (HT8.out.up HB10.out).cells.2.1; clear ho hg hgg)
          | fail)
        go_ret
        have hK := HT8.out.newK HB10.out HO10.out (Nat.le_refl _) (m := kl) (by have := HLT.out; rwa [nats_len] at this)
        exact HE.out _ _ _ hK.1 (HK8.out.and hK.2)
    · go_cut [36] (fun s36 wx => s36 = .bool false ∧ Below w3.heap.size w3 wx)
      case first =>
        have hdd : ¬ ((n : Int) / 2 < 1 + (kl : Int)) := by omega
        go_quiet (fail)
        all_goals
          go_wp2_with fail
          go_meet
          case rel => exact ⟨rfl, below_drewN (Below.refl _ _) _⟩
      case rest =>
        obtain ⟨rfl, hb⟩ := hcut
        have HW' := HW.out
        unfold RkS.demo at HW'
        rw [if_neg (by have := HLN.out.2.1; simp; omega)] at HW'
        have HE : Hid (RefTo base rb true (RkS.demo ⟨butL S.T s, s :: butL S.K s, n⟩) w (.returned (.bool true)) wc) := Lib.hid (by
          unfold RkS.demo
          rw [if_neg (by have := HLN.out.2.1; simp; omega)]
          exact ⟨rfl, ⟨⟨_, _, HC3.out.up hb⟩, HW'⟩, HK13.out.and (Kept.of_below hb)⟩)
        clear HW' hb
        go_wp2_with fail
        go_ret
        exact HE.out
end
end Go.Proofs.YtajccmkdfmpapaaGreatDoor

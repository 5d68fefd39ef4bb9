/-
  Rows of the call's own whose value is a letter; append onto them, something or nothing, as a step of a region, or by itself.
  A region that draws its order, in two parts: where each operation from number k on waits for each one ahead of k, the first part may be walked as a region of its own, and then the rest. For whatever program.
-/
import Derived.Test.YthmpimjmajoimaaGreatDoorSw04
import Derived.Deep.RegionHeldLaw
import Derived.Deep.RegionLaw
namespace Go.Proofs.YthmpimjmajoimaaGreatDoor
open Go.RowKit

/-- The value v is the call's own row of cells vs of type T, one cell each; nil, where there are none. -/
def RowV (w : World) (base : Nat) (T : TypeId) (v : Value) (vs : List Value) : Prop := w.ownsRow base T 1 v vs.length vs
theorem RowV.new (w : World) (base : Nat) (T : TypeId) (hb : base ≤ w.heap.size) : RowV (w.alloc (.cells #[] T)) base T (.slice (some ⟨w.heap.size, 0, none⟩) 0 0) [] := OwnG.new w base T [] hb (by simp)
theorem RowV.rise {w w' : World} {base : Nat} {T : TypeId} {v : Value} {vs : List Value} (h : RowV w base T v vs) (hb : Below w.heap.size w w') : RowV w' base T v vs :=
  ⟨h.1, h.2.imp id fun ⟨g', c', cur, hv, hg, hc, r⟩ => ⟨g', c', cur, hv, hg, (hb.block g' (lt_of_block hc)).trans hc, r⟩⟩
theorem RowV.kept {w w' : World} {base : Nat} {T : TypeId} {v : Value} {vs : List Value} {row : Option Nat} (h : RowV w base T v vs) (hg : w.grownBy w' row) (hne : ∀ g, v.ownBlock = some g → some g ≠ row) : RowV w' base T v vs :=
  ⟨h.1, h.2.imp id fun ⟨g', c', cur, hv, hb, hc, r⟩ => ⟨g', c', cur, hv, hb, (hg.block g' (lt_of_block hc) (hne g' (by rw [hv]; rfl))).trans hc, r⟩⟩
theorem RowV.own {w : World} {base : Nat} {T : TypeId} {v : Value} {vs : List Value} (h : RowV w base T v vs) : ∀ j, v.ownBlock = some j → base ≤ j ∧ j < w.heap.size := by
  rcases h.2 with ⟨rfl, _⟩ | ⟨g, cap, cur, rfl, hb, hg, _⟩
  · intro j hj
    cases hj
  · intro j hj
    simp [Value.ownBlock] at hj
    subst hj
    exact ⟨hb, lt_of_block hg⟩
theorem RowV.out {w : World} {base : Nat} {T : TypeId} {v : Value} {vs : List Value} (h : RowV w base T v vs) : ∃ A c, v = .slice A vs.length c ∧ vs.length ≤ c ∧ RdV w w.heap.size A vs ∧ (A = none → c = 0) ∧ (∀ b o x, A = some ⟨b, o, x⟩ → base ≤ b ∧ b < w.heap.size) := by
  rcases h.2 with ⟨rfl, h0⟩ | ⟨g, cap, cur, rfl, hb, hg, hn, hm, hs, ht⟩
  · have e : vs = [] := List.eq_nil_of_length_eq_zero h0
    subst e
    exact ⟨none, 0, rfl, by simp, RdV.nil, fun _ => rfl, fun _ _ _ e => by cases e⟩
  · have hO : OwnG w base T g cap vs := h
    exact ⟨_, cap, rfl, hn, hO.rdV, fun e => (by cases e), fun b o x e => by have e := Option.some.inj e; injection e with e; subst e; exact ⟨hb, lt_of_block hg⟩⟩
theorem RowV.form {w : World} {base : Nat} {T : TypeId} {v : Value} {vs : List Value} (h : RowV w base T v vs) (hp : 0 < vs.length) : ∃ g cap, v = .slice (some ⟨g, 0, none⟩) vs.length cap ∧ OwnG w base T g cap vs := by
  rcases h.2 with ⟨rfl, h0⟩ | ⟨g, cap, cur, rfl, hb, hg, hn, hm, hs, ht⟩
  · omega
  · exact ⟨g, cap, rfl, h⟩
theorem RowV.own8 {w : World} {base : Nat} {v : Value} {xs : List Int} (h : RowV w base 5 v (cellsOf8 xs)) : BytV w v xs := by
  unfold RowV at h
  rw [cells8_len] at h
  exact R8v h
theorem src_of {w : World} {A : Option Addr} {ad : Addr} {xs : List Value} (h : RdV w w.heap.size A xs) (hA : A = some ad) : ∀ j u, xs[j]? = some u → w.cell? (ad.add j) = some u := by
  intro j u hj
  obtain ⟨hjl, rfl⟩ := List.getElem?_eq_some_iff.1 hj
  obtain ⟨b', o', hA', _, hc⟩ := h (by omega)
  rw [hA] at hA'
  obtain rfl := Option.some.inj hA'
  have := hc j hjl
  rcases j with _ | j
  · simpa [Addr.add] using this
  · simpa [Addr.add] using this

theorem wp_appR (w : World) {o : Oper} {a : Act} {K : Act → World → Prop} {Q : Exit → Act → World → Prop} (s x : Operand) (Ts T : TypeId) (z : Value) (nb : Nat) (ho : o.op = .call { callee := .builtin .append, args := #[s, x], argTypes := #[Ts, Ts] })
    (hu : Tryz.prog.underlying Ts = some (.slice T)) (hinfo : (Tryz.prog.info? T).map (fun i => (i.zero, i.size, i.bytes)) = some (some z, 1, nb)) (hzs : z.cells.size = 1) (hnb : nb ≤ 1000)
    (base n m c : Nat) (v : Value) (ys xs : List Value) (A : Option Addr) (hs : a.eval s = v) (hown : RowV w base T v ys) (hn : ys.length = n) (hx : a.eval x = .slice A m c) (hm : xs.length = m) (hr : RdV w w.heap.size A xs) (hA : A = none → c = 0) (h1 : ∀ u ∈ xs, u.oneCell' = true)
    (hlen : n + m ≤ 1000000) (hbase : base ≤ w.heap.size)
    (h : ∀ v' w', RowV w' base T v' (ys ++ xs) → w.grownBy w' v.ownBlock → K (a.put o.dst v') w') : o.wp Tryz.prog a w K Q := by
  obtain ⟨i0, hi, hz0, hz1, hz2⟩ := info_parts hinfo
  subst hn hm
  have hby : (ys.length + xs.length) * nb ≤ 140737488355328 := Nat.le_trans (Nat.mul_le_mul hlen hnb) (by decide)
  cases A with
  | none =>
    have h0 : xs = [] := by
      rcases Nat.eq_zero_or_pos xs.length with h0 | h0
      · exact List.eq_nil_of_length_eq_zero h0
      · obtain ⟨b, o', hA', _⟩ := hr h0
        cases hA'
    subst h0
    obtain rfl := hA rfl
    have hrun := run_append_owned_none (P := Tryz.prog) (w := w) base Ts o.type T i0 1 hu hi v ys.length ys hown
    unfold Oper.wp
    simp only [execOp, ho, resolve, invoke, builtin, hs, hx, hrun, Sem.run_bind, Sem.run_pure, Result.andThen_ok, List.map_toArray, List.map_cons, List.map_nil, List.length_nil]
    exact h v w (by rw [List.append_nil]; exact hown) (World.grownBy.refl w _)
  | some ad =>
    refine wp_append_own w s x Ts ho base T i0 z 1 nb hu hi hz0 hz1 hz2 hzs (by decide) v ys.length ys hs hown ad xs.length c xs hx (by simp) (src_of hr rfl) h1 (by unfold maxLen; omega) hby hbase ?_
    intro v' w' h2 h3 _
    refine h v' w' ?_ h3
    unfold RowV
    rw [List.length_append]
    exact h2
theorem stepR (w : World) {ops : Array Oper} {o : Oper} {a : Act} {K : Act → World → Prop} {Q : Exit → Act → World → Prop} {E : Prop} (hgd : o.guard = none) (s x : Operand) (Ts T : TypeId) (z : Value) (nb : Nat) (ho : o.op = .call { callee := .builtin .append, args := #[s, x], argTypes := #[Ts, Ts] })
    (hu : Tryz.prog.underlying Ts = some (.slice T)) (hinfo : (Tryz.prog.info? T).map (fun i => (i.zero, i.size, i.bytes)) = some (some z, 1, nb)) (hzs : z.cells.size = 1) (hnb : nb ≤ 1000)
    (base n m c : Nat) (v : Value) (ys xs : List Value) (A : Option Addr) (hs : a.eval s = v) (hown : RowV w base T v ys) (hn : ys.length = n) (hx : a.eval x = .slice A m c) (hm : xs.length = m) (hr : RdV w w.heap.size A xs) (hA : A = none → c = 0) (h1 : ∀ u ∈ xs, u.oneCell' = true)
    (hlen : n + m ≤ 1000000) (hbase : base ≤ w.heap.size)
    (h : ∀ v' w', RowV w' base T v' (ys ++ xs) → w.grownBy w' v.ownBlock → K (a.put o.dst v') w') : if Region.wanted o (yielded ops a.tmps) = true then Oper.wp Tryz.prog o a w K Q else E := by
  have hw : Region.wanted o (yielded ops a.tmps) = true := by simp [Region.wanted, hgd]
  rw [if_pos hw]
  exact wp_appR w s x Ts T z nb ho hu hinfo hzs hnb base n m c v ys xs A hs hown hn hx hm hr hA h1 hlen hbase h
theorem appR (w : World) {ops : Array Oper} {rest : List Oper} {o : Oper} {a : Act} {Q : Exit → Act → World → Prop} (hgd : o.guard = none) (s x : Operand) (Ts T : TypeId) (z : Value) (nb : Nat) (ho : o.op = .call { callee := .builtin .append, args := #[s, x], argTypes := #[Ts, Ts] })
    (hu : Tryz.prog.underlying Ts = some (.slice T)) (hinfo : (Tryz.prog.info? T).map (fun i => (i.zero, i.size, i.bytes)) = some (some z, 1, nb)) (hzs : z.cells.size = 1) (hnb : nb ≤ 1000)
    (base n m c : Nat) (v : Value) (ys xs : List Value) (A : Option Addr) (hs : a.eval s = v) (hown : RowV w base T v ys) (hn : ys.length = n) (hx : a.eval x = .slice A m c) (hm : xs.length = m) (hr : RdV w w.heap.size A xs) (hA : A = none → c = 0) (h1 : ∀ u ∈ xs, u.oneCell' = true)
    (hlen : n + m ≤ 1000000) (hbase : base ≤ w.heap.size)
    (h : ∀ v' w', RowV w' base T v' (ys ++ xs) → w.grownBy w' v.ownBlock → wpList Tryz.prog ops Q rest (a.put o.dst v') w') : wpList Tryz.prog ops Q (o :: rest) a w :=
  wpList_plain hgd fun _ hK => wp_appR w s x Ts T z nb ho hu hinfo hzs hnb base n m c v ys xs A hs hown hn hx hm hr hA h1 hlen hbase fun v' w' h2 h3 => hK _ _ (h v' w' h2 h3)
theorem infoU8 : (Tryz.prog.info? 5).map (fun i => (i.zero, i.size, i.bytes)) = some (some (.int .u8 0), 1, 1) := byteInfo
theorem infoRow : (Tryz.prog.info? 61).map (fun i => (i.zero, i.size, i.bytes)) = some (some (.slice none 0 0), 1, 24) := by kernel_rfl
theorem one8 {xs : List Int} : ∀ v ∈ cellsOf8 xs, v.oneCell' = true := by
  intro u hu
  simp only [cellsOf8, List.mem_map] at hu
  obtain ⟨y, _, rfl⟩ := hu
  rfl
end Go.Proofs.YthmpimjmajoimaaGreatDoor
namespace Go.Proofs.YthmpimjmajoimaaGreatDoor

section
variable {P : Program} {ops ops1 : Array Oper} {Q : Exit → Act → World → Prop} {md : Region.Mode}

/-- What the first part ends in. -/
def upto (R : Act → World → Prop) (Q : Exit → Act → World → Prop) : Exit → Act → World → Prop
  | .normal, a, w => R a w
  | .exit i, a, w => Q (.exit i) a w
  | .goto l, a, w => Q (.goto l) a w
  | .ret, a, w => Q .ret a w
  | .panic c, a, w => Q (.panic c) a w
  | .outgrown, a, w => Q .outgrown a w

theorem wp_upto {o : Oper} {a : Act} {w : World} {K R : Act → World → Prop} (h : o.wp P a w K (upto R Q)) : o.wp P a w K Q := by
  unfold Oper.wp at *
  generalize (execOp a.eval o).run P w = r at *
  cases r with
  | ok n w' =>
    cases n <;> simp only [Oper.upon] at h ⊢ <;>
      first
        | exact h
        | exact Calls.mono h (fun e w'' he => by cases e <;> exact he)
  | halt x w' => cases x <;> simp only [Oper.upon] at h ⊢ <;> exact h

/-- Each operation from k on waits for each one ahead of k; the ones ahead of k wait for earlier ones alone, and their guards are ahead of k. -/
def inParts (md : Region.Mode) (ops : Array Oper) (k : Nat) : Bool :=
  (List.range ops.size).all fun j => match ops[j]? with
    | none => true
    | some o => bif Nat.blt j k then (o.after.all fun e => Nat.blt e.on j) && (match o.guard with | none => true | some (g, _) => Nat.blt g k)
      else (List.range k).all fun i => o.after.any fun e => Region.binds md e && Nat.beq e.on i

theorem inParts_low {k j : Nat} {o : Oper} (h : inParts md ops k = true) (ho : ops[j]? = some o) (hj : j < k) : (∀ e ∈ o.after, e.on < j) ∧ ∀ g b, o.guard = some (g, b) → g < k := by
  unfold inParts at h
  rw [List.all_eq_true] at h
  have h1 := h j (List.mem_range.2 (Array.getElem?_eq_some_iff.1 ho).1)
  have e1 : Nat.blt j k = true := by simpa using hj
  simp only [ho, e1, cond_true, Bool.and_eq_true, Array.all_eq_true_iff_forall_mem] at h1
  refine ⟨fun e he => by simpa using h1.1 e he, fun g b hg => ?_⟩
  have h2 := h1.2
  rw [hg] at h2
  simpa using h2
theorem inParts_high {k j i : Nat} {o : Oper} (h : inParts md ops k = true) (ho : ops[j]? = some o) (hj : k ≤ j) (hi : i < k) : ∃ e ∈ o.after, Region.binds md e = true ∧ e.on = i := by
  unfold inParts at h
  rw [List.all_eq_true] at h
  have h1 := h j (List.mem_range.2 (Array.getElem?_eq_some_iff.1 ho).1)
  have e1 : Nat.blt j k = false := by rw [← Bool.not_eq_true, Nat.blt_eq]; omega
  simp only [ho, e1, cond_false, List.all_eq_true] at h1
  obtain ⟨e, he, hb⟩ := Array.any_eq_true'.1 (h1 i (List.mem_range.2 hi))
  simp only [Bool.and_eq_true] at hb
  exact ⟨e, he, hb.1, by simpa using hb.2⟩

/-- More room does no harm. -/
theorem wpAny_more : ∀ (n : Nat) (listed : Array Bool) (a : Act) (w : World), wpAny P md ops Q n listed a w → wpAny P md ops Q (n + 1) listed a w
  | 0, _, _, _, h => ⟨fun _ => h.2, fun i hi => by rw [h.1] at hi; cases hi⟩
  | n + 1, _, _, _, h => ⟨h.1, fun i hi => wpOp_mono (fun a' w' h' => wpAny_more n _ a' w' h') (h.2 i hi)⟩
theorem wpAny_more' {n m : Nat} {listed : Array Bool} {a : Act} {w : World} (h : wpAny P md ops Q m listed a w) : wpAny P md ops Q (n + m) listed a w := by
  induction n with
  | zero => rw [Nat.zero_add]; exact h
  | succ n ih => rw [Nat.succ_add]; exact wpAny_more _ _ _ _ ih

/-- One operation of the first part. -/
theorem wpOp_part {k i : Nat} {K K' R : Act → World → Prop} {a : Act} {w : World} (hp : inParts md ops k = true) (hops : ∀ j, j < k → ops1[j]? = ops[j]?) (hi : i < k) (hK : ∀ a w, K a w → K' a w) (h : wpOp P ops1 (upto R Q) i K a w) : wpOp P ops Q i K' a w := by
  have h0 : wpOp P ops Q i K a w := by
    unfold wpOp at *
    rw [hops i hi] at h
    cases ho : ops[i]? with
    | none => rw [ho] at h; exact h
    | some o =>
      rw [ho] at h
      have hw : Region.wanted o (yielded ops1 a.tmps) = Region.wanted o (yielded ops a.tmps) := by
        unfold Region.wanted
        cases hg : o.guard with
        | none => rfl
        | some gb =>
          obtain ⟨g, b⟩ := gb
          have hgk := (inParts_low hp ho hi).2 g b hg
          simp only [yielded, hops g hgk]
      simp only [hw] at h
      split at h
      · rename_i h1
        simp only [h1, if_true]
        exact h.imp wp_upto id
      · rename_i h1
        simp only [h1]
        exact h
  exact wpOp_mono hK h0

structure Halves (ops : Array Oper) (k : Nat) (listed listed1 : Array Bool) : Prop where
  size : listed.size = ops.size
  size1 : listed1.size = k
  same : ∀ j, j < k → listed1[j]? = listed[j]?
  late : ∀ j, k ≤ j → j < ops.size → listed[j]? = some false

theorem Halves.put {k i : Nat} {listed listed1 : Array Bool} (h : Halves ops k listed listed1) (hi : i < k) : Halves ops k (listed.setIfInBounds i true) (listed1.setIfInBounds i true) := by
  refine ⟨by simp [h.size], by simp [h.size1], fun j hj => ?_, fun j hj hjs => ?_⟩
  · by_cases e : i = j
    · subst e
      have h1 := h.same i hj
      by_cases hs : i < listed.size
      · have hs1 : i < listed1.size := by rw [h.size1]; exact hj
        simp [hs, hs1]
      · have hs1 : i < listed1.size := by rw [h.size1]; exact hj
        rw [Array.getElem?_eq_getElem hs1, Array.getElem?_eq_none (by omega)] at h1
        cases h1
    · rw [Array.getElem?_setIfInBounds_ne e, Array.getElem?_setIfInBounds_ne e]
      exact h.same j hj
  · rw [Array.getElem?_setIfInBounds_ne (by omega)]
    exact h.late j hj hjs

theorem getD_of {xs : Array Bool} {j : Nat} {b d : Bool} (h : xs[j]? = some b) : xs.getD j d = b := by
  simp [h]

theorem Halves.ready {k i0 : Nat} {listed listed1 : Array Bool} (h : Halves ops k listed listed1) (hp : inParts md ops k = true) (hops : ∀ j, j < k → ops1[j]? = ops[j]?) (_hs1 : ops1.size = k) (hi0 : i0 < k) (hu : listed[i0]? = some false) (j : Nat) : j ∈ Region.ready md ops listed ↔ j ∈ Region.ready md ops1 listed1 ∧ j < k := by
  rw [mem_ready, mem_ready]
  have key : ∀ j, j < k → ∀ d, listed1.getD j d = listed.getD j d := fun j hj d => by
    have := h.same j hj
    simp [this]
  constructor
  · rintro ⟨h1, o, ho, h2⟩
    have hjk : j < k := by
      rcases Nat.lt_or_ge j k with hj | hj
      · exact hj
      · obtain ⟨e, he, hb, hon⟩ := inParts_high hp ho hj hi0
        have := h2 e he hb
        rw [hon, getD_of hu] at this
        cases this
    exact ⟨⟨by rw [key j hjk]; exact h1, o, by rw [hops j hjk]; exact ho, fun e he hb => by rw [key e.on (by have := (inParts_low hp ho hjk).1 e he; omega)]; exact h2 e he hb⟩, hjk⟩
  · rintro ⟨⟨h1, o, ho, h2⟩, hjk⟩
    rw [hops j hjk] at ho
    exact ⟨by rw [← key j hjk]; exact h1, o, ho, fun e he hb => by rw [← key e.on (by have := (inParts_low hp ho hjk).1 e he; omega)]; exact h2 e he hb⟩

theorem Halves.some_ready {k : Nat} {listed listed1 : Array Bool} (h : Halves ops k listed listed1) (hp : inParts md ops k = true) (hops : ∀ j, j < k → ops1[j]? = ops[j]?) (hs1 : ops1.size = k) : ∀ (n i0 : Nat), i0 ≤ n → i0 < k → listed[i0]? = some false → ∃ j, j ∈ Region.ready md ops1 listed1 := by
  intro n
  induction n with
  | zero =>
    intro i0 hn hk hu
    obtain rfl : i0 = 0 := by omega
    have ho : ops1[0]? = some ops1[0] := Array.getElem?_eq_getElem (by omega)
    refine ⟨0, mem_ready.2 ⟨getD_of (by rw [h.same 0 hk]; exact hu), _, ho, fun e he _ => ?_⟩⟩
    have := (inParts_low hp (by rw [← hops 0 hk]; exact ho) hk).1 e he
    omega
  | succ n ih =>
    intro i0 hn hk hu
    by_cases hex : ∃ i, i < i0 ∧ listed[i]? = some false
    · obtain ⟨i, hi, hiu⟩ := hex
      exact ih i (by omega) (by omega) hiu
    · have ho : ops1[i0]? = some ops1[i0] := Array.getElem?_eq_getElem (by omega)
      refine ⟨i0, mem_ready.2 ⟨getD_of (by rw [h.same i0 hk]; exact hu), _, ho, fun e he _ => ?_⟩⟩
      have hlt := (inParts_low hp (by rw [← hops i0 hk]; exact ho) hk).1 e he
      have hsz : e.on < listed1.size := by rw [h.size1]; omega
      cases hb : listed1[e.on] with
      | true => simp [hsz, hb]
      | false => exact absurd ⟨e.on, hlt, by rw [← h.same e.on (by omega), Array.getElem?_eq_getElem hsz, hb]⟩ hex

/-- The first k have come up. -/
def marks (k n : Nat) : Array Bool := (List.replicate k true ++ List.replicate (n - k) false).toArray

theorem Halves.all {k : Nat} {listed listed1 : Array Bool} (h : Halves ops k listed listed1) (hk : k ≤ ops.size) (hall : ¬ ∃ i, i < k ∧ listed[i]? = some false) : listed = marks k ops.size := by
  apply Array.ext
  · simp [marks, h.size]; omega
  · intro i h1 h2
    have hm : (marks k ops.size)[i] = decide (i < k) := by
      simp only [marks, List.getElem_toArray]
      by_cases hi : i < k
      · rw [List.getElem_append_left (by simpa using hi)]; simp [hi]
      · rw [List.getElem_append_right (by simpa using hi)]; simp [hi]
    rw [hm]
    by_cases hi : i < k
    · cases hb : listed[i] with
      | true => simp [hi]
      | false => exact absurd ⟨i, hi, by rw [Array.getElem?_eq_getElem h1, hb]⟩ hall
    · have := h.late i (by omega) (by rw [← h.size]; exact h1)
      rw [Array.getElem?_eq_getElem h1] at this
      rw [Option.some.inj this]
      simp [hi]

theorem wpAny_parts {k m : Nat} (hp : inParts md ops k = true) (hops : ∀ j, j < k → ops1[j]? = ops[j]?) (hs1 : ops1.size = k) (hk : k ≤ ops.size) : ∀ (n : Nat) (listed listed1 : Array Bool) (a : Act) (w : World), Halves ops k listed listed1 →
    wpAny P md ops1 (upto (fun a w => wpAny P md ops Q m (marks k ops.size) a w) Q) n listed1 a w → wpAny P md ops Q (n + m) listed a w := by
  intro n
  induction n with
  | zero =>
    intro listed listed1 a w H h
    rw [Nat.zero_add]
    have hall : ¬ ∃ i, i < k ∧ listed[i]? = some false := by
      rintro ⟨i, hi, hu⟩
      obtain ⟨j, hj⟩ := H.some_ready hp hops hs1 i i (Nat.le_refl _) hi hu
      rw [h.1] at hj
      cases hj
    rw [H.all hk hall]
    exact h.2
  | succ n ih =>
    intro listed listed1 a w H h
    by_cases hex : ∃ i, i < k ∧ listed[i]? = some false
    · obtain ⟨i0, hi0, hu⟩ := hex
      rw [Nat.succ_add]
      refine ⟨fun hr => ?_, fun i hi => ?_⟩
      · obtain ⟨j, hj⟩ := H.some_ready hp hops hs1 i0 i0 (Nat.le_refl _) hi0 hu
        have hjk : j < k := by
          obtain ⟨_, o, ho, _⟩ := mem_ready.1 hj
          rw [← hs1]
          exact (Array.getElem?_eq_some_iff.1 ho).1
        have := (H.ready hp hops hs1 hi0 hu j).2 ⟨hj, hjk⟩
        rw [hr] at this
        cases this
      · obtain ⟨hi1, hik⟩ := (H.ready hp hops hs1 hi0 hu i).1 hi
        exact wpOp_part hp hops hik (fun a' w' h' => ih _ _ a' w' (H.put hik) h') (h.2 i hi1)
    · have hr : Region.ready md ops1 listed1 = [] := by
        cases hrr : Region.ready md ops1 listed1 with
        | nil => rfl
        | cons j js =>
          have hj : j ∈ Region.ready md ops1 listed1 := by rw [hrr]; exact List.mem_cons_self
          obtain ⟨hd, o, ho, _⟩ := mem_ready.1 hj
          have hjk : j < k := by
            rw [← hs1]
            exact (Array.getElem?_eq_some_iff.1 ho).1
          refine absurd ⟨j, hjk, ?_⟩ hex
          rw [← H.same j hjk]
          have hsz : j < listed1.size := by rw [H.size1]; exact hjk
          rw [Array.getElem?_eq_getElem hsz]
          simp [hsz] at hd
          rw [hd]
      have h2 := h.1 hr
      rw [H.all hk hex]
      exact wpAny_more' h2

/-- **The beginning**: the first part as a region of its own; what it ends in is the rest of the region. -/
theorem wp_region_parts {S : World → Prop} {id : Nat} {a : Act} {w : World} (k m : Nat) (l1 : List Oper) (hm : P.follows .mixedOrders = true) (hp : inParts .any ops k = true) (hs : ops.size = k + m) (h1 : ops.toList.take k = l1) (hS : S w.drew)
    (h : S w.drew → wpAnyH P .any l1.toArray (upto (fun a w => wpAny P .any ops Q m (marks k (k + m)) a w) Q) S k (Array.replicate k false) a w.drew) : (Code.region id ops true).wp P Q a w := by
  refine wp_region_any hm ?_
  have hs1 : l1.toArray.size = k := by rw [← h1, List.size_toArray, List.length_take, Array.length_toList]; omega
  have hops : ∀ j, j < k → l1.toArray[j]? = ops[j]? := fun j hj => by
    rw [← Array.getElem?_toList, ← Array.getElem?_toList, ← h1, List.toList_toArray, List.getElem?_take]
    simp [hj]
  have h2 := wpAny_of_held _ _ _ _ (h hS)
  rw [← hs] at h2
  have H : Halves ops k (Array.replicate ops.size false) (Array.replicate k false) := by
    refine ⟨by simp, by simp, fun j hj => ?_, fun j _ hj => ?_⟩
    · rw [Array.getElem?_replicate, Array.getElem?_replicate]
      simp [hj, show j < ops.size by omega]
    · rw [Array.getElem?_replicate]
      simp [hj]
  have := wpAny_parts hp hops hs1 (by omega) k _ _ a _ H h2
  rw [← hs] at this
  exact this
end
end Go.Proofs.YthmpimjmajoimaaGreatDoor

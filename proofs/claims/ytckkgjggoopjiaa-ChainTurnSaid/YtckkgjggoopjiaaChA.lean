/-
  Heads in memory, as rows of four cells; the law's heads; the document's chain; the landed chain's contract.
-/
import Derived.Test.YtckkgjggoopjiaaChMath
import Derived.Test.YtckkgjggoopjiaaRowK
import Derived.Test.YtckkgjggoopjiaaSameI
import Derived.Test.YtckkgjggoopjiaaCutR
import Derived.Laws.StructEq
import Derived.IntWalk
namespace Go.Proofs.Ytckkgjggoopjiaa
open Go.RowKit

/-- A head's cells, as a value. -/
def hC (h : HdS) : List Value := [.int .u8 h.k, .int .u32 h.s, .int .u32 h.i, .int .u32 h.q]
def hsC (L : List HdS) : List Value := L.flatMap hC
theorem hsC_len (L : List HdS) : (hsC L).length = L.length * 4 := fk_len hC 4 (fun _ => rfl) L
theorem hsC_at {L : List HdS} {i : Nat} (h : i < L.length) : (hsC L)[i * 4]? = some (.int .u8 L[i].k) ∧ (hsC L)[i * 4 + 1]? = some (.int .u32 L[i].s) ∧ (hsC L)[i * 4 + 2]? = some (.int .u32 L[i].i) ∧ (hsC L)[i * 4 + 3]? = some (.int .u32 L[i].q) := ⟨fk_get hC 4 (fun _ => rfl) L i 0 h (by omega), fk_get hC 4 (fun _ => rfl) L i 1 h (by omega), fk_get hC 4 (fun _ => rfl) L i 2 h (by omega), fk_get hC 4 (fun _ => rfl) L i 3 h (by omega)⟩
theorem hsC_one (L : List HdS) : ∀ u ∈ hsC L, u.oneCell' = true := by
  intro u hu
  obtain ⟨e, _, he⟩ := List.mem_flatMap.1 hu
  simp only [hC, List.mem_cons, List.not_mem_nil, or_false] at he
  rcases he with rfl | rfl | rfl | rfl <;> rfl
theorem hsC_app (A B : List HdS) : hsC (A ++ B) = hsC A ++ hsC B := by simp [hsC]
theorem hsC_take (L : List HdS) (k : Nat) : (hsC L).take (k * 4) = hsC (L.take k) := by
  induction L generalizing k with
  | nil => simp [hsC]
  | cons z L ih =>
    cases k with
    | zero => simp [hsC]
    | succ k =>
      rw [List.take_succ_cons, show (k + 1) * 4 = k * 4 + 1 + 1 + 1 + 1 by omega]
      show (hC z ++ hsC L).take (k * 4 + 1 + 1 + 1 + 1) = hC z ++ hsC (L.take k)
      rw [← ih k]
      rfl
theorem hsC_drop (L : List HdS) (k : Nat) : (hsC L).drop (k * 4) = hsC (L.drop k) := by
  induction L generalizing k with
  | nil => simp [hsC]
  | cons z L ih =>
    cases k with
    | zero => simp [hsC]
    | succ k =>
      rw [List.drop_succ_cons, show (k + 1) * 4 = k * 4 + 1 + 1 + 1 + 1 by omega]
      show (hC z ++ hsC L).drop (k * 4 + 1 + 1 + 1 + 1) = hsC (L.drop k)
      rw [← ih k]
      rfl
theorem h_cells {w : World} {b o : Nat} {L : List HdS} (h : ∀ i (h : i < (hsC L).length), w.cell? ⟨b, o + i, none⟩ = some (hsC L)[i]) (k : Nat) (hk : k < L.length) : w.cell? ⟨b, o + k * 4, none⟩ = some (.int .u8 L[k].k) ∧ w.cell? ⟨b, o + k * 4 + 1, none⟩ = some (.int .u32 L[k].s) ∧ w.cell? ⟨b, o + k * 4 + 2, none⟩ = some (.int .u32 L[k].i) ∧ w.cell? ⟨b, o + k * 4 + 3, none⟩ = some (.int .u32 L[k].q) := by
  obtain ⟨h0, h1, h2, h3⟩ := hsC_at hk
  obtain ⟨l0, e0⟩ := List.getElem?_eq_some_iff.1 h0
  obtain ⟨l1, e1⟩ := List.getElem?_eq_some_iff.1 h1
  obtain ⟨l2, e2⟩ := List.getElem?_eq_some_iff.1 h2
  obtain ⟨l3, e3⟩ := List.getElem?_eq_some_iff.1 h3
  rw [h _ l0, e0, Nat.add_assoc, h _ l1, e1, Nat.add_assoc, h _ l2, e2, Nat.add_assoc, h _ l3, e3]
  exact ⟨rfl, rfl, rfl, rfl⟩
theorem cnInfo : (Try.prog.info? 34).map (fun i => (i.zero, i.size, i.bytes)) = some (some (.agg #[.int .u8 0, .int .u32 0, .int .u32 0, .int .u32 0]), 4, 16) := by kernel_rfl
theorem i_cellN {w : World} {b o : Nat} {l : List Nat} (h : ∀ i (h : i < (iCells (nats l)).length), w.cell? ⟨b, o + i, none⟩ = some (iCells (nats l))[i]) (k : Nat) (hk : k < l.length) : w.cell? ⟨b, o + k, none⟩ = some (.int .i64 (l[k] : Int)) := by
  rw [h k (by rw [iCells_len, nats_len]; exact hk)]
  simp [iCells, nats]
/-- Seqs are numbers of 32 bits. -/
def SeqOk (L : List HdS) : Prop := ∀ h ∈ L, 0 ≤ h.q ∧ h.q < 4294967296
/-- A row of heads, of places, of the call's own. -/
def HsIs (T : TypeId) (l : List HdS) (w : World) (r : Ending) (w' : World) : Prop := ∃ v, r = .returned v ∧ OwnK w' w.heap.size T 4 v l.length (hsC l) ∧ Below w.heap.size w w'
def PlsIs (c : List Nat) (w : World) (r : Ending) (w' : World) : Prop := ∃ A k, r = .returned (.slice A c.length k) ∧ RdV w' w'.heap.size A (iCells (nats c)) ∧ c.length ≤ k ∧ (A = none → k = 0) ∧ Below w.heap.size w w'
/-- The landed chain's contract. -/
structure COps : Prop where
  of : ∀ {w : World} {A : Option Addr} {n c : Nat} (s q : Int) (l : List HdS), l.length = n → RdV w w.heap.size A (hsC l) → n ≤ c → (A = none → c = 0) → n ≤ 400 → SeqOk l → 0 ≤ q → q < 4294967296 → Calls Try.prog 9 #[.int .u32 s, .int .u32 q, .slice A n c] w (PlsIs (HdS.chL s q l) w)
theorem hit_no1 {s q : Int} {h : HdS} (h1 : h.k ≠ 1) (h2 : h.k ≠ 2) : HdS.hit s q h = false := by
  cases e : HdS.hit s q h with
  | false => rfl
  | true =>
    have := (HdS.hit_iff.1 e).1.2
    omega
theorem hit_no2 {s q : Int} {h : HdS} (h1 : h.s ≠ s) : HdS.hit s q h = false := by
  cases e : HdS.hit s q h with
  | false => rfl
  | true => exact absurd (HdS.hit_iff.1 e).1.1 h1
theorem hit_no3 {s q : Int} {h : HdS} (h1 : h.q ≠ q) : HdS.hit s q h = false := by
  cases e : HdS.hit s q h with
  | false => rfl
  | true => exact absurd (HdS.hit_iff.1 e).2 h1
theorem no_step {s q : Int} {l : List HdS} {i : Nat} (hi : i < l.length) (h : ∀ j (_ : j < i) (hj : j < l.length), HdS.hit s q l[j] = false) (h1 : HdS.hit s q l[i] = false) : ∀ j (_ : j < i + 1) (hj : j < l.length), HdS.hit s q l[j] = false := by
  intro j h2 hj
  by_cases e : j = i
  · subst e
    exact h1
  · exact h j (by omega) hj
/-- What find answers: a place, or none. -/
def plV (o : Option Nat) : Int := match o with
  | some i => (i : Int)
  | none => -1
theorem find_here {s q : Int} {l : List HdS} {i : Nat} (hi : i < l.length) (h : ∀ j (_ : j < i) (hj : j < l.length), HdS.hit s q l[j] = false) (h1 : HdS.hit s q l[i] = true) : plV (HdS.findL s q l) = (i : Int) := by
  have e : HdS.findL s q l = some i := by
    unfold HdS.findL
    exact List.findIdx?_eq_some_iff_getElem.2 ⟨hi, h1, fun j hj => by simpa using h j hj (by omega)⟩
  rw [e]
  rfl
theorem find_nowhere {s q : Int} {l : List HdS} (h : ∀ j (_ : j < l.length) (hj : j < l.length), HdS.hit s q l[j] = false) : plV (HdS.findL s q l) = -1 := by
  have e : HdS.findL s q l = none := HdS.find_none.2 (fun x hx => by
    obtain ⟨j, hj, rfl⟩ := List.getElem_of_mem hx
    exact h j hj hj)
  rw [e]
  rfl
set_option maxHeartbeats 1000000 in
set_option maxRecDepth 100000 in
theorem rnfind_at {w : World} {A : Option Addr} {n c : Nat} (s q : Int) (l : List HdS) (hl : l.length = n) (hr : RdV w w.heap.size A (hsC l)) (hn : n ≤ 1000) : Calls Try.prog 13 #[.int .u32 s, .int .u32 q, .slice A n c] w (IntIs (plV (HdS.findL s q l)) w) := by
  have HR := Lib.hid hr
  have HN := Lib.hid hl
  clear hr hl
  go_enter Try.func13, Try.ntmps13
  go_wp2_with fail
  obtain ⟨wo, rfl⟩ : ∃ wo : World, wo = w := ⟨_, rfl⟩
  go_loopg [7] n (fun g y wr => ∃ i : Nat, i ≤ n ∧ g = n - i ∧ y = .int .i64 (i : Int) ∧ (∀ j (_ : j < i) (hj : j < l.length), HdS.hit s q l[j] = false) ∧ wr = wo)
  case atStart => exact ⟨0, by omega, by omega, rfl, fun j h => by omega, rfl⟩
  case round =>
    obtain ⟨i, hi, hq, rfl, hno, rfl⟩ := hrel
    have HQ := Lib.hid hq
    have HNO := Lib.hid hno
    clear hq hno
    by_cases hlt : i < n
    · have hil : i < l.length := by rw [HN.out]; exact hlt
      obtain ⟨b, o, rfl, hbl, hcell⟩ := HR.out (by rw [hsC_len, HN.out]; omega)
      obtain ⟨c0, c1, c2, c3⟩ := h_cells hcell i hil
      have HST := Lib.hid (fun h => no_step hil HNO.out h)
      have HFI := Lib.hid (fun h => find_here hil HNO.out h)
      obtain ⟨e, he⟩ : ∃ e, l[i] = e := ⟨_, rfl⟩
      rw [he] at c0 c1 c2 c3 HST HFI
      clear hcell he hil
      by_cases hs : e.s = s
      · by_cases hqq : e.q = q
        · by_cases h1 : e.k = 1
          · have HE := Lib.hid (HFI.out (HdS.hit_iff.2 ⟨⟨hs, .inl h1⟩, hqq⟩))
            rw [h1] at c0
            rw [hs] at c1
            rw [hqq] at c3
            have q1 : (s == s) = true := by simp
            have q2 : (q == q) = true := by simp
            clear hs hqq h1
            go_wp2_with fail
            go_ret
            exact ⟨ret_int HE.out.symm, rfl⟩
          · by_cases h2 : e.k = 2
            · have HE := Lib.hid (HFI.out (HdS.hit_iff.2 ⟨⟨hs, .inr h2⟩, hqq⟩))
              rw [h2] at c0
              rw [hs] at c1
              rw [hqq] at c3
              have q1 : (s == s) = true := by simp
              have q2 : (q == q) = true := by simp
              clear hs hqq h1 h2
              go_wp2_with fail
              go_ret
              exact ⟨ret_int HE.out.symm, rfl⟩
            · have HE := Lib.hid (HST.out (hit_no1 h1 h2))
              have q1 : (e.k == 1) = false := by simpa using h1
              have q2 : (e.k == 2) = false := by simpa using h2
              clear hs hqq h1 h2
              go_wp2_with fail
              go_roundg (n - (i + 1))
              case rel => exact ⟨i + 1, by omega, rfl, by go_num, HE.out, rfl⟩
              case measure => have := HQ.out; omega
        · have HE := Lib.hid (HST.out (hit_no3 hqq))
          have q3 : (e.q == q) = false := by simpa using hqq
          have q4 : (e.s == s) = true := by simpa using hs
          clear hs hqq
          by_cases h1 : e.k = 1
          · have q1 : (e.k == 1) = true := by simpa using h1
            clear h1
            go_wp2_with fail
            go_roundg (n - (i + 1))
            case rel => exact ⟨i + 1, by omega, rfl, by go_num, HE.out, rfl⟩
            case measure => have := HQ.out; omega
          · have q1 : (e.k == 1) = false := by simpa using h1
            clear h1
            by_cases h2 : e.k = 2
            · have q2 : (e.k == 2) = true := by simpa using h2
              clear h2
              go_wp2_with fail
              go_roundg (n - (i + 1))
              case rel => exact ⟨i + 1, by omega, rfl, by go_num, HE.out, rfl⟩
              case measure => have := HQ.out; omega
            · have q2 : (e.k == 2) = false := by simpa using h2
              clear h2
              go_wp2_with fail
              go_roundg (n - (i + 1))
              case rel => exact ⟨i + 1, by omega, rfl, by go_num, HE.out, rfl⟩
              case measure => have := HQ.out; omega
      · have HE := Lib.hid (HST.out (hit_no2 hs))
        have q4 : (e.s == s) = false := by simpa using hs
        clear hs
        by_cases h1 : e.k = 1
        · have q1 : (e.k == 1) = true := by simpa using h1
          clear h1
          go_wp2_with fail
          go_roundg (n - (i + 1))
          case rel => exact ⟨i + 1, by omega, rfl, by go_num, HE.out, rfl⟩
          case measure => have := HQ.out; omega
        · have q1 : (e.k == 1) = false := by simpa using h1
          clear h1
          by_cases h2 : e.k = 2
          · have q2 : (e.k == 2) = true := by simpa using h2
            clear h2
            go_wp2_with fail
            go_roundg (n - (i + 1))
            case rel => exact ⟨i + 1, by omega, rfl, by go_num, HE.out, rfl⟩
            case measure => have := HQ.out; omega
          · have q2 : (e.k == 2) = false := by simpa using h2
            clear h2
            go_wp2_with fail
            go_roundg (n - (i + 1))
            case rel => exact ⟨i + 1, by omega, rfl, by go_num, HE.out, rfl⟩
            case measure => have := HQ.out; omega
    · obtain rfl : i = n := by omega
      have HE := Lib.hid (find_nowhere (s := s) (q := q) (l := l) (fun j h1 hj => HNO.out j (by rw [← HN.out]; exact h1) hj))
      go_wp2_with fail
      go_ret
      exact ⟨ret_int HE.out.symm, rfl⟩
end Go.Proofs.Ytckkgjggoopjiaa

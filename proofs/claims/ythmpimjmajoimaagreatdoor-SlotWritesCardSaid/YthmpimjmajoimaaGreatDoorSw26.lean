/-
  A range over a function that may be left: the iterator says which element comes when, and what lies in memory then; a round goes on, or leaves by a return. For whatever program.
  What sum.parts, whole and Join answer; the word Rd (a slice that reads as bytes); the document's Of.
  What the closure of sum.Add does.
  What sum.Add and sum.Of answer.
  Bytes in memory: a call's own rows, appends; an ending that answers true. For whatever program that has bytes.
  Small functions of pages: Right, parts, total, the document's Right, four, back and Same; bytes.Clone.
  head.lay, in whatever row of bytes.
  head.take, out of whatever bytes, into fields of whatever block.
-/
import Derived.Test.YthmpimjmajoimaaGreatDoorSw25
import Derived.Test.YthmpimjmajoimaaGreatDoorSw17
import Derived.Test.YthmpimjmajoimaaGreatDoorSw02
import Derived.Test.YthmpimjmajoimaaGreatDoorChecked
import Derived.Test.YthmpimjmajoimaaGreatDoorSw01
import Derived.WalkKit
import Derived.WalkLawsBesides
import Derived.Below
import Derived.Outline
import Derived.Lib.Hide
import Derived.Deep.LoopGhost
import Derived.Laws.BitsAllLaws
import Derived.Laws.Shifts
import Derived.OneCell
import Derived.RegionTactic
import Derived.Laws.AppendOwnNone
import Derived.Laws.OwnMore
import Derived.Laws.MakeOwn
import Derived.OwnWalk
import Derived.Deep.AppendLies
import Derived.Test.YthmpimjmajoimaaGreatDoorSw15
namespace Go.Proofs.YthmpimjmajoimaaGreatDoor
open Go.RowKit

/-- What an iterator promises: x comes behind pre only where G pre x; a round goes on or leaves; behind all rounds S of what has come. -/
def SeqSeenS {α : Type} (F : Fence) (n : Nat) (P : Program) (g : Nat) (lb : Array Value) (encs : α → Array Value) (Kp : World → World → Prop) (G : List α → α → World → Prop) (S : List α → Prop) (w : World) : Prop :=
  ∀ (l : Nat) (J Jx : List α → World → Prop) (W : World), Below w.heap.size w W → OwnFrom W.heap.size J → OwnFrom W.heap.size Jx →
    (∀ pre x W1, J pre W1 → G pre x W1 → YieldAt F (n - 1) P l (encs x) W1 fun e W' => (e = .returned (.bool true) ∧ J (pre ++ [x]) W' ∧ Kp W1 W') ∨ (e = .returned (.bool false) ∧ Jx (pre ++ [x]) W')) → J [] W →
    CallsIn F n P g (#[.func (.yield l) #[] #[]] ++ lb) W fun e W' => (∃ v, e = .returned v) ∧ ((∃ xs, S xs ∧ J xs W') ∨ ∃ xs, Jx xs W')
variable {F : Fence} {n : Nat} {P : Program}
/-- The record of such a loop. -/
def recS (fn : FuncId) (t : Array Value) (ps : Array Tmp) (assign body : Code) (D : Nat) (st : LoopState) (pe : Option Code) : Loop := { state := st, pending := pe, fn := fn, tmps := t, params := ps, assign := assign, body := body, defers := D }
/-- How a round may be left. -/
def outS {α : Type} (B : Nat) (Kp : World → World → Prop) (I Ix : List α → World → Prop) (xs : List α) (W : World) (e : Exit) (W' : World) : Prop :=
  KeepsFrom B W W' ∧ ((e = .normal ∧ Kp W W' ∧ I xs W') ∨ (e = .ret ∧ Ix xs W'))
theorem range_seenS {α : Type} {g : Operand} {ps : Array Tmp} {assign body : Code} {Q : Exit → Act → World → Prop} {a : Act} {w : World}
    (hro : F.round = none) (h1 : 1 ≤ n) {gf : Nat} {lb : Array Value} (hg : a.eval g = .func (.func gf) #[] lb) (hFg : F.fn gf) (eg : ∀ args w, (callFunc gf args).run P w = .ok (.enter gf args) w)
    {encs : α → Array Value} {Kp : World → World → Prop} {G : List α → α → World → Prop} {S : List α → Prop} (hseq : SeqSeenS F (n - 1) P gf lb encs Kp G S w)
    (hKt : ∀ {A B C : World}, Kp A B → Kp B C → Kp A C) (hKb : ∀ (W : World) (l : Nat) (o o' : Obj), w.heap.size ≤ l → W.heap[l]? = some o → o.isCells = false → Kp W (W.putObj l o')) (hKw : ∀ A B : World, w.heap.size ≤ A.heap.size → Below A.heap.size A B → Kp A B)
    (hps : ∀ x, (encs x).size = ps.size) (I Ix : List α → World → Prop) (hI : OwnFrom w.heap.size I) (hIx : OwnFrom w.heap.size Ix) (h0 : I [] w) (Pa : List α → α → Act → World → Prop) (hPa : ∀ pre x a1, OwnFrom w.heap.size (fun (_ : Unit) W => Pa pre x a1 W))
    (hassign : ∀ (l : Nat) (pre : List α) (x : α) (W : World) (K : Act → World → Prop), I pre W → G pre x W → w.heap.size ≤ W.heap.size → (∀ a1 W', Below W.heap.size W W' → Pa pre x a1 W' → K a1 W') →
      assign.wpIn (F.inRound l) (n - 1 - 1) P (Exit.then K (fun _ _ _ => False)) { tmps := (ps.zip (encs x)).foldl (fun t (p, v) => t.setIfInBounds p v) a.tmps, defers := [] } W)
    (hbody : ∀ (l : Nat) (pre : List α) (x : α) (a1 : Act) (W : World), I pre W → Pa pre x a1 W → w.heap.size ≤ W.heap.size → body.wpIn (F.inRound l) (n - 1 - 1) P (fun e _ W' => outS w.heap.size Kp I Ix (pre ++ [x]) W e W') a1 W)
    (hdone : ∀ (D : Nat) (xs : List α) (W : World), w.heap.size ≤ D → S xs → I xs W → W.heap[D]? = some (.deferred (some [])) → Q .normal { a with defers := { target := .collected D, args := #[] } :: a.defers } W)
    (hstop : ∀ (D : Nat) (xs : List α) (W : World), w.heap.size ≤ D → Ix xs W → W.heap[D]? = some (.deferred (some [])) → (Code.ret).wpIn F n P Q { a with defers := { target := .collected D, args := #[] } :: a.defers } W) :
    (Code.rangeFunc g ps assign body).wpIn F n P Q a w := by
  refine wpIn_rangeFunc ?_
  intro fn hfn
  rw [hro]
  have hsz : (w.alloc (.deferred (some []))).heap.size = w.heap.size + 1 := World.size_alloc _ _
  obtain ⟨W1, hW1⟩ : ∃ W1, (w.alloc (.deferred (some []))).alloc (.loop (recS fn a.tmps ps assign body w.heap.size .ready none)) = W1 := ⟨_, rfl⟩
  have hL1 : W1.heap[w.heap.size + 1]? = some (.loop (recS fn a.tmps ps assign body w.heap.size .ready none)) := by
    have := World.alloc_heap_new (w.alloc (.deferred (some []))) (.loop (recS fn a.tmps ps assign body w.heap.size .ready none))
    rwa [hsz, hW1] at this
  have hD1 : W1.heap[w.heap.size]? = some (.deferred (some [])) := by
    rw [← hW1]
    exact (Below.heap_alloc _ _ _ (by rw [hsz]; omega)).trans (World.alloc_heap_new w _)
  have hI1 : I [] W1 := by
    rw [← hW1]
    exact hI.alloc _ (hI.alloc _ h0)
  have hb1 : Below w.heap.size w W1 := by
    rw [← hW1]
    exact ((Below.refl _ w).alloc (Nat.le_refl _) _).alloc (by rw [hsz]; omega) _
  have hs1 : W1.heap.size = w.heap.size + 2 := by
    rw [← hW1, World.size_alloc, hsz]
  refine ⟨w.heap.size + 1, [{ target := .collected w.heap.size, args := #[] }], W1, { target := .fn (.func gf) lb, args := #[.func (.yield (w.heap.size + 1)) #[] #[]] }, W1, gf,
    #[.func (.yield (w.heap.size + 1)) #[] #[]] ++ lb, W1, ?_, ?_, ?_, ?_, fun _ => h1, ?_⟩
  · rw [← hW1]
    exact run_enterLoop_outer _ _ _ _ _
  · simp only [resolve, hg]
    simp [go_sem]
  · intro f' hf'
    simp [Target.leads] at hf'
    subst hf'
    exact hFg
  · simp [invoke, go_sem, eg]
  · have hJ : ∀ (st : LoopState) (pe : Option Code) (I : List α → World → Prop), OwnFrom w.heap.size I → OwnFrom W1.heap.size (fun pre W => I pre W ∧ W.heap[w.heap.size + 1]? = some (.loop (recS fn a.tmps ps assign body w.heap.size st pe)) ∧ W.heap[w.heap.size]? = some (.deferred (some []))) := by
      intro st pe I hI s A B row hs hgr hrow
      refine ⟨hI s A B row hs.1 hgr (fun r e => ⟨by have := (hrow r e).1; omega, (hrow r e).2⟩), ?_, ?_⟩
      · exact (hgr.block _ (Array.getElem?_eq_some_iff.1 hs.2.1).1 (fun e => by have := (hrow _ e.symm).1; omega)).trans hs.2.1
      · exact (hgr.block _ (Array.getElem?_eq_some_iff.1 hs.2.2).1 (fun e => by have := (hrow _ e.symm).1; omega)).trans hs.2.2
    refine (hseq (w.heap.size + 1) _ _ W1 hb1 (hJ .ready none I hI) (hJ .done (some .ret) Ix hIx) ?_ ⟨hI1, hL1, hD1⟩).mono ?_
    · rintro pre x W ⟨hi, hl, hd⟩ hG
      have hlt : w.heap.size + 1 < W.heap.size := (Array.getElem?_eq_some_iff.1 hl).1
      refine ⟨fn, _, assign, body, run_yield hl (hps x), roundIn_of_wpIn hfn (hassign _ pre x W _ hi hG (by omega) (fun a1 Wa hba hpa => ?_))⟩
      have hla := (hba.block _ hlt).trans hl
      have hda := (hba.block _ (by omega)).trans hd
      have hia := ownFrom_step hI hi hba
      have hka := hKw W Wa (by omega) hba
      have hza := hba.size
      refine ⟨_, run_beginRound hla rfl, ?_⟩
      obtain ⟨W2, hW2⟩ : ∃ W2, Wa.putObj (w.heap.size + 1) (.loop (recS fn a.tmps ps assign body w.heap.size .busy none)) = W2 := ⟨_, rfl⟩
      have hl2 : W2.heap[w.heap.size + 1]? = some (.loop (recS fn a.tmps ps assign body w.heap.size .busy none)) := by
        rw [← hW2]
        exact World.putObj_heap_same (by omega)
      have hd2 : W2.heap[w.heap.size]? = some (.deferred (some [])) := by
        rw [← hW2]
        exact (World.putObj_heap_other (by omega)).trans hda
      have hi2 : I pre W2 := by
        rw [← hW2]
        exact hI.putObj _ hia (by omega) hla rfl
      have hp2 : Pa pre x a1 W2 := by
        rw [← hW2]
        exact (hPa pre x a1).putObj (s := ()) _ hpa (by omega) hla rfl
      have hk2 : Kp Wa W2 := by
        rw [← hW2]
        exact hKb _ _ _ _ (by omega) hla rfl
      have hz2 : W2.heap.size = Wa.heap.size := by rw [← hW2]; simp
      show body.wpIn _ _ _ _ _ (Wa.putObj (w.heap.size + 1) (.loop (recS fn a.tmps ps assign body w.heap.size .busy none)))
      rw [hW2]
      refine wpIn_mono (hbody _ pre x a1 W2 hi2 hp2 (by omega)) ?_
      rintro e a3 W3 ⟨hko, ho⟩
      have hl3 := hko.same _ _ (by omega) hl2 rfl
      have hd3 := hko.same _ _ (Nat.le_refl _) hd2 rfl
      have hlt3 := (Array.getElem?_eq_some_iff.1 hl3).1
      rcases ho with ⟨rfl, hkp, hi3⟩ | ⟨rfl, hi3⟩
      · exact ⟨_, _, run_endRound none hl3, .inl ⟨rfl, ⟨hI.putObj _ hi3 (by omega) hl3 rfl, World.putObj_heap_same hlt3, (World.putObj_heap_other (by omega)).trans hd3⟩, hKt hka (hKt (hKt hk2 hkp) (hKb _ _ _ _ (by omega) hl3 rfl))⟩⟩
      · exact ⟨_, _, run_endRound (some .ret) hl3, .inr ⟨rfl, hIx.putObj _ hi3 (by omega) hl3 rfl, World.putObj_heap_same hlt3, (World.putObj_heap_other (by omega)).trans hd3⟩⟩
    · rintro e W2 ⟨⟨v, rfl⟩, ⟨xs, hs, hi, hl, hd⟩ | ⟨xs, hi, hl, hd⟩⟩
      · exact ⟨none, _, run_endLoop hl (by simp [recS]), hdone _ xs _ (Nat.le_refl _) hs (hI.putObj _ hi (by omega) hl rfl) ((World.putObj_heap_other (by omega)).trans hd)⟩
      · exact ⟨some .ret, _, run_endLoop hl (by simp [recS]), hstop _ xs _ (Nat.le_refl _) (hIx.putObj _ hi (by omega) hl rfl) ((World.putObj_heap_other (by omega)).trans hd)⟩
end Go.Proofs.YthmpimjmajoimaaGreatDoor
namespace Go.Proofs.YthmpimjmajoimaaGreatDoor
open Go.RowKit

end Go.Proofs.YthmpimjmajoimaaGreatDoor
namespace Go.Proofs.YthmpimjmajoimaaGreatDoor
open Go.RowKit

end Go.Proofs.YthmpimjmajoimaaGreatDoor
namespace Go.Proofs.YthmpimjmajoimaaGreatDoor
open Go.RowKit

end Go.Proofs.YthmpimjmajoimaaGreatDoor
namespace Go.Proofs.YthmpimjmajoimaaGreatDoor
open Go.RowKit

end Go.Proofs.YthmpimjmajoimaaGreatDoor
namespace Go.Proofs.YthmpimjmajoimaaGreatDoor
open Go.RowKit

def rightK (k : Int) : Bool := decide (1 ≤ k) && decide (k ≤ 5)
theorem hright_is (k s i q : Int) (w : World) : Calls Tryz.prog 124 #[.agg #[.int .u8 k, .int .u32 s, .int .u32 i, .int .u32 q]] w (BoolB (rightK k) w) := by
  have HB := Lib.hid (((Below.refl w.heap.size w).alloc (Nat.le_refl _) (.cells #[.int .u8 k, .int .u32 s, .int .u32 i, .int .u32 q] 159)))
  by_cases h1 : 1 ≤ k
  · have HR : Hid (rightK k = decide (k ≤ 5)) := Lib.hid (by simp [rightK, h1])
    go_enter Tryz.func124, Tryz.ntmps124
    go_wp2_with fail
    go_ret
    exact ⟨by rw [HR.out]; rfl, HB.out⟩
  · have HR : Hid (rightK k = false) := Lib.hid (by simp [rightK, h1])
    go_enter Tryz.func124, Tryz.ntmps124
    go_wp2_with fail
    go_ret
    exact ⟨by rw [HR.out]; rfl, HB.out⟩
theorem rright_isq1 (k s i q : Int) (w : World) : Calls Tryz.prog 84 #[.agg #[.int .u8 k, .int .u32 s, .int .u32 i, .int .u32 q]] w (BoolB (rightK k) w) := by
  have HB := Lib.hid (((Below.refl w.heap.size w).alloc (Nat.le_refl _) (.cells #[.int .u8 k, .int .u32 s, .int .u32 i, .int .u32 q] 97)))
  by_cases h1 : 1 ≤ k
  · have HR : Hid (rightK k = decide (k ≤ 5)) := Lib.hid (by simp [rightK, h1])
    go_enter Tryz.func84, Tryz.ntmps84
    go_wp2_with fail
    go_ret
    exact ⟨by rw [HR.out]; rfl, HB.out⟩
  · have HR : Hid (rightK k = false) := Lib.hid (by simp [rightK, h1])
    go_enter Tryz.func84, Tryz.ntmps84
    go_wp2_with fail
    go_ret
    exact ⟨by rw [HR.out]; rfl, HB.out⟩

theorem four_isq1 (n : Int) (w : World) (h0 : 0 ≤ n) (h1 : n ≤ 4294967295) : Calls Tryz.prog 85 #[.int .u32 n] w (FourIs n w) := by
  have H1 : Hid (n / 16777216 % 256 = n / 16777216) := Lib.hid (by omega)
  go_enter Tryz.func85, Tryz.ntmps85
  go_wp2_with fail
  go_ret
  exact ⟨rfl, by unfold fourObj; rw [H1.out]⟩
/-- The document's number of four bytes. -/
theorem rback_is (b o c : Nat) (x0 x1 x2 x3 : Int) (w : World) (h0 : w.cell? ⟨b, o, none⟩ = some (.int .u8 x0)) (h1 : w.cell? ⟨b, o + 1, none⟩ = some (.int .u8 x1)) (h2 : w.cell? ⟨b, o + 2, none⟩ = some (.int .u8 x2)) (h3 : w.cell? ⟨b, o + 3, none⟩ = some (.int .u8 x3))
    (a0 : 0 ≤ x0 ∧ x0 ≤ 255) (a1 : 0 ≤ x1 ∧ x1 ≤ 255) (a2 : 0 ≤ x2 ∧ x2 ≤ 255) (a3 : 0 ≤ x3 ∧ x3 ≤ 255) : Calls Tryz.prog 91 #[.slice (some ⟨b, o, none⟩) 4 c] w (NumB (back4 x0 x1 x2 x3) w) := by
  go_enter Tryz.func91, Tryz.ntmps91
  go_wp2_with fail
  go_region
  go_wp2_with fail
  go_ret
  exact ⟨ret_u32 (by unfold back4; omega), (Below.refl _ _).drew⟩

def PartsOf (b o : Nat) (w : World) (r : Ending) (w' : World) : Prop :=
  r = .returned (.tuple #[.slice (some ⟨b, o, none⟩) 13 13, .slice (some ⟨b, o + 13, none⟩) 4 4, .slice (some ⟨b, o + 17, none⟩) 16 16]) ∧ Below w.heap.size w w'
theorem hparts_is (b o c : Nat) (w : World) (hc : 33 ≤ c) : Calls Tryz.prog 125 #[.slice (some ⟨b, o, none⟩) 33 c] w (PartsOf b o w) := by
  go_enter Tryz.func125, Tryz.ntmps125
  go_wp2_with fail
  go_region
  go_wp2_with fail
  refine bodyPost_ret (v := .tuple #[.slice (some ⟨b, o, none⟩) 13 13, .slice (some ⟨b, o + 13, none⟩) 4 4, .slice (some ⟨b, o + 17, none⟩) 16 16]) (by simp [results, Tryz.results125, go_sem]) rfl ⟨rfl, (Below.refl _ _).drew⟩

theorem of_atq1 {A : Option Addr} {xs : List Int} {n c : Nat} {m : Int} {w : World} (hx : Byt xs) (hr : Rd w w.heap.size A xs) (hl : xs.length = n) (hc : n ≤ c) (hn : n ≤ 20000) (hm : sumN xs = m) :
    Calls Tryz.prog 116 #[.slice A n c] w (NumB m w) := by
  subst hl hm
  exact of_is A xs c w hx hr hc (by omega)
theorem add_at {A : Option Addr} {xs ys : List Int} {n c : Nat} {m k : Int} {w : World} (hy : Byt ys) (hr : Rd w w.heap.size A ys) (hl : ys.length = n) (hc : n ≤ c) (hn : n ≤ 20000) (hm : sumN xs = m) (hk : sumN (xs ++ ys) = k) :
    Calls Tryz.prog 132 #[.int .u32 m, .slice A n c] w (NumB k w) := by
  subst hl hm hk
  obtain ⟨a1, a2⟩ := aL_bd 1 xs
  obtain ⟨a3, a4⟩ := aH_bd 1 0 xs
  have := add_is A ys c (aL 1 xs) (aH 1 0 xs) w hy hr hc (by omega) a1 a2 a3 a4
  rw [sumN_add] at this
  exact this
theorem htotal_is {A A2 : Option Addr} {xs ys : List Int} {n n2 c c2 : Nat} {k : Int} {w : World} (hx : Byt xs) (hy : Byt ys) (hr : Rd w w.heap.size A xs) (hr2 : Rd w w.heap.size A2 ys) (hl : xs.length = n) (hl2 : ys.length = n2) (hc : n ≤ c) (hc2 : n2 ≤ c2) (hn : n ≤ 20000) (hn2 : n2 ≤ 20000)
    (hk : sumN (xs ++ ys) = k) : Calls Tryz.prog 127 #[.slice A n c, .slice A2 n2 c2] w (NumB k w) := by
  have HX := Lib.hid hx
  have HY := Lib.hid hy
  have HR := Lib.hid hr
  have HR2 := Lib.hid hr2
  have HL := Lib.hid hl
  have HL2 := Lib.hid hl2
  have HK := Lib.hid hk
  clear hx hy hr hr2 hl hl2 hk
  go_enter Tryz.func127, Tryz.ntmps127
  go_wp2_with fail
  refine (of_atq1 HX.out HR.out HL.out hc hn rfl).mono ?_
  rintro r w1 ⟨rfl, hb⟩
  have HB := Lib.hid hb
  clear hb
  go_wp2_with fail
  refine (add_at HY.out ((HR2.out.below HB.out).mono HB.out.size) HL2.out hc2 hn2 rfl HK.out).mono ?_
  rintro r w2 ⟨rfl, hb⟩
  have HB2 := Lib.hid (below_all HB.out hb)
  clear hb
  go_wp2_with fail
  go_ret
  exact ⟨rfl, HB2.out⟩

end Go.Proofs.YthmpimjmajoimaaGreatDoor
namespace Go.Proofs.YthmpimjmajoimaaGreatDoor
open Go.RowKit

def LayIsq1 (g o : Nat) (xs fl : List Int) (w : World) (r : Ending) (w' : World) : Prop := r = .returned (.tuple #[]) ∧ w.grownBy w' (some g) ∧ Blk8 w' g (putB xs o fl)
set_option maxHeartbeats 2000000 in
theorem lay_isq1 (g o n c vb c2 : Nat) (xs ns : List Int) (w : World) (hg : Blk8 w g xs) (hn : 4 * ns.length ≤ n) (ho : o + n ≤ xs.length) (hvb : vb ≠ g) (_hvl : vb < w.heap.size) (hv : ∀ j (h : j < ns.length), w.cell? ⟨vb, j, none⟩ = some (.int .u32 ns[j]))
    (hb : ∀ x ∈ ns, 0 ≤ x ∧ x ≤ 4294967295) (hm : ns.length ≤ 1000) (hnc : n ≤ 100000) : Calls Tryz.prog 126 #[.slice (some ⟨g, o, none⟩) n c, .slice (some ⟨vb, 0, none⟩) ns.length c2] w (LayIsq1 g o xs (flat ns) w) := by
  have HG := Lib.hid hg
  have HV := Lib.hid hv
  have HB := Lib.hid hb
  have HVB := Lib.hid hvb
  clear hg hv hb hvb
  go_enter Tryz.func126, Tryz.ntmps126
  go_wp2_with fail
  go_loopg [9] ns.length (fun k x wr => ∃ i : Nat, i ≤ ns.length ∧ k = ns.length - i ∧ x = .int .i64 i ∧ w.grownBy wr (some g) ∧ Blk8 wr g (putB xs o ((flat ns).take (4 * i))))
  case atStart => exact ⟨0, by omega, by omega, rfl, World.grownBy.refl _ _, by rw [Nat.mul_zero, List.take_zero, putB_nil]; exact HG.out⟩
  case round =>
    obtain ⟨i, hi, hk, rfl, hgr, hbl⟩ := hrel
    have HK := Lib.hid hk
    have HGR := Lib.hid hgr
    have HBL := Lib.hid hbl
    clear hk hgr hbl
    by_cases hlt : i < ns.length
    · have c0 : wr.cell? ⟨vb, i, none⟩ = some (.int .u32 ns[i]) := HGR.out.cell (HV.out i hlt) (fun e => HVB.out (Option.some.inj e))
      obtain ⟨n0, n1⟩ := HB.out _ (List.getElem_mem hlt)
      have HF := Lib.hid (flat_get ns i hlt)
      generalize ns[i] = x at *
      go_wp2_with fail
      obtain ⟨wo, rfl⟩ : ∃ wo : World, wo = wr := ⟨_, rfl⟩
      clear c0
      go_loopg [14] 4 (fun k y wr => ∃ j : Nat, j ≤ 4 ∧ k = 4 - j ∧ y = .int .i64 j ∧ w.grownBy wr (some g) ∧ Blk8 wr g (putB xs o ((flat ns).take (4 * i + j))))
      case atStart => exact ⟨0, by omega, by omega, rfl, HGR.out, HBL.out⟩
      case round =>
        clear HGR HBL
        obtain ⟨j, hj, hk, rfl, hgr, hbl⟩ := hrel
        have HK2 := Lib.hid hk
        have HGR := Lib.hid hgr
        have HBL := Lib.hid hbl
        clear hk hgr hbl
        by_cases hlt2 : j < 4
        · have hfl := flat_len ns
          have hj4 : j = 0 ∨ j = 1 ∨ j = 2 ∨ j = 3 := by omega
          clear hj hlt2
          rcases hj4 with rfl | rfl | rfl | rfl
          · obtain ⟨t, ht⟩ : ∃ t : Nat, (i : Int) * 4 = (t : Int) := ⟨4 * i + 0, by omega⟩
            have ht2 : t = 4 * i + 0 := by omega
            have f1 := Blk.free HBL.out (o + t)
            obtain ⟨old, f2⟩ : ∃ old, wr.cell? ⟨g, o + t, none⟩ = some old := ⟨_, Blk.cell HBL.out (o + t) (by rw [cells8_len, putB_len (by simp; omega)]; omega)⟩
            have HP : Hid (Blk8 (wr.setCell ⟨g, o + t, none⟩ (.int .u8 (x % 256))) g (putB xs o ((flat ns).take (4 * i + 0 + 1)))) := Lib.hid (by
              rw [← lay_step HF.out.1 (by omega), show o + 4 * i = o + t by omega]
              exact Blk8.put HBL.out (o + t) _)
            have htn : t < n := by omega
            clear hfl ht2
            go_wp2_with fail
            go_roundg (4 - (0 + 1))
            case rel => exact ⟨0 + 1, by omega, rfl, by go_num, grown_put HGR.out _ _, HP.out⟩
            case measure => have := HK2.out; omega
          · obtain ⟨t, ht⟩ : ∃ t : Nat, (i : Int) * 4 + 1 = (t : Int) := ⟨4 * i + 1, by omega⟩
            have ht2 : t = 4 * i + 1 := by omega
            have f1 := Blk.free HBL.out (o + t)
            obtain ⟨old, f2⟩ : ∃ old, wr.cell? ⟨g, o + t, none⟩ = some old := ⟨_, Blk.cell HBL.out (o + t) (by rw [cells8_len, putB_len (by simp; omega)]; omega)⟩
            have HP : Hid (Blk8 (wr.setCell ⟨g, o + t, none⟩ (.int .u8 (x / 256 % 256))) g (putB xs o ((flat ns).take (4 * i + 1 + 1)))) := Lib.hid (by
              rw [← lay_step HF.out.2.1 (by omega), show o + (4 * i + 1) = o + t by omega]
              exact Blk8.put HBL.out (o + t) _)
            have htn : t < n := by omega
            clear hfl ht2
            go_wp2_with fail
            go_roundg (4 - (1 + 1))
            case rel => exact ⟨1 + 1, by omega, rfl, by go_num, grown_put HGR.out _ _, HP.out⟩
            case measure => have := HK2.out; omega
          · obtain ⟨t, ht⟩ : ∃ t : Nat, (i : Int) * 4 + 2 = (t : Int) := ⟨4 * i + 2, by omega⟩
            have ht2 : t = 4 * i + 2 := by omega
            have f1 := Blk.free HBL.out (o + t)
            obtain ⟨old, f2⟩ : ∃ old, wr.cell? ⟨g, o + t, none⟩ = some old := ⟨_, Blk.cell HBL.out (o + t) (by rw [cells8_len, putB_len (by simp; omega)]; omega)⟩
            have HP : Hid (Blk8 (wr.setCell ⟨g, o + t, none⟩ (.int .u8 (x / 65536 % 256))) g (putB xs o ((flat ns).take (4 * i + 2 + 1)))) := Lib.hid (by
              rw [← lay_step HF.out.2.2.1 (by omega), show o + (4 * i + 2) = o + t by omega]
              exact Blk8.put HBL.out (o + t) _)
            have htn : t < n := by omega
            clear hfl ht2
            go_wp2_with fail
            go_roundg (4 - (2 + 1))
            case rel => exact ⟨2 + 1, by omega, rfl, by go_num, grown_put HGR.out _ _, HP.out⟩
            case measure => have := HK2.out; omega
          · obtain ⟨t, ht⟩ : ∃ t : Nat, (i : Int) * 4 + 3 = (t : Int) := ⟨4 * i + 3, by omega⟩
            have ht2 : t = 4 * i + 3 := by omega
            have f1 := Blk.free HBL.out (o + t)
            obtain ⟨old, f2⟩ : ∃ old, wr.cell? ⟨g, o + t, none⟩ = some old := ⟨_, Blk.cell HBL.out (o + t) (by rw [cells8_len, putB_len (by simp; omega)]; omega)⟩
            have HP : Hid (Blk8 (wr.setCell ⟨g, o + t, none⟩ (.int .u8 (x / 16777216))) g (putB xs o ((flat ns).take (4 * i + 3 + 1)))) := Lib.hid (by
              rw [← lay_step HF.out.2.2.2 (by omega), show x / 16777216 % 256 = x / 16777216 by omega, show o + (4 * i + 3) = o + t by omega]
              exact Blk8.put HBL.out (o + t) _)
            have htn : t < n := by omega
            clear hfl ht2
            go_wp2_with fail
            go_roundg (4 - (3 + 1))
            case rel => exact ⟨3 + 1, by omega, rfl, by go_num, grown_put HGR.out _ _, HP.out⟩
            case measure => have := HK2.out; omega
        · obtain rfl : j = 4 := by omega
          go_wp2_with fail
          go_roundg (ns.length - (i + 1))
          case rel => exact ⟨i + 1, by omega, rfl, by go_num, HGR.out, HBL.out⟩
          case measure => have := HK.out; omega
    · obtain rfl : i = ns.length := by omega
      go_wp2_with fail
      go_end0
      refine ⟨rfl, HGR.out, ?_⟩
      have := HBL.out
      rwa [List.take_of_length_le (by rw [flat_len]; omega)] at this
end Go.Proofs.YthmpimjmajoimaaGreatDoor
namespace Go.Proofs.YthmpimjmajoimaaGreatDoor
open Go.RowKit

theorem take_step {cs : List Value} {ns : List Int} {f i : Nat} (hi : i < ns.length) (h : f + ns.length ≤ cs.length) : (putB cs f (u32s (ns.take i))).set (f + i) (.int .u32 ns[i]) = putB cs f (u32s (ns.take (i + 1))) := by
  have e : (u32s (ns.take i)).length = i := by rw [u32s_len]; simp; omega
  have := putB_snoc (xs := cs) (ys := u32s (ns.take i)) (o := f) (.int .u32 ns[i]) (by omega)
  rw [e] at this
  rw [this, List.take_succ_eq_append_getElem hi]
  unfold u32s
  rw [List.map_append]
  rfl
theorem set_twice (cs : List Value) (k : Nat) (u v : Value) : (cs.set k u).set k v = cs.set k v := by simp

def TakeD (p f : Nat) (T : TypeId) (cs : List Value) (ns : List Int) (w : World) (r : Ending) (w' : World) : Prop := r = .returned (.tuple #[]) ∧ w.grownBy w' (some p) ∧ Blk w' p T (putB cs f (u32s ns))
set_option maxHeartbeats 4000000 in
theorem htake_is (b o n c vb c2 p f : Nat) (T : TypeId) (cs : List Value) (ns : List Int) (w : World) (hp : Blk w p T cs) (hf : f + ns.length ≤ cs.length) (hbp : b ≠ p) (hvp : vb ≠ p) (hn : 4 * ns.length ≤ n)
    (hv : ∀ j, j < ns.length → w.cell? ⟨vb, j, none⟩ = some (.pointer (some ⟨p, f + j, none⟩))) (h4 : ∀ j (h : j < ns.length), Four w b (o + 4 * j) ns[j]) (hm : ns.length ≤ 1000) (hnc : n ≤ 100000) (_hns : ns ≠ []) :
    Calls Tryz.prog 142 #[.slice (some ⟨b, o, none⟩) n c, .slice (some ⟨vb, 0, none⟩) ns.length c2] w (TakeD p f T cs ns w) := by
  have HP := Lib.hid hp
  have HV := Lib.hid hv
  have H4 := Lib.hid h4
  have HBP := Lib.hid hbp
  have HVP := Lib.hid hvp
  clear hp hv h4 hbp hvp
  go_enter Tryz.func142, Tryz.ntmps142
  go_wp2_with fail
  go_loopg [9] ns.length (fun k x wr => ∃ i : Nat, i ≤ ns.length ∧ k = ns.length - i ∧ x = .int .i64 i ∧ w.grownBy wr (some p) ∧ Blk wr p T (putB cs f (u32s (ns.take i))))
  case atStart => exact ⟨0, by omega, by omega, rfl, World.grownBy.refl _ _, by rw [List.take_zero]; show Blk w p T (putB cs f []); rw [putB_nil]; exact HP.out⟩
  case round =>
    obtain ⟨i, hi, hk, rfl, hgr, hbl⟩ := hrel
    have HK := Lib.hid hk
    have HGR := Lib.hid hgr
    have HBL := Lib.hid hbl
    clear hk hgr hbl
    by_cases hlt : i < ns.length
    · have c0 : wr.cell? ⟨vb, i, none⟩ = some (.pointer (some ⟨p, f + i, none⟩)) := HGR.out.cell (HV.out i hlt) (fun e => HVP.out (Option.some.inj e))
      have hlen : (putB cs f (u32s (ns.take i))).length = cs.length := putB_len (by rw [u32s_len]; simp; omega)
      have f1 := Blk.free HBL.out (f + i)
      obtain ⟨old, f2⟩ : ∃ old, wr.cell? ⟨p, f + i, none⟩ = some old := ⟨_, Blk.cell HBL.out (f + i) (by omega)⟩
      have HST := Lib.hid (take_step (cs := cs) (f := f) hlt hf)
      have HF := Lib.hid (H4.out i hlt)
      generalize ns[i] = x at *
      have HP0 : Hid (Blk (wr.setCell ⟨p, f + i, none⟩ (.int .u32 0)) p T ((putB cs f (u32s (ns.take i))).set (f + i) (.int .u32 0))) := Lib.hid (Blk.put HBL.out (f + i) _)
      have HG0 := Lib.hid (grown_put HGR.out (f + i) (.int .u32 0))
      have HL := Lib.hid hlen
      clear hlen
      go_wp2_with fail
      obtain ⟨wo, hwo⟩ : ∃ wo : World, wo = wr.setCell ⟨p, f + i, none⟩ (.int .u32 0) := ⟨_, rfl⟩
      rw [← hwo] at HP0 HG0 ⊢
      clear c0 f1 f2 HBL HGR hwo
      obtain ⟨x0, x1, x2, x3, hx, b0, b1, b2, b3, g0, g1, g2, g3⟩ := HF.out
      have HX := Lib.hid hx
      have HC := Lib.hid (And.intro g0 (And.intro g1 (And.intro g2 g3)))
      clear hx g0 g1 g2 g3 HF
      go_loopg [16] 4 (fun k y wr => ∃ j : Nat, j ≤ 4 ∧ k = 4 - j ∧ y = .int .i64 j ∧ w.grownBy wr (some p) ∧ Blk wr p T ((putB cs f (u32s (ns.take i))).set (f + i) (.int .u32 (part x0 x1 x2 x3 j))))
      case atStart => exact ⟨0, by omega, by omega, rfl, HG0.out, HP0.out⟩
      case round =>
        clear HP0 HG0
        obtain ⟨j, hj, hk, rfl, hgr, hbl⟩ := hrel
        have HK2 := Lib.hid hk
        have HGR := Lib.hid hgr
        have HBL := Lib.hid hbl
        clear hk hgr hbl
        by_cases hlt2 : j < 4
        · have f1 := Blk.free HBL.out (f + i)
          have f2 := Blk.cell HBL.out (f + i) (by rw [List.length_set, HL.out]; omega)
          rw [List.getElem_set_self] at f2
          have hj4 : j = 0 ∨ j = 1 ∨ j = 2 ∨ j = 3 := by omega
          clear hj hlt2
          rcases hj4 with rfl | rfl | rfl | rfl
          · obtain ⟨t, ht⟩ : ∃ t : Nat, (i : Int) * 4 = (t : Int) := ⟨4 * i + 0, by omega⟩
            have ht2 : o + t = o + 4 * i := by omega
            have c1 : wr.cell? ⟨b, o + t, none⟩ = some (.int .u8 x0) := by rw [ht2]; exact HGR.out.cell HC.out.1 (fun e => HBP.out (Option.some.inj e))
            have HA : Hid (bits .or .u32 (0) (x0) = part x0 x1 x2 x3 (0 + 1)) := Lib.hid (by have := or_part (a := 0) (x := x0) 0 (by omega) (by omega) b0.1 (by omega); simpa [part] using this)
            have HPP : Hid (Blk (wr.setCell ⟨p, f + i, none⟩ (.int .u32 (bits .or .u32 (0) (x0)))) p T ((putB cs f (u32s (ns.take i))).set (f + i) (.int .u32 (part x0 x1 x2 x3 (0 + 1))))) := Lib.hid (by
              rw [HA.out]
              have := Blk.put HBL.out (f + i) (.int .u32 (part x0 x1 x2 x3 (0 + 1)))
              rwa [set_twice] at this)
            have htn : t < n := by omega
            have f3 : wr.cell? ⟨p, f + i, none⟩ = some (.int .u32 (0)) := f2
            clear ht2 f2
            go_wp2_with fail
            go_region
            go_wp2_with fail
            go_roundg (4 - (0 + 1))
            case rel => exact ⟨0 + 1, by omega, rfl, by go_num, grown_drew (grown_put HGR.out _ _), HPP.out⟩
            case measure => have := HK2.out; omega
          · obtain ⟨t, ht⟩ : ∃ t : Nat, (i : Int) * 4 + 1 = (t : Int) := ⟨4 * i + 1, by omega⟩
            have ht2 : o + t = o + 4 * i + 1 := by omega
            have c1 : wr.cell? ⟨b, o + t, none⟩ = some (.int .u8 x1) := by rw [ht2]; exact HGR.out.cell HC.out.2.1 (fun e => HBP.out (Option.some.inj e))
            have HA : Hid (bits .or .u32 (x0) (x1 * 256) = part x0 x1 x2 x3 (1 + 1)) := Lib.hid (or_part (a := x0) (x := x1) 8 (by omega) (by omega) b1.1 (by omega))
            have HPP : Hid (Blk (wr.setCell ⟨p, f + i, none⟩ (.int .u32 (bits .or .u32 (x0) (x1 * 256)))) p T ((putB cs f (u32s (ns.take i))).set (f + i) (.int .u32 (part x0 x1 x2 x3 (1 + 1))))) := Lib.hid (by
              rw [HA.out]
              have := Blk.put HBL.out (f + i) (.int .u32 (part x0 x1 x2 x3 (1 + 1)))
              rwa [set_twice] at this)
            have htn : t < n := by omega
            have f3 : wr.cell? ⟨p, f + i, none⟩ = some (.int .u32 (x0)) := f2
            clear ht2 f2
            go_wp2_with fail
            go_region
            go_wp2_with fail
            go_roundg (4 - (1 + 1))
            case rel => exact ⟨1 + 1, by omega, rfl, by go_num, grown_drew (grown_put HGR.out _ _), HPP.out⟩
            case measure => have := HK2.out; omega
          · obtain ⟨t, ht⟩ : ∃ t : Nat, (i : Int) * 4 + 2 = (t : Int) := ⟨4 * i + 2, by omega⟩
            have ht2 : o + t = o + 4 * i + 2 := by omega
            have c1 : wr.cell? ⟨b, o + t, none⟩ = some (.int .u8 x2) := by rw [ht2]; exact HGR.out.cell HC.out.2.2.1 (fun e => HBP.out (Option.some.inj e))
            have HA : Hid (bits .or .u32 (x0 + x1 * 256) (x2 * 65536) = part x0 x1 x2 x3 (2 + 1)) := Lib.hid (or_part (a := x0 + x1 * 256) (x := x2) 16 (by omega) (by omega) b2.1 (by omega))
            have HPP : Hid (Blk (wr.setCell ⟨p, f + i, none⟩ (.int .u32 (bits .or .u32 (x0 + x1 * 256) (x2 * 65536)))) p T ((putB cs f (u32s (ns.take i))).set (f + i) (.int .u32 (part x0 x1 x2 x3 (2 + 1))))) := Lib.hid (by
              rw [HA.out]
              have := Blk.put HBL.out (f + i) (.int .u32 (part x0 x1 x2 x3 (2 + 1)))
              rwa [set_twice] at this)
            have htn : t < n := by omega
            have f3 : wr.cell? ⟨p, f + i, none⟩ = some (.int .u32 (x0 + x1 * 256)) := f2
            clear ht2 f2
            go_wp2_with fail
            go_region
            go_wp2_with fail
            go_roundg (4 - (2 + 1))
            case rel => exact ⟨2 + 1, by omega, rfl, by go_num, grown_drew (grown_put HGR.out _ _), HPP.out⟩
            case measure => have := HK2.out; omega
          · obtain ⟨t, ht⟩ : ∃ t : Nat, (i : Int) * 4 + 3 = (t : Int) := ⟨4 * i + 3, by omega⟩
            have ht2 : o + t = o + 4 * i + 3 := by omega
            have c1 : wr.cell? ⟨b, o + t, none⟩ = some (.int .u8 x3) := by rw [ht2]; exact HGR.out.cell HC.out.2.2.2 (fun e => HBP.out (Option.some.inj e))
            have HA : Hid (bits .or .u32 (x0 + x1 * 256 + x2 * 65536) (x3 * 16777216) = part x0 x1 x2 x3 (3 + 1)) := Lib.hid (or_part (a := x0 + x1 * 256 + x2 * 65536) (x := x3) 24 (by omega) (by omega) b3.1 (by omega))
            have HPP : Hid (Blk (wr.setCell ⟨p, f + i, none⟩ (.int .u32 (bits .or .u32 (x0 + x1 * 256 + x2 * 65536) (x3 * 16777216)))) p T ((putB cs f (u32s (ns.take i))).set (f + i) (.int .u32 (part x0 x1 x2 x3 (3 + 1))))) := Lib.hid (by
              rw [HA.out]
              have := Blk.put HBL.out (f + i) (.int .u32 (part x0 x1 x2 x3 (3 + 1)))
              rwa [set_twice] at this)
            have htn : t < n := by omega
            have f3 : wr.cell? ⟨p, f + i, none⟩ = some (.int .u32 (x0 + x1 * 256 + x2 * 65536)) := f2
            clear ht2 f2
            go_wp2_with fail
            go_region
            go_wp2_with fail
            go_roundg (4 - (3 + 1))
            case rel => exact ⟨3 + 1, by omega, rfl, by go_num, grown_drew (grown_put HGR.out _ _), HPP.out⟩
            case measure => have := HK2.out; omega
        · obtain rfl : j = 4 := by omega
          go_wp2_with fail
          go_roundg (ns.length - (i + 1))
          case rel => exact ⟨i + 1, by omega, rfl, by go_num, HGR.out, by
            rw [← HST.out, HX.out]
            have e : back4 x0 x1 x2 x3 = part x0 x1 x2 x3 4 := by unfold back4; show _ = x0 + x1 * 256 + x2 * 65536 + x3 * 16777216; omega
            rw [e]
            exact HBL.out⟩
          case measure => have := HK.out; omega
    · obtain rfl : i = ns.length := by omega
      go_wp2_with fail
      go_end0
      refine ⟨rfl, HGR.out, ?_⟩
      have := HBL.out
      rwa [List.take_length] at this
end Go.Proofs.YthmpimjmajoimaaGreatDoor

/-
  The cache in memory: Victim.
-/
import Derived.Test.YtmoagooabmmmgaaLcB
namespace Go.Proofs.Ytmoagooabmmmgaa
open Go.RowKit

def ceV (e : CE) : Value := .agg #[.int .i64 (e.b : Int), .int .u32 (e.a : Int), .bool e.d]
def vicF (S : CaS) : CE := S.vicE.getD ⟨0, 0, false⟩
def LVicIs (S : CaS) (w : World) (r : Ending) (w' : World) : Prop := r = .returned (.tuple #[ceV (vicF S), .bool S.vicE.isSome]) ∧ Below w.heap.size w w'
section
variable {w : World} {cb kb ib eb : Nat} {σ : Nat → Nat} {S : CaS}
set_option maxHeartbeats 1000000 in
theorem lcvictim_at (h : LcC w cb kb ib eb σ S) : Calls Try.prog 7 #[.pointer (some ⟨cb, 0, none⟩)] w (LVicIs S w) := by
  have hb0 : Below w.heap.size w (w.alloc (.cells #[.int .i64 0, .int .u32 0, .bool false] 33)) := (Below.refl _ _).alloc (Nat.le_refl _) _
  have HV := Lib.hid (lvictim_at (h.up hb0).k)
  have c0 := h.cells.1
  have hlt := h.lt
  cases hv : S.vicE with
  | none =>
    have hr : S.rk.vic = none := by rw [← CaS.vicE_vic h.wf, hv]; rfl
    have hm : (S.rk.map σ).vic = none := by rw [RkS.map_vic, hr]; rfl
    have hE : LVicIs S w (.returned (.tuple #[ceV ⟨0, 0, false⟩, .bool false])) (w.alloc (.cells #[.int .i64 0, .int .u32 0, .bool false] 33)) := ⟨by unfold vicF; rw [hv]; rfl, hb0⟩
    have HE := Lib.hid hE
    rw [show (S.rk.map σ).vicN = 0 by unfold RkS.vicN; rw [hm]; rfl, hm] at HV
    clear h hv hr hm hE hb0
    go_enter Try.func7, Try.ntmps7
    go_wp2_with fail
    refine HV.out.mono ?_
    rintro r w' ⟨rfl, rfl⟩
    go_wp2_with fail
    exact bodyPost_ret (v := .tuple #[.agg #[.int .i64 0, .int .u32 0, .bool false], .bool false]) (by simp [results, Try.results7, go_sem]) rfl HE.out
  | some e =>
    obtain ⟨he, ha, hh⟩ := CaS.vicE_mem hv
    have hr : S.rk.vic = some e.b := by rw [← CaS.vicE_vic h.wf, hv]; rfl
    have hm : (S.rk.map σ).vic = some (σ e.b) := by rw [RkS.map_vic, hr]; rfl
    have hE : ∀ w', Below w.heap.size w w' → LVicIs S w (.returned (.tuple #[ceV e, .bool true])) w' := fun w' hb => ⟨by unfold vicF; rw [hv]; rfl, hb⟩
    have HE := Lib.hid hE
    rw [show (S.rk.map σ).vicN = σ e.b by unfold RkS.vicN; rw [hm]; rfl, hm] at HV
    obtain ⟨hsl, e0, e1, e2⟩ := h.slot he
    have hel : eb < w.heap.size := by have := h.ne; omega
    have c2 := h.cells.2.2
    have hn64 := h.wf.n64
    obtain ⟨s, hs⟩ : ∃ s, σ e.b = s := ⟨_, rfl⟩
    obtain ⟨n, hn⟩ : ∃ n, S.n = n := ⟨_, rfl⟩
    obtain ⟨eb', heb⟩ : ∃ y, e.b = y := ⟨_, rfl⟩
    obtain ⟨ea', hea⟩ : ∃ y, e.a = y := ⟨_, rfl⟩
    obtain ⟨ed', hed⟩ : ∃ y, e.d = y := ⟨_, rfl⟩
    have hce : ceV e = .agg #[.int .i64 (eb' : Int), .int .u32 (ea' : Int), .bool ed'] := by unfold ceV; rw [heb, hea, hed]
    rw [hs] at HV hsl e0 e1 e2
    rw [hn] at hsl c2 hn64
    rw [heb] at e0
    rw [hea] at e1
    rw [hed] at e2
    rw [hce] at HE
    clear h hv hr hm hE hb0 ha hh he hce heb hea hed hs hn
    go_enter Try.func7, Try.ntmps7
    go_wp2_with fail
    refine HV.out.mono ?_
    rintro r w' ⟨rfl, rfl⟩
    go_wp2_with fail
    exact bodyPost_ret (v := .tuple #[.agg #[.int .i64 (eb' : Int), .int .u32 (ea' : Int), .bool ed'], .bool true]) (by simp [results, Try.results7, go_sem]) rfl (HE.out _ ((Below.refl _ _).alloc (Nat.le_refl _) _))
end
end Go.Proofs.Ytmoagooabmmmgaa

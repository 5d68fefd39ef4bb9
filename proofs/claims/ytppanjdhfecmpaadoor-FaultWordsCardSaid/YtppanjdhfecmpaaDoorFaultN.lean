/-
  platelayerref01.Place and platelayerref01.Trail of a fault of the document's.
-/
import Derived.Test.YtppanjdhfecmpaaDoorFaultK
import Derived.Deep.AppendLies
namespace Go.Proofs.YtppanjdhfecmpaaDoor
open Go.RowKit Go.Extern.Stop Go.Stop Go.Extern

def PlaceB (w : World) (x : Int × Bool) (r : Ending) (w' : World) : Prop := r = .returned (.tuple #[.int .i64 x.1, .bool x.2]) ∧ Below w.heap.size w w'

theorem placeOf_drop {op : ByteArray} {l : List (ByteArray × Int)} {j : Nat} (hj : j < l.length) : placeOf op (l.drop j) = if l[j].1.toList = op.toList then (l[j].2, true) else placeOf op (l.drop (j + 1)) := by
  rw [List.drop_eq_getElem_cons hj]
  rfl

set_option maxHeartbeats 1000000 in
theorem rplace_is {w : World} {e : Int} {A : Option Addr} {l : List (ByteArray × Int)} {c : Nat} (op : ByteArray) (hl : l.length ≤ 1000) (hs : Steps w w.heap.size A l) :
    Calls Tryd.prog 10 #[.agg #[.slice A l.length c, .int .i64 e], .string op] w (PlaceB w (placeOf op l)) := by
  have hba : Below w.heap.size w (w.alloc (.cells #[.slice A l.length c, .int .i64 e] 29)) := (Below.refl _ _).alloc (Nat.le_refl _) _
  have HS := Lib.hid (hs.below hba)
  have HB := Lib.hid hba
  clear hs hba
  go_enter Tryd.func10, Tryd.ntmps10
  go_wp2_with fail
  go_loopg [6] l.length (fun k i wr => w.alloc (.cells #[.slice A l.length c, .int .i64 e] 29) = wr ∧ ∃ j : Nat, j ≤ l.length ∧ k = l.length - j ∧ i = .int .i64 j ∧ placeOf op (l.drop j) = placeOf op l)
  case atStart => exact ⟨rfl, 0, by omega, by omega, rfl, rfl⟩
  case round =>
    obtain ⟨rfl, j, hj, hk, rfl, hp⟩ := hrel
    have HK := Lib.hid hk
    have HP := Lib.hid hp
    clear hk hp
    by_cases hlt : j < l.length
    · obtain ⟨b, o, rfl, hbl, hcell⟩ := HS.out (by omega)
      obtain ⟨g1, g2⟩ := hcell j hlt
      clear hcell
      have HD := Lib.hid (placeOf_drop (op := op) hlt)
      generalize hst : l[j] = st at *
      obtain ⟨o1, n1⟩ := st
      clear hst
      dsimp only at g1 g2
      by_cases hs : o1.toList = op.toList
      · have hs1 : (o1.toList == op.toList) = true := by simp [hs]
        have HQ := Lib.hid hs
        clear hs
        go_wp2
        go_ret2
        refine ⟨?_, HB.out⟩
        rw [← HP.out, HD.out, if_pos HQ.out]
        rfl
      · have hs1 : (o1.toList == op.toList) = false := by simp [hs]
        have HQ := Lib.hid hs
        clear hs
        go_wp2
        go_roundg (l.length - (j + 1))
        case rel => exact ⟨rfl, j + 1, by omega, rfl, by go_num, by rw [← HP.out, HD.out, if_neg HQ.out]⟩
        case measure => rw [HK.out]; omega
    · obtain rfl : j = l.length := by omega
      go_wp2
      go_ret2
      refine ⟨?_, HB.out⟩
      rw [← HP.out]
      simp [placeOf]

theorem ops_take (l : List (ByteArray × Int)) (j : Nat) (h : j < l.length) : ops (l.take (j + 1)) = ops (l.take j) ++ [l[j].1] := by
  unfold ops
  rw [List.take_succ_eq_append_getElem h, List.map_append]
  rfl

def RTrailAt (w : World) (l : List (ByteArray × Int)) (F : Value) (e : Int) (k : Nat) (v i : Value) (wr : World) : Prop :=
  ∃ j : Nat, j ≤ l.length ∧ k = l.length - j ∧ i = .int .i64 j ∧ wr.ownsRow (w.heap.size + 1) 9 1 v j ((ops (l.take j)).map Value.string) ∧ Rf wr w.heap.size F (.int .i64 e) ∧ Below w.heap.size w wr

set_option maxHeartbeats 1000000 in
set_option maxRecDepth 100000 in
theorem rtrail_is {w : World} {e : Int} {A : Option Addr} {l : List (ByteArray × Int)} {c : Nat} (hl : l.length ≤ 1000) (hs : Steps w w.heap.size A l) :
    Calls Tryd.prog 14 #[.agg #[.slice A l.length c, .int .i64 e]] w (TrailIs w (ops l)) := by
  obtain ⟨i0, hi, hz0, hz1, hz2⟩ := info_parts strInfo
  have HI := Lib.hid hi
  have HZ0 := Lib.hid hz0
  have HZ1 := Lib.hid hz1
  have HZ2 := Lib.hid hz2
  clear hi hz0 hz1 hz2
  have HS := Lib.hid hs
  clear hs
  go_enter Tryd.func14, Tryd.ntmps14
  go_wp2_with fail
  go_loopg [3, 4] l.length (fun k v i wr => RTrailAt w l (.slice A l.length c) e k v i wr)
  case atStart =>
    refine ⟨0, by omega, by omega, rfl, ?_, (Rf.new _ _ _).alloc _, ((Below.refl _ _).alloc (Nat.le_refl _) _).alloc (by simp) _⟩
    have := World.ownsRow_lit (base := w.heap.size + 1) (e := 9) (size := 1) (w.alloc (.cells #[.slice A l.length c, .int .i64 e] 29)) #[] 0 (by simp) (by unfold maxLen; omega) rfl
    rw [World.size_alloc] at this
    exact this
  case round =>
    obtain ⟨j, hj, hk, rfl, hown, hF, hb⟩ := hrel
    have HK := Lib.hid hk
    have HB := Lib.hid hb
    have HF := Lib.hid hF
    have HO := Lib.hid hown
    have f0 : wr.cell? ⟨w.heap.size, 0, none⟩ = some (.slice A l.length c) := hF.cell 0
    have hsz := hb.size
    have hFl := hF.lt
    clear hk hown hF hb
    by_cases hlt : j < l.length
    · obtain ⟨b, o, rfl, hbl, hcell⟩ := (HS.out.below HB.out) (by omega)
      have g1 := (hcell j hlt).1
      clear hcell
      obtain ⟨A0, c0, rfl⟩ := own_slice HO.out
      have HT := Lib.hid (ops_take l j hlt)
      generalize hst : l[j] = st at *
      obtain ⟨o1, n1⟩ := st
      clear hst
      dsimp only at g1
      go_wp2_with (at_builtin; refine wpList_append_own _ rfl _ _ 37 rfl (w.heap.size + 1) 9 i0 (.string ByteArray.empty) 1 16 Tryd.underlying37 HI.out HZ0.out HZ1.out HZ2.out rfl (by decide) _ _ _ rfl (HO.out.alloc _) ⟨wr.heap.size, 0, none⟩ 1 1 [.string o1] rfl rfl (one_new _ _ _) (fun x hx => by simp at hx; subst hx; rfl) (by unfold maxLen; omega) (by omega) (by simp; omega) ?_; intro v' w3 hown' hgrow3 hnil3; have HB3 := Lib.hid ((HB.out.alloc hsz _).grown hgrow3 (by simp; omega) (fun q hq => by have := (HO.out.lt q hq).1; omega)); have HF3 := Lib.hid ((HF.out.alloc (.cells #[.string o1] 9)).grown hgrow3 (fun h => by have := (HO.out.lt _ h.symm).1; omega)); clear hgrow3 hnil3; have HO3 := Lib.hid hown'; clear hown')
      go_roundg (l.length - (j + 1))
      case rel => exact ⟨j + 1, by omega, rfl, by go_num, by rw [HT.out, List.map_append]; exact HO3.out, HF3.out, HB3.out⟩
      case measure => rw [HK.out]; omega
    · obtain rfl : j = l.length := by omega
      go_wp2
      go_ret
      refine ⟨_, rfl, ?_, HB.out⟩
      have ho := HO.out
      rw [List.take_length] at ho
      exact Strs.of_own (base := w.heap.size + 1) (by simpa [ops] using ho)
end Go.Proofs.YtppanjdhfecmpaaDoor

/-
  platelayerref01.Words: the document's words of a fault.
-/
import Derived.Test.YtppanjdhfecmpaaDoorFaultR
namespace Go.Proofs.YtppanjdhfecmpaaDoor
open Go.RowKit Go.Extern.Stop Go.Stop Go.Extern

theorem pieces_take (l : List (ByteArray × Int)) (j : Nat) (h : j < l.length) : pieces (l.take (j + 1)) = pieces (l.take j) ++ piece l[j] := by
  rw [List.take_succ_eq_append_getElem h, pieces_snoc]
theorem take_ok {l : List (ByteArray × Int)} (h : ∀ s ∈ l, OkStep s) (j : Nat) : ∀ s ∈ l.take j, OkStep s := fun s hs => h s (List.mem_of_mem_take hs)

def RWordsAt (w : World) (l : List (ByteArray × Int)) (F : Value) (e : Int) (k : Nat) (v i : Value) (wr : World) : Prop :=
  ∃ j : Nat, j ≤ l.length ∧ k = l.length - j ∧ i = .int .i64 j ∧ v = .string ⟨(pieces (l.take j)).toArray⟩ ∧ Rf wr w.heap.size F (.int .i64 e) ∧ Below w.heap.size w wr

theorem keepB {w w' : World} {B : Nat} {p q r : Addr} {x y z : Value} (h : w.cell? p = some x ∧ w.cell? q = some y ∧ w.cell? r = some z) (hb : Below B w w') (hp : p.block < B) (hq : q.block < B) (hr : r.block < B) :
    w'.cell? p = some x ∧ w'.cell? q = some y ∧ w'.cell? r = some z :=
  ⟨(hb.cell (p := p) hp).trans h.1, (hb.cell (p := q) hq).trans h.2.1, (hb.cell (p := r) hr).trans h.2.2⟩

set_option maxHeartbeats 2000000 in
set_option maxRecDepth 100000 in
theorem rwords_is {w : World} {e : Int} {A : Option Addr} {l : List (ByteArray × Int)} {c : Nat} (hl : l.length ≤ 200) (hok : ∀ s ∈ l, OkStep s) (he : InRange e) (hs : Steps w w.heap.size A l) :
    Calls Tryd.prog 19 #[.agg #[.slice A l.length c, .int .i64 e]] w (StrIs w (wordsOf e l)) := by
  have HOK := Lib.hid hok
  have HE := Lib.hid he
  have HS := Lib.hid hs
  clear hok he hs
  go_enter Tryd.func19, Tryd.ntmps19
  go_wp2_with fail
  go_loopg [3, 4] l.length (fun k v i wr => RWordsAt w l (.slice A l.length c) e k v i wr)
  case atStart => exact ⟨0, by omega, by omega, rfl, rfl, Rf.new _ _ _, (Below.refl _ _).alloc (Nat.le_refl _) _⟩
  case round =>
    obtain ⟨j, hj, hk, rfl, rfl, hF, hb⟩ := hrel
    have HK := Lib.hid hk
    have HB := Lib.hid hb
    have HF := Lib.hid hF
    have f0 : wr.cell? ⟨w.heap.size, 0, none⟩ = some (.slice A l.length c) := hF.cell 0
    have f1 : wr.cell? ⟨w.heap.size, 1, none⟩ = some (.int .i64 e) := hF.cell 1
    have hFl := hF.lt
    have hsz := hb.size
    have hacc : (pieces (l.take j)).length ≤ 24800 := by
      have h9 := pieces_len (take_ok HOK.out j)
      have h8 : (l.take j).length ≤ 200 := by simp; omega
      omega
    clear hk hF hb
    by_cases hlt : j < l.length
    · obtain ⟨b, o, rfl, hbl, hcell⟩ := (HS.out.below HB.out) (by omega)
      obtain ⟨g1, g2⟩ := hcell j hlt
      clear hcell
      have HPT := Lib.hid (pieces_take l j hlt)
      have hs : OkStep l[j] := HOK.out _ (List.getElem_mem hlt)
      generalize hst : l[j] = st at *
      clear hst
      obtain ⟨⟨⟨x⟩⟩, n⟩ := st
      dsimp only at g1 g2
      have hxl : x.length ≤ 100 := hs.1
      have hil := itoa_len n hs.2.1 hs.2.2
      have HRN : Hid (InRange n) := Lib.hid hs.2
      generalize pieces (l.take j) = acc at *
      have a1 : ∀ W : World, (Op.stringOp .add ⟨acc.toArray⟩ ⟨⟨x⟩⟩).run Tryd.prog W = .ok (.string ⟨(acc ++ x).toArray⟩) W := fun W => add_texts acc x (by omega) W
      have a2 : ∀ W : World, (Op.stringOp .add ⟨(acc ++ x).toArray⟩ ⟨#[32]⟩).run Tryd.prog W = .ok (.string ⟨((acc ++ x) ++ [32]).toArray⟩) W := fun W => add_texts (acc ++ x) [32] (by simp; omega) W
      have a3 : ∀ W : World, (Op.stringOp .add ⟨((acc ++ x) ++ [32]).toArray⟩ ⟨(Lib.itoa n).toArray⟩).run Tryd.prog W = .ok (.string ⟨(((acc ++ x) ++ [32]) ++ Lib.itoa n).toArray⟩) W := fun W => add_texts ((acc ++ x) ++ [32]) (Lib.itoa n) (by simp; omega) W
      have a4 : ∀ W : World, (Op.stringOp .add ⟨(((acc ++ x) ++ [32]) ++ Lib.itoa n).toArray⟩ ⟨#[58, 32]⟩).run Tryd.prog W = .ok (.string ⟨((((acc ++ x) ++ [32]) ++ Lib.itoa n) ++ [58, 32]).toArray⟩) W := fun W => add_texts (((acc ++ x) ++ [32]) ++ Lib.itoa n) [58, 32] (by simp; omega) W
      have HEQ : Hid (acc ++ piece (⟨⟨x⟩⟩, n) = (((acc ++ x) ++ [32]) ++ Lib.itoa n) ++ [58, 32]) := Lib.hid (by show acc ++ (((x ++ [32]) ++ Lib.itoa n) ++ [58, 32]) = _; simp only [List.append_assoc])
      have HIC : Hid (∀ W : World, Calls Tryd.prog 27 #[.int .i64 n] W (StrIs W (Lib.itoa n))) := Lib.hid fun W => digits_is n W HRN.out.1 HRN.out.2
      clear hs hil
      generalize Lib.itoa n = di at *
      generalize (((acc ++ x) ++ [32]) ++ di) ++ [58, 32] = t4 at *
      generalize ((acc ++ x) ++ [32]) ++ di = t3 at *
      generalize (acc ++ x) ++ [32] = t2 at *
      generalize acc ++ x = t1 at *
      have hi0 : (0 : Int) ≤ (j : Int) := Int.natCast_nonneg _
      have hi1 : (j : Int) < (l.length : Int) := by omega
      have hKr : Hid (wr.cell? ⟨w.heap.size, 0, none⟩ = some (.slice (some ⟨b, o, none⟩) l.length c) ∧ wr.cell? ⟨b, o + j * 2, none⟩ = some (.string ⟨⟨x⟩⟩) ∧ wr.cell? ⟨b, o + j * 2 + 1, none⟩ = some (.int .i64 n)) := Lib.hid ⟨f0, g1, g2⟩
      go_wp2_with fail
      go_region_held3 (fun w' => w'.cell? ⟨w.heap.size, 0, none⟩ = some (.slice (some ⟨b, o, none⟩) l.length c) ∧ w'.cell? ⟨b, o + j * 2, none⟩ = some (.string ⟨⟨x⟩⟩) ∧ w'.cell? ⟨b, o + j * 2 + 1, none⟩ = some (.int .i64 n))
        (first | exact K1.out | go_keep)
        (first
          | (go_at_call 27; refine (HIC.out _).mono ?_; rintro r w1 ⟨rfl, hb1⟩; have HB1 := Lib.hid (below_all (Below.refl wr.heap.size wr).drew hb1); clear hb1; have K1 := Lib.hid (keepB hKr.out HB1.out hFl (by show b < _; omega) (by show b < _; omega))))
      go_wp2_with fail
      go_roundg (l.length - (j + 1))
      case rel => exact ⟨j + 1, by omega, rfl, by go_num, by rw [HPT.out, HEQ.out], HF.out.below HB1.out hFl, below_all HB.out HB1.out⟩
      case measure => rw [HK.out]; omega
    · obtain rfl : j = l.length := by omega
      rw [List.take_length] at hacc ⊢
      have hil := itoa_len e HE.out.1 HE.out.2
      have a1 : ∀ W : World, (Op.stringOp .add ⟨(pieces l).toArray⟩ ⟨#[112, 108, 97, 116, 101, 108, 97, 121, 101, 114, 58, 32, 101, 114, 114, 111, 114, 32]⟩).run Tryd.prog W = .ok (.string ⟨(pieces l ++ wordsHead).toArray⟩) W := fun W => add_texts (pieces l) wordsHead (by simp [wordsHead]; omega) W
      have a2 : ∀ W : World, (Op.stringOp .add ⟨(pieces l ++ wordsHead).toArray⟩ ⟨(Lib.itoa e).toArray⟩).run Tryd.prog W = .ok (.string ⟨((pieces l ++ wordsHead) ++ Lib.itoa e).toArray⟩) W := fun W => add_texts (pieces l ++ wordsHead) (Lib.itoa e) (by simp [wordsHead]; omega) W
      have HW : Hid ((pieces l ++ wordsHead) ++ Lib.itoa e = wordsOf e l) := Lib.hid (by unfold wordsOf; rw [List.append_assoc])
      have HIC : Hid (∀ W : World, Calls Tryd.prog 27 #[.int .i64 e] W (StrIs W (Lib.itoa e))) := Lib.hid fun W => digits_is e W HE.out.1 HE.out.2
      clear hil
      generalize wordsOf e l = res at *
      generalize Lib.itoa e = di at *
      generalize (pieces l ++ wordsHead) ++ di = t2 at *
      generalize pieces l ++ wordsHead = t1 at *
      generalize pieces l = acc at *
      go_wp2_with fail
      refine (HIC.out _).mono ?_
      rintro r w1 ⟨rfl, hb1⟩
      have HB1 := Lib.hid (below_all HB.out hb1)
      clear hb1
      go_wp2_with fail
      go_ret
      refine ⟨?_, HB1.out⟩
      rw [← HW.out]
      rfl
end Go.Proofs.YtppanjdhfecmpaaDoor

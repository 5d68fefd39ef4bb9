/-
  (*fault.Fault).Error: the words of a chain of faults.
-/
import Derived.Test.YtppanjdhfecmpaaDoorFaultQ
import Derived.Test.YtppanjdhfecmpaaDoorFaultO
namespace Go.Proofs.YtppanjdhfecmpaaDoor
open Go.RowKit Go.Extern.Stop Go.Stop Go.Extern

def InRange (n : Int) : Prop := -9223372036854775808 ≤ n ∧ n ≤ 9223372036854775807
def OkStep (s : ByteArray × Int) : Prop := s.1.size ≤ 100 ∧ InRange s.2
def piece (s : ByteArray × Int) : List UInt8 := ((s.1.data.toList ++ [32]) ++ Lib.itoa s.2) ++ [58, 32]
def pieces (l : List (ByteArray × Int)) : List UInt8 := l.flatMap piece
def wordsOf (e : Int) (l : List (ByteArray × Int)) : List UInt8 := pieces l ++ (wordsHead ++ Lib.itoa e)

theorem piece_len {s : ByteArray × Int} (h : OkStep s) : (piece s).length ≤ 124 := by
  have h1 := itoa_len s.2 h.2.1 h.2.2
  have h2 : s.1.data.toList.length = s.1.size := by rw [Array.length_toList]; rfl
  have h3 := h.1
  unfold piece
  simp only [List.length_append, List.length_cons, List.length_nil]
  omega
theorem pieces_len : ∀ {l : List (ByteArray × Int)}, (∀ s ∈ l, OkStep s) → (pieces l).length ≤ l.length * 124
  | [], _ => by simp [pieces]
  | s :: l, h => by
    have h1 := piece_len (h s (by simp))
    have h2 := pieces_len (l := l) (fun x hx => h x (by simp [hx]))
    have e : pieces (s :: l) = piece s ++ pieces l := rfl
    rw [e, List.length_append, List.length_cons]
    omega
theorem pieces_snoc (l : List (ByteArray × Int)) (s : ByteArray × Int) : pieces (l ++ [s]) = pieces l ++ piece s := by simp [pieces]
theorem bytes_str (l : List UInt8) : Lib.strCells ⟨l.toArray⟩ = Lib.byteCells l := by simp [Lib.strCells, Lib.byteCells]
theorem bytes_app (a b : List UInt8) : Lib.byteCells a ++ Lib.byteCells b = Lib.byteCells (a ++ b) := by simp [Lib.byteCells]

theorem method_error (v : Value) (w : World) : (Go.method 242 22 v "Error").run Tryd.prog w = .ok (69, v) w := by kernel_rfl

def WordsAt (w : World) (e : Int) (l : List (ByteArray × Int)) (k : Nat) (p en : Value) (wr : World) : Prop :=
  ∃ done todo : List (ByteArray × Int), l = done ++ todo ∧ todo.length = k ∧ Met w e todo p ∧ (todo = [] → done ≠ [] → Err w e [] en) ∧ Lib.IsBuilder 62 5 w.heap.size w.heap.size (Lib.byteCells (pieces done)) wr ∧ Below w.heap.size w wr

theorem fresh_builder (w : World) : Lib.IsBuilder 62 5 w.heap.size w.heap.size (Lib.byteCells []) (w.alloc (.cells #[.pointer none, .slice none 0 0] 62)) :=
  .inl ⟨Nat.le_refl _, .slice none 0 0, heap_alloc_new w _, World.ownsRow_nil _ _ _ _, by simp [Value.ownBlock]⟩

theorem wrote_step {w w1 w2 : World} {b : Nat} {l : List UInt8} {t : List UInt8} {bs : List Value} (h : Lib.IsBuilder 62 5 w.heap.size b (bs ++ Lib.strCells ⟨t.toArray⟩) w2) (hb : bs = Lib.byteCells l) : Lib.IsBuilder 62 5 w.heap.size b (Lib.byteCells (l ++ t)) w2 := by
  rw [bytes_str, hb, bytes_app] at h
  exact h

set_option maxHeartbeats 2000000 in
set_option maxRecDepth 100000 in
theorem error_is {w : World} {e : Int} {l : List (ByteArray × Int)} {p : Value} (hne : l ≠ []) (hl : l.length ≤ 200) (hok : ∀ s ∈ l, OkStep s) (he : InRange e) (ht : Tab w) (h1 : 1 < w.heap.size) (h : Met w e l p) :
    Calls Tryd.prog 18 #[p] w (StrIs w (wordsOf e l)) := by
  have HOK := Lib.hid hok
  have HE := Lib.hid he
  have HT := Lib.hid ht
  have HM := Lib.hid h
  have HNE := Lib.hid hne
  clear hok he ht h hne
  go_enter Tryd.func18, Tryd.ntmps18
  go_wp2_with fail
  go_loopg [0, 4] l.length (fun k p en wr => WordsAt w e l k p en wr)
  case atStart => exact ⟨[], l, rfl, rfl, HM.out, (fun h0 h1 => absurd rfl h1), fresh_builder w, (Below.refl _ _).alloc (Nat.le_refl _) _⟩
  case round =>
    clear HM
    obtain ⟨done, todo, hl', hk, hm, hen, hbu, hb⟩ := hrel
    have HL := Lib.hid hl'
    have HK := Lib.hid hk
    have HBU := Lib.hid hbu
    have HB := Lib.hid hb
    have HEN := Lib.hid hen
    have hsz := hb.size
    clear hl' hk hbu hb hen
    cases todo with
    | nil =>
      obtain rfl : _ = _ := hm
      have hd : l = done := by have := HL.out; simpa using this
      obtain rfl : _ = _ := HEN.out rfl (by rw [← hd]; exact HNE.out)
      have hplen : (pieces done).length ≤ 24800 := by have := pieces_len (l := l) HOK.out; rw [← hd]; omega
      have mE := method_error
      go_wp2_with fail
      refine (errno_words e _ HE.out.1 HE.out.2 (tab_below HT.out HB.out h1)).mono ?_
      rintro r w1 ⟨rfl, hb1⟩
      have HB1 := Lib.hid hb1
      have HBU1 := Lib.hid (builder_below HBU.out hb1)
      have hwl : (wordsHead ++ Lib.itoa e).length ≤ 39 := by have := itoa_len e HE.out.1 HE.out.2; simp [wordsHead]; omega
      have HWO : Hid (wordsOf e l = pieces done ++ (wordsHead ++ Lib.itoa e)) := by rw [hd]; exact Lib.hid rfl
      clear hb1 hd
      generalize wordsHead ++ Lib.itoa e = tail at *
      go_wp2_with fail
      refine (write_is w.heap.size w.heap.size _ ⟨tail.toArray⟩ _ HBU1.out (by rw [Lib.byteCells_length]; simp [ByteArray.size]; omega) (by have := HB1.out.size; omega)).mono ?_
      rintro r w2 ⟨rfl, hbu2, hb2⟩
      have HBU2 := Lib.hid (wrote_step (w1 := w2) hbu2 rfl)
      have HB2 := Lib.hid ((HB.out.trans (HB1.out.mono hsz)).trans hb2)
      clear hbu2 hb2
      go_wp2_with fail
      refine (Tryd.Builder_String_any w.heap.size w.heap.size _ _ HBU2.out HB2.out.size).mono ?_
      rintro r w3 ⟨rfl, hb3⟩
      have HB3 := Lib.hid (HB2.out.trans hb3)
      clear hb3
      have HWO' := Lib.hid HWO.out.symm
      generalize pieces done ++ tail = res at *
      go_wp2_with fail
      go_ret
      refine ⟨?_, HB3.out⟩
      rw [← HWO'.out]
      rfl
    | cons s t =>
      have hs : OkStep s := HOK.out s (by rw [HL.out]; simp)
      have hdl : (pieces done).length ≤ 24800 := by
        have h9 := pieces_len (l := done) (fun q hq => HOK.out q (by rw [HL.out]; simp [hq]))
        have h8 := congrArg List.length HL.out
        simp only [List.length_append, List.length_cons] at h8
        omega
      have hpl := piece_len hs
      obtain ⟨fb, u, rfl, hlt, h0, h1', h2, hr⟩ := hm
      have HR := Lib.hid hr
      clear hr
      have HSN : Hid (pieces (done ++ [s]) = pieces done ++ piece s) := Lib.hid (pieces_snoc done s)
      have HLL : Hid (l = (done ++ [s]) ++ t) := by rw [HL.out]; exact Lib.hid (by simp)
      have hKw : w.cell? ⟨fb, 0, none⟩ = some (.string s.1) ∧ w.cell? ⟨fb, 1, none⟩ = some (.int .i64 s.2) := ⟨h0, h1'⟩
      have HH2 := Lib.hid h2
      clear h0 h1' h2 HL HEN
      generalize done ++ [s] = done' at *
      obtain ⟨⟨⟨x⟩⟩, n⟩ := s
      have HRN : Hid (InRange n) := Lib.hid hs.2
      have HPC : Hid (piece (⟨⟨x⟩⟩, n) = ((x ++ [32]) ++ Lib.itoa n) ++ [58, 32]) := Lib.hid rfl
      have hxl : x.length ≤ 100 := hs.1
      have hil := itoa_len n hs.2.1 hs.2.2
      rw [HPC.out] at hpl
      have a1 : ∀ W : World, (Op.stringOp .add ⟨⟨x⟩⟩ ⟨#[32]⟩).run Tryd.prog W = .ok (.string ⟨(x ++ [32]).toArray⟩) W := fun W => add_texts x [32] (by simp; omega) W
      have a2 : ∀ W : World, (Op.stringOp .add ⟨(x ++ [32]).toArray⟩ ⟨(Lib.itoa n).toArray⟩).run Tryd.prog W = .ok (.string ⟨((x ++ [32]) ++ Lib.itoa n).toArray⟩) W := fun W => add_texts (x ++ [32]) (Lib.itoa n) (by simp; omega) W
      have a3 : ∀ W : World, (Op.stringOp .add ⟨((x ++ [32]) ++ Lib.itoa n).toArray⟩ ⟨#[58, 32]⟩).run Tryd.prog W = .ok (.string ⟨(((x ++ [32]) ++ Lib.itoa n) ++ [58, 32]).toArray⟩) W := fun W => add_texts ((x ++ [32]) ++ Lib.itoa n) [58, 32] (by simp; omega) W
      have HIC : Hid (∀ W : World, Tab W → Calls Tryd.prog 25 #[.int .i64 n] W (StrIs W (Lib.itoa n))) := Lib.hid fun W hW => itoa_is n W HRN.out.1 HRN.out.2 hW
      clear hs hil
      generalize Lib.itoa n = di at *
      generalize ((x ++ [32]) ++ di) ++ [58, 32] = t3 at *
      generalize (x ++ [32]) ++ di = t2 at *
      generalize x ++ [32] = t1 at *
      have hbd : Below w.heap.size w wr.drew := HB.out.drew
      have HBD := Lib.hid hbd
      have HBUd := Lib.hid (builder_below HBU.out (Below.refl wr.heap.size wr).drew)
      have hKr : wr.cell? ⟨fb, 0, none⟩ = some (.string ⟨⟨x⟩⟩) ∧ wr.cell? ⟨fb, 1, none⟩ = some (.int .i64 n) := ⟨(HB.out.cell (p := ⟨fb, 0, none⟩) hlt).trans hKw.1, (HB.out.cell (p := ⟨fb, 1, none⟩) hlt).trans hKw.2⟩
      obtain ⟨q0, q1⟩ := hKr
      have HKW := Lib.hid hKw
      clear hKw hbd
      go_wp2_with fail
      go_region_held3 (fun w' => w'.cell? ⟨fb, 0, none⟩ = some (.string ⟨⟨x⟩⟩) ∧ w'.cell? ⟨fb, 1, none⟩ = some (.int .i64 n))
        (first | exact K2.out | exact K1.out | go_keep)
        (first
          | (go_at_call 25; refine (HIC.out _ (tab_below HT.out HBD.out h1)).mono ?_; rintro r w1 ⟨rfl, hb1⟩; have HB1 := Lib.hid (HBD.out.trans (hb1.mono HBD.out.size)); have HBU1 := Lib.hid (builder_below HBUd.out hb1); clear hb1; have K1 : Hid (w1.cell? ⟨fb, 0, none⟩ = some (.string ⟨⟨x⟩⟩) ∧ w1.cell? ⟨fb, 1, none⟩ = some (.int .i64 n)) := Lib.hid ⟨(HB1.out.cell (p := ⟨fb, 0, none⟩) hlt).trans HKW.out.1, (HB1.out.cell (p := ⟨fb, 1, none⟩) hlt).trans HKW.out.2⟩)
          | (go_at_call 24; refine (write_is w.heap.size w.heap.size _ ⟨t3.toArray⟩ _ HBU1.out (by rw [Lib.byteCells_length]; simp [ByteArray.size]; omega) HB1.out.size).mono ?_; rintro r w2 ⟨rfl, hbu2, hb2⟩; have HBU2 := Lib.hid (wrote_step (w1 := w2) hbu2 rfl); have HB2 := Lib.hid (HB1.out.trans hb2); clear hbu2 hb2; have K2 : Hid (w2.cell? ⟨fb, 0, none⟩ = some (.string ⟨⟨x⟩⟩) ∧ w2.cell? ⟨fb, 1, none⟩ = some (.int .i64 n)) := Lib.hid ⟨(HB2.out.cell (p := ⟨fb, 0, none⟩) hlt).trans HKW.out.1, (HB2.out.cell (p := ⟨fb, 1, none⟩) hlt).trans HKW.out.2⟩))
      have q2 : w2.cell? ⟨fb, 2, none⟩ = some u := (HB2.out.cell (p := ⟨fb, 2, none⟩) hlt).trans HH2.out
      go_wp2_with fail
      refine (met_err HR.out).mono ?_
      rintro r w3 ⟨p3, rfl, rfl, hm3⟩
      have HM3 := Lib.hid hm3
      clear hm3
      go_wp2_with fail
      go_roundg t.length
      case rel =>
        refine ⟨done', t, HLL.out, rfl, HM3.out, ?_, ?_, HB2.out⟩
        · intro ht _
          subst ht
          exact HR.out
        · rw [HSN.out, HPC.out]
          exact HBU2.out
      case measure => have := HK.out; simp at this; omega
end Go.Proofs.YtppanjdhfecmpaaDoor

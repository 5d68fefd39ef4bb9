/-
  Two devices and one act: what holds while it is done by both, in whatever order.
-/
import Derived.Test.YtljpkngbhdplbaaDoorZnsR
import Derived.Test.YtljpkngbhdplbaaDoorTwin
namespace Go.Proofs.YtljpkngbhdplbaaDoor
open Go.RowKit

def toldV (t : ToldS) (v : Value) : Value := .agg #[.int .i64 t.n, .int .i64 t.e, v]
def toldC (t : ToldS) (v : Value) : List Value := [.int .i64 t.n, .int .i64 t.e, v]
def told0 : List Value := [.int .i64 0, .int .i64 0, .slice none 0 0]
structure Tw (D1 D2 : (Nat → Prop) → World → DevS → Prop) (w0 : World) (xb : Nat) (xc : List Value) (S1o S1n S2o S2n : DevS) (t1 t2 : ToldS) (c1 c2 a1 a2 s1 s2 : Bool) (x1 x2 y1 y2 : Value) (u : World) (F1 F2 G1 G2 : Nat → Prop) (g1 g2 : Nat) (v1 v2 : Value) : Prop where
  d1 : D1 F1 u (if c1 = true then S1n else S1o)
  d2 : D2 F2 u (if c2 = true then S2n else S2o)
  old : Below w0.heap.size w0 u
  bx : Blk u xb 39 xc
  xo : w0.heap.size ≤ xb
  m1 : c1 = true → x1 = toldV t1 v1 ∧ BytF G1 u v1 t1.b
  m2 : c2 = true → x2 = toldV t2 v2 ∧ BytF G2 u v2 t2.b
  p1 : a1 = true → y1 = .pointer (some ⟨g1, 0, none⟩) ∧ Blk u g1 41 (if s1 = true then toldC t1 v1 else told0)
  p2 : a2 = true → y2 = .pointer (some ⟨g2, 0, none⟩) ∧ Blk u g2 41 (if s2 = true then toldC t2 v2 else told0)
  f1 : ∀ k, F1 k → w0.heap.size ≤ k ∧ k ≠ xb ∧ ¬ F2 k ∧ ¬ G2 k ∧ (a1 = true → k ≠ g1) ∧ (a2 = true → k ≠ g2)
  f2 : ∀ k, F2 k → w0.heap.size ≤ k ∧ k ≠ xb ∧ ¬ F1 k ∧ ¬ G1 k ∧ (a2 = true → k ≠ g2) ∧ (a1 = true → k ≠ g1)
  q1 : ∀ k, G1 k → k < u.heap.size ∧ k ≠ xb ∧ (a1 = true → k ≠ g1) ∧ (a2 = true → k ≠ g2)
  q2 : ∀ k, G2 k → k < u.heap.size ∧ k ≠ xb ∧ (a2 = true → k ≠ g2) ∧ (a1 = true → k ≠ g1)
  r1 : a1 = true → w0.heap.size ≤ g1 ∧ g1 ≠ xb
  r2 : a2 = true → w0.heap.size ≤ g2 ∧ g2 ≠ xb
  ne : a1 = true → a2 = true → g1 ≠ g2
section
variable {D1 D2 : (Nat → Prop) → World → DevS → Prop} {w0 : World} {xb : Nat} {xc : List Value} {S1o S1n S2o S2n : DevS} {t1 t2 : ToldS} {c1 c2 a1 a2 s1 s2 : Bool} {x1 x2 y1 y2 : Value} {u : World} {F1 F2 G1 G2 : Nat → Prop} {g1 g2 : Nat} {v1 v2 : Value}

theorem Tw.swap (h : Tw D1 D2 w0 xb xc S1o S1n S2o S2n t1 t2 c1 c2 a1 a2 s1 s2 x1 x2 y1 y2 u F1 F2 G1 G2 g1 g2 v1 v2) : Tw D2 D1 w0 xb xc S2o S2n S1o S1n t2 t1 c2 c1 a2 a1 s2 s1 x2 x1 y2 y1 u F2 F1 G2 G1 g2 g1 v2 v1 :=
  ⟨h.d2, h.d1, h.old, h.bx, h.xo, h.m2, h.m1, h.p2, h.p1, h.f2, h.f1, h.q2, h.q1, h.r2, h.r1, fun a b e => h.ne b a e.symm⟩
theorem Tw.drew (H1 : Holds D1) (H2 : Holds D2) (h : Tw D1 D2 w0 xb xc S1o S1n S2o S2n t1 t2 c1 c2 a1 a2 s1 s2 x1 x2 y1 y2 u F1 F2 G1 G2 g1 g2 v1 v2) : Tw D1 D2 w0 xb xc S1o S1n S2o S2n t1 t2 c1 c2 a1 a2 s1 s2 x1 x2 y1 y2 u.drew F1 F2 G1 G2 g1 g2 v1 v2 := by
  have hk : Kept (fun _ => False) u u.drew := (Kept.refl _ _).drew
  exact ⟨H1.keep h.d1 hk (fun _ _ => id), H2.keep h.d2 hk (fun _ _ => id), h.old.drew, h.bx, h.xo, fun e => ⟨(h.m1 e).1, (h.m1 e).2.keep hk (fun _ _ => id)⟩, fun e => ⟨(h.m2 e).1, (h.m2 e).2.keep hk (fun _ _ => id)⟩, h.p1, h.p2, h.f1, h.f2, h.q1, h.q2, h.r1, h.r2, h.ne⟩
theorem Tw.lt1 (h : Tw D1 D2 w0 xb xc S1o S1n S2o S2n t1 t2 c1 c2 a1 a2 s1 s2 x1 x2 y1 y2 u F1 F2 G1 G2 g1 g2 v1 v2) (e : a1 = true) : g1 < u.heap.size := lt_of_block (h.p1 e).2
/-- The first call. -/
theorem Tw.call1 (_H1 : Holds D1) (H2 : Holds D2) {r : Ending} {u' : World} (h : Tw D1 D2 w0 xb xc S1o S1n S2o S2n t1 t2 false c2 a1 a2 false s2 x1 x2 y1 y2 u F1 F2 G1 G2 g1 g2 v1 v2) (ht : ToldIs D1 F1 S1n t1 u r u') :
    ∃ v, r = .returned (toldV t1 v) ∧ BytN u u' v t1.b ∧ Tw D1 D2 w0 xb xc S1o S1n S2o S2n t1 t2 true c2 a1 a2 false s2 (toldV t1 v) x2 y1 y2 u' (grow F1 u u') F2 (fun k => u.heap.size ≤ k ∧ k < u'.heap.size) G2 g1 g2 v v2 := by
  obtain ⟨v, hr, hd, hk, hn⟩ := ht
  have hx := lt_of_block h.bx
  have hs := hk.size
  have l2 := fun k hk => H2.lt h.d2 k hk
  refine ⟨v, hr, hn, hd, H2.keep h.d2 hk (fun k e e2 => (h.f2 k e).2.2.1 e2), h.old.trans (hk.below h.old.size (fun k e => (h.f1 k e).1)), hk.blk h.bx (fun e => (h.f1 _ e).2.1 rfl), h.xo, fun _ => ⟨rfl, hn⟩, fun e => ⟨(h.m2 e).1, (h.m2 e).2.keep hk (fun k e1 e2 => (h.f1 k e2).2.2.2.1 e1)⟩,
    fun e => ⟨(h.p1 e).1, hk.blk (h.p1 e).2 (fun e2 => (h.f1 _ e2).2.2.2.2.1 e rfl)⟩, fun e => ⟨(h.p2 e).1, hk.blk (h.p2 e).2 (fun e2 => (h.f1 _ e2).2.2.2.2.2 e rfl)⟩, fun k e => ?_, fun k e => ?_, fun k e => ?_, fun k e => ?_, h.r1, h.r2, h.ne⟩
  · rcases e with e | e
    · exact h.f1 k e
    · have := h.old.size
      exact ⟨by omega, by omega, fun e2 => by have := l2 k e2; omega, fun e2 => by have := (h.q2 k e2).1; omega, fun e2 => by have := lt_of_block (h.p1 e2).2; omega, fun e2 => by have := lt_of_block (h.p2 e2).2; omega⟩
  · have hf := h.f2 k e
    have := l2 k e
    exact ⟨hf.1, hf.2.1, fun e2 => e2.elim hf.2.2.1 (fun e3 => by omega), fun e2 => by omega, hf.2.2.2.2⟩
  · exact ⟨e.2, by omega, fun e2 => by have := lt_of_block (h.p1 e2).2; omega, fun e2 => by have := lt_of_block (h.p2 e2).2; omega⟩
  · have hq := h.q2 k e
    exact ⟨by omega, hq.2⟩
/-- The first variable. -/
theorem Tw.var1 (H1 : Holds D1) (H2 : Holds D2) (h : Tw D1 D2 w0 xb xc S1o S1n S2o S2n t1 t2 c1 c2 false a2 false s2 x1 x2 y1 y2 u F1 F2 G1 G2 g1 g2 v1 v2) :
    Tw D1 D2 w0 xb xc S1o S1n S2o S2n t1 t2 c1 c2 true a2 false s2 x1 x2 (.pointer (some ⟨u.heap.size, 0, none⟩)) y2 (u.alloc (.cells #[.int .i64 0, .int .i64 0, .slice none 0 0] 41)) F1 F2 G1 G2 u.heap.size g2 v1 v2 := by
  have hb : Below u.heap.size u (u.alloc (.cells #[.int .i64 0, .int .i64 0, .slice none 0 0] 41)) := Below.alloc (Below.refl _ _) (Nat.le_refl _) _
  have hk := Kept.of_below (F := fun _ => False) hb
  have hx := lt_of_block h.bx
  have hs := h.old.size
  have hs2 := hk.size
  refine ⟨H1.keep h.d1 hk (fun _ _ => id), H2.keep h.d2 hk (fun _ _ => id), below_on h.old hb, hk.blk h.bx id, h.xo, fun e => ⟨(h.m1 e).1, (h.m1 e).2.keep hk (fun _ _ => id)⟩, fun e => ⟨(h.m2 e).1, (h.m2 e).2.keep hk (fun _ _ => id)⟩, fun _ => ⟨rfl, heap_alloc_new u _⟩, fun e => ⟨(h.p2 e).1, hk.blk (h.p2 e).2 id⟩,
    fun k e => ?_, fun k e => ?_, fun k e => ?_, fun k e => ?_, fun _ => ⟨hs, by omega⟩, h.r2, fun _ e => by have := lt_of_block (h.p2 e).2; omega⟩
  · have hf := h.f1 k e
    have := H1.lt h.d1 k e
    exact ⟨hf.1, hf.2.1, hf.2.2.1, hf.2.2.2.1, fun _ => by omega, hf.2.2.2.2.2⟩
  · have hf := h.f2 k e
    have := H2.lt h.d2 k e
    exact ⟨hf.1, hf.2.1, hf.2.2.1, hf.2.2.2.1, hf.2.2.2.2.1, fun _ => by omega⟩
  · have hq := h.q1 k e
    exact ⟨by omega, hq.2.1, fun _ => by omega, hq.2.2.2⟩
  · have hq := h.q2 k e
    exact ⟨by omega, hq.2.1, hq.2.2.1, fun _ => by omega⟩
/-- The first store. -/
theorem Tw.store1 (H1 : Holds D1) (H2 : Holds D2) (h : Tw D1 D2 w0 xb xc S1o S1n S2o S2n t1 t2 true c2 true a2 false s2 x1 x2 y1 y2 u F1 F2 G1 G2 g1 g2 v1 v2) :
    Tw D1 D2 w0 xb xc S1o S1n S2o S2n t1 t2 true c2 true a2 true s2 x1 x2 y1 y2 (((u.setCell ⟨g1, 0, none⟩ (.int .i64 t1.n)).setCell ⟨g1, 1, none⟩ (.int .i64 t1.e)).setCell ⟨g1, 2, none⟩ v1) F1 F2 G1 G2 g1 g2 v1 v2 := by
  have hk : Kept (fun k => k = g1) u (((u.setCell ⟨g1, 0, none⟩ (.int .i64 t1.n)).setCell ⟨g1, 1, none⟩ (.int .i64 t1.e)).setCell ⟨g1, 2, none⟩ v1) := (((Kept.refl (fun k => k = g1) u).put (.inl rfl) _ _).put (.inl rfl) _ _).put (.inl rfl) _ _
  have hs := hk.size
  have hr := h.r1 rfl
  refine ⟨H1.keep h.d1 hk (fun k e e2 => (h.f1 k e).2.2.2.2.1 rfl e2), H2.keep h.d2 hk (fun k e e2 => (h.f2 k e).2.2.2.2.2 rfl e2), h.old.trans (hk.below h.old.size (fun k e => by rw [e]; exact hr.1)), hk.blk h.bx (fun e => hr.2 e.symm), h.xo, fun e => ⟨(h.m1 e).1, (h.m1 e).2.keep hk (fun k e1 e2 => (h.q1 k e1).2.2.1 rfl e2)⟩,
    fun e => ⟨(h.m2 e).1, (h.m2 e).2.keep hk (fun k e1 e2 => (h.q2 k e1).2.2.2 rfl e2)⟩, fun e => ⟨(h.p1 e).1, ?_⟩, fun e => ⟨(h.p2 e).1, hk.blk (h.p2 e).2 (fun e2 => h.ne rfl e e2.symm)⟩, h.f1, h.f2, fun k e => ?_, fun k e => ?_, h.r1, h.r2, h.ne⟩
  · have := (((h.p1 rfl).2.put 0 (.int .i64 t1.n)).put 1 (.int .i64 t1.e)).put 2 v1
    simpa [told0, toldC] using this
  · have hq := h.q1 k e
    exact ⟨by omega, hq.2⟩
  · have hq := h.q2 k e
    exact ⟨by omega, hq.2⟩
end
/-- What holds, the footprints forgotten. -/
def TwI (D1 D2 : (Nat → Prop) → World → DevS → Prop) (w0 : World) (xb : Nat) (xc : List Value) (So Sn : DevS) (t : ToldS) (c1 c2 a1 a2 s1 s2 : Bool) (x1 x2 y1 y2 : Value) (u : World) : Prop :=
  ∃ F1 F2 G1 G2 g1 g2 v1 v2, Tw D1 D2 w0 xb xc So Sn So Sn t t c1 c2 a1 a2 s1 s2 x1 x2 y1 y2 u F1 F2 G1 G2 g1 g2 v1 v2
end Go.Proofs.YtljpkngbhdplbaaDoor

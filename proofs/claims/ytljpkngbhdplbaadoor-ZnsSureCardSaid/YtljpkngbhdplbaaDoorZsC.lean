/-
  platelayerlaw07.ZnsSure answers true: the walk.
-/
import Derived.Test.YtljpkngbhdplbaaDoorZsB
namespace Go.Proofs.YtljpkngbhdplbaaDoor
open Go.RowKit

def wCell (q : WrS × Value) : List Value := [.int .i64 q.1.zone, .int .i64 q.1.page, q.2]
theorem wCell_len (q : WrS × Value) : (wCell q).length = 3 := rfl
def wCells (P : List (WrS × Value)) : List Value := P.flatMap wCell
theorem wCells_app (P : List (WrS × Value)) (q : WrS × Value) : wCells (P ++ [q]) = wCells P ++ wCell q := by simp [wCells]
/-- What was written, as it is read: rows in Q, apart from F. -/
structure RW (B : Nat) (F : Nat → Prop) (w : World) (v : Value) (P : List (WrS × Value)) (Q : Nat → Prop) : Prop where
  row : w.ownsRow B 55 3 v P.length (wCells P)
  q : ∀ k, Q k → ¬ F k ∧ k < w.heap.size
  each : ∀ q ∈ P, BytF Q w q.2 q.1.b
/-- .. and may be written to. -/
structure KW (B : Nat) (F : Nat → Prop) (w : World) (v : Value) (P : List (WrS × Value)) (Q : Nat → Prop) : Prop extends RW B F w v P Q where
  own : ∀ g, v.ownBlock = some g → ¬ F g ∧ ¬ Q g
theorem RW.up {B : Nat} {F : Nat → Prop} {w w' : World} {v : Value} {P : List (WrS × Value)} {Q : Nat → Prop} (h : RW B F w v P Q) (hb : Below w.heap.size w w') : RW B F w' v P Q :=
  ⟨owns_rise h.row hb, fun k e => ⟨(h.q k e).1, Nat.lt_of_lt_of_le (h.q k e).2 hb.size⟩, fun q hq => (h.each q hq).up hb⟩
theorem KW.up {B : Nat} {F : Nat → Prop} {w w' : World} {v : Value} {P : List (WrS × Value)} {Q : Nat → Prop} (h : KW B F w v P Q) (hb : Below w.heap.size w w') : KW B F w' v P Q := ⟨h.toRW.up hb, h.own⟩
theorem KW.keep {B : Nat} {F G : Nat → Prop} {w w' : World} {v : Value} {P : List (WrS × Value)} {Q : Nat → Prop} (h : KW B F w v P Q) (hk : Kept G w w') (h1 : ∀ g, v.ownBlock = some g → ¬ G g) (h2 : ∀ k, Q k → ¬ G k) : KW B F w' v P Q :=
  ⟨⟨owns_keep h.row hk h1, fun k e => ⟨(h.q k e).1, Nat.lt_of_lt_of_le (h.q k e).2 hk.size⟩, fun q hq => (h.each q hq).keep hk h2⟩, h.own⟩
theorem KW.done {B : Nat} {F : Nat → Prop} {w w' : World} {v : Value} {P : List (WrS × Value)} {Q : Nat → Prop} (h : KW B F w v P Q) (hk : Kept F w w') : KW B (grow F w w') w' v P Q := by
  have hs := hk.size
  refine ⟨⟨owns_keep h.row hk (fun g e => (h.own g e).1), fun k e => ⟨fun e2 => e2.elim (h.q k e).1 (fun e3 => by have := (h.q k e).2; omega), Nat.lt_of_lt_of_le (h.q k e).2 hs⟩, fun q hq => (h.each q hq).keep hk (fun k e => (h.q k e).1)⟩, fun g e => ⟨fun e2 => e2.elim (h.own g e).1 (fun e3 => by have := (owns_own h.row g e).2; omega), (h.own g e).2⟩⟩
/-- One page more was written. -/
theorem KW.more {B : Nat} {F : Nat → Prop} {w u1 u3 : World} {v v' bv : Value} {P : List (WrS × Value)} {Q : Nat → Prop} {k : WrS} {T : TypeId} {cs : Array Value} (h : KW B F w v P Q) (hF : ∀ k, F k → k < w.heap.size) (hb : Below w.heap.size w u1) (hbv : RowV u1 w.heap.size 5 bv (cellsOf8 k.b)) (hg : (u1.alloc (.cells cs T)).grownBy u3 v.ownBlock) (hr : u3.ownsRow B 55 3 v' (P.length + 1) (wCells P ++ wCell (k, bv))) :
    RW B F u3 v' (P ++ [(k, bv)]) (fun j => Q j ∨ (w.heap.size ≤ j ∧ j < u1.heap.size)) := by
  have hs := hb.size
  have hb2 : Below u1.heap.size u1 (u1.alloc (.cells cs T)) := Below.alloc (Below.refl _ _) (Nat.le_refl _) _
  have hk : Kept (fun j => v.ownBlock = some j) (u1.alloc (.cells cs T)) u3 := (Kept.refl _ _).grown hg (fun j e => .inl e)
  have hs2 := hb2.size
  have hs3 := hk.size
  refine ⟨by rw [wCells_app, List.length_append]; exact hr, fun j e => ?_, fun q hq => ?_⟩
  · rcases e with e | e
    · exact ⟨(h.q j e).1, by have := (h.q j e).2; omega⟩
    · exact ⟨fun e2 => by have := hF j e2; omega, by omega⟩
  · rcases List.mem_append.1 hq with hq | hq
    · exact ((((h.each q hq).up hb).up hb2).keep hk (fun j e e2 => (h.own j e2).2 e)).mono (fun j e => .inl e)
    · simp only [List.mem_singleton] at hq
      subst hq
      have := (RowV.bytN (w := w) hbv (Nat.le_refl _))
      exact ((BytF.up this hb2).keep hk (fun j e e2 => by have := (owns_own h.row j e2).2; omega)).mono (fun j e => .inr e)
/-- One device in memory; what was there before is kept. -/
structure OneK (Z : ZOps) (F0 : Nat → Prop) (W wr : World) (db : Nat) (S : DevS) (F : Nat → Prop) : Prop where
  d : Z.D F wr db S
  f : ∀ k, F k → F0 k ∨ W.heap.size ≤ k
  old : Kept F0 W wr
theorem OneK.up {Z : ZOps} {F0 F : Nat → Prop} {W wr w' : World} {db : Nat} {S : DevS} (h : OneK Z F0 W wr db S F) (hb : Below wr.heap.size wr w') : OneK Z F0 W w' db S F := ⟨Z.up h.d hb, h.f, h.old.and (Kept.of_below hb)⟩
theorem OneK.keep {Z : ZOps} {F0 F G : Nat → Prop} {W wr w' : World} {db : Nat} {S : DevS} (h : OneK Z F0 W wr db S F) (hk : Kept G wr w') (h1 : ∀ k, G k → ¬ F k) (h2 : ∀ k, G k → W.heap.size ≤ k) : OneK Z F0 W w' db S F :=
  ⟨Z.keep h.d hk (fun k e e2 => h1 k e2 e), h.f, ⟨hk.os.trans h.old.os, hk.tape.trans h.old.tape, hk.output.trans h.old.output, Nat.le_trans h.old.size hk.size, fun k hl hn => (hk.block k (Nat.lt_of_lt_of_le hl h.old.size) (fun e => by have := h2 k e; omega)).trans (h.old.block k hl hn)⟩⟩
theorem OneK.done {Z : ZOps} {F0 F : Nat → Prop} {W wr w' : World} {db : Nat} {S S' : DevS} (h : OneK Z F0 W wr db S F) (hd : Z.D (grow F wr w') w' db S') (hk : Kept F wr w') : OneK Z F0 W w' db S' (grow F wr w') :=
  ⟨hd, fun k e => e.elim (h.f k) (fun e => .inr (Nat.le_trans h.old.size e.1)), ⟨hk.os.trans h.old.os, hk.tape.trans h.old.tape, hk.output.trans h.old.output, Nat.le_trans h.old.size hk.size, fun k hl hn => (hk.block k (Nat.lt_of_lt_of_le hl h.old.size) (fun e => (h.f k e).elim hn (fun e => by omega))).trans (h.old.block k hl hn)⟩⟩
theorem OneK.below {Z : ZOps} {F0 F : Nat → Prop} {w W wr : World} {db : Nat} {S : DevS} (h : OneK Z F0 W wr db S F) (hb : Below w.heap.size w W) (hF : ∀ k, F0 k → w.heap.size ≤ k) : Below w.heap.size w wr := hb.trans (h.old.below hb.size hF)
/-- The first z zones' numbers are noted. -/
def sureL (S : DevS) (z N : Nat) : List Value := (List.range N).map (fun j => if j < z then .int .i64 (S.sureOf (j : Int) : Int) else .int .i64 0)
theorem sureL_zero (S : DevS) (N : Nat) : sureL S 0 N = List.replicate N (.int .i64 0) := by
  refine List.ext_getElem (by simp [sureL]) fun j h1 h2 => by simp [sureL]
theorem sureL_set {S : DevS} {z N : Nat} : (sureL S z N).set z (.int .i64 (S.sureOf (z : Int) : Int)) = sureL S (z + 1) N := by
  refine List.ext_getElem (by simp [sureL]) fun j h1 h2 => ?_
  by_cases hj : z = j
  · subst hj
    rw [List.getElem_set_self]
    simp [sureL]
  · rw [List.getElem_set_ne hj]
    simp only [sureL, List.getElem_map, List.getElem_range]
    by_cases h3 : j < z
    · rw [if_pos h3, if_pos (by omega)]
    · rw [if_neg h3, if_neg (by omega)]
set_option maxHeartbeats 8000000 in
set_option maxRecDepth 100000 in
theorem zsure_true (Z : ZOps) {w : World} (hg : Gl w) (n p : Int) (A : Option Addr) (m c : Nat) (l : List ActS) (hl : l.length = m) (hA : ActsF (fun k => k < w.heap.size) w A l) (hAc : A = none → c = 0) (hok : ∀ x ∈ l, ActOk x)
    (KA TA : Option Addr) (mk kc mt tc : Nat) (keep : List Int) (tear : List Bool) (hk : RowF (fun k => k < w.heap.size) w (.slice KA mk kc) (kCells keep)) (ht : RowF (fun k => k < w.heap.size) w (.slice TA mt tc) (tCells tear)) (hkl : keep.length = mk) (htl : tear.length = mt) (hkw : ∀ n ∈ keep, Wd n) :
    Calls Tryd.prog 5 #[.int .i64 n, .int .i64 p, .slice A m c, .slice KA mk kc, .slice TA mt tc] w (BoolB true w) := by
  have HG := Lib.hid hg
  have HA := Lib.hid hA
  have HAC := Lib.hid hAc
  have HL := Lib.hid hl
  have HOK := Lib.hid hok
  have HKT := Lib.hid (And.intro hk (And.intro ht (And.intro hkl (And.intro htl hkw))))
  clear hg hA hok hk ht hkl htl hkw hAc
  go_enter Tryd.func5, Tryd.ntmps5
  go_wp2_with fail
  refine (zawake_true Z HG.out).mono ?_
  rintro r w1 ⟨rfl, hb⟩
  have HB1 := Lib.hid hb
  clear hb
  go_wp2_with fail
  refine (Z.new n p).mono ?_
  cases hnw : newD n p with
  | none =>
    rintro r w3 ⟨rfl, hb⟩
    have HB3 := Lib.hid (below_on HB1.out hb)
    clear hb
    generalize errV 1 = e1
    go_wp2_with fail
    go_ret
    exact ⟨rfl, HB3.out⟩
  | some S0 =>
    have HS0 : Hid (S0.done = 0 ∧ (S0.zones.length : Int) = n ∧ n ≤ 24) := Lib.hid (by
      unfold newD at hnw
      split at hnw
      · have := Option.some.inj hnw
        subst this
        refine ⟨rfl, by simp [DevS.new]; omega, by omega⟩
      · cases hnw)
    have q24 : decide (24 < n) = false := by have := HS0.out; simp; omega
    rintro r w3 ⟨db, rfl, hd, hb⟩
    have HB3 := Lib.hid (below_on HB1.out hb)
    have HT3 : Hid (One Z w w3 db S0 (fun k => w1.heap.size ≤ k ∧ k < w3.heap.size)) := Lib.hid ⟨hd, fun k e => by have := HB1.out.size; omega, HB3.out⟩
    clear hb hd
    go_wp2_with fail
    refine (large_is hl (HA.out.up HB3.out)).mono ?_
    rintro r w4 ⟨rfl, hb⟩
    have HT4 := Lib.hid (HT3.out.up hb)
    clear hb HT3
    cases hlg : largeA l with
    | true =>
      go_wp2_with fail
      go_ret
      exact ⟨rfl, HT4.out.old⟩
    | false =>
      have HLG := Lib.hid (large_bd hlg)
      have hm100 : m ≤ 100 := by rw [← hl]; exact HLG.out.1
      clear hlg
      by_cases hk100 : 100 < mk
      · go_wp2_with fail
        go_ret
        exact ⟨rfl, HT4.out.old⟩
      by_cases ht100 : 100 < mt
      · go_wp2_with fail
        go_ret
        exact ⟨rfl, HT4.out.old⟩
      obtain ⟨N, hN⟩ : ∃ N, S0.zones.length = N := ⟨_, rfl⟩
      obtain rfl : n = (N : Int) := by rw [← hN]; exact HS0.out.2.1.symm
      have HN := Lib.hid hN
      have hN24 : N ≤ 24 := by rw [← hN]; exact (Z.wf HT4.out.d).z1
      obtain ⟨F0, hF0⟩ : ∃ F0 : Nat → Prop, F0 = fun k => w1.heap.size ≤ k ∧ k < w3.heap.size := ⟨_, rfl⟩
      rw [← hF0] at HT4
      clear hN hnw q24 hF0
      obtain ⟨LL, hLL, hLr, hLf⟩ := acts_flat (HA.out.up HT4.out.old)
      have HLL := Lib.hid (And.intro hLL (And.intro hLr hLf))
      have hLm : LL.length = m := by rw [← HL.out, ← hLL, List.length_map]
      have HLM := Lib.hid hLm
      clear hLL hLr hLf hLm
      have HB5 : Hid (Below w4.heap.size w4 (w4.alloc (.cells #[] 39))) := Lib.hid (Below.alloc (Below.refl _ _) (Nat.le_refl _) _)
      have HE5 := Lib.hid (owns_new w4 w4.heap.size 39 6 (Nat.le_refl _))
      have HR5 := Lib.hid (HLL.out.2.1.up HB5.out)
      go_wp2_with (first
        | (at_builtin; refine appK _ rfl (.tmp 56) (.tmp 57) 22 39 (.agg #[.int .i64 0, .int .i64 0, .int .i64 0, .slice none 0 0, .slice none 0 0, .slice none 0 0]) 6 96 rfl Tryd.underlying22 infoAct rfl (by decide) (by decide) w4.heap.size 0 m c (.slice (some ⟨w4.heap.size, 0, none⟩) 0 0) [] (LL.flatMap fCells) A rfl HE5.out rfl ?h1a HR5.out HAC.out (fCells_one HLL.out.2.2) ?h1b ?h1c ?_; (case h1a => rw [flatK_len fCells 6 fCells_len, HLM.out]); (case h1b => omega); (case h1c => exact HB5.out.size); intro v6 w6 ho hg; rw [List.nil_append, Nat.zero_add] at ho; have HO6 := Lib.hid ho; have HB6 := Lib.hid (HB5.out.grown hg HB5.out.size (fun k e => (owns_own HE5.out k e).1)); have HB7 : Hid (Below w4.heap.size w4 (w6.alloc (.cells #[.int .i64 6, .int .i64 0, .int .i64 0, .slice none 0 0, .slice KA mk kc, .slice TA mt tc] 39))) := Lib.hid (HB6.out.alloc HB6.out.size _); have HO7 := Lib.hid (owns_rise ho (Below.alloc (Below.refl w6.heap.size w6) (Nat.le_refl _) (.cells #[.int .i64 6, .int .i64 0, .int .i64 0, .slice none 0 0, .slice KA mk kc, .slice TA mt tc] 39))); have HN7 : Hid (RdV (w6.alloc (.cells #[.int .i64 6, .int .i64 0, .int .i64 0, .slice none 0 0, .slice KA mk kc, .slice TA mt tc] 39)) (w6.alloc (.cells #[.int .i64 6, .int .i64 0, .int .i64 0, .slice none 0 0, .slice KA mk kc, .slice TA mt tc] 39)).heap.size (some ⟨w6.heap.size, 0, none⟩) (actCells ⟨6, 0, 0, [], keep, tear⟩ (.slice none 0 0) (.slice KA mk kc) (.slice TA mt tc))) := Lib.hid (fun _ => ⟨w6.heap.size, 0, rfl, by rw [World.size_alloc]; omega, fun i hi => by rw [Nat.zero_add]; exact Blk.cell (heap_alloc_new w6 _) i hi⟩); obtain ⟨A6, c6, rfl⟩ := owns_form ho; clear ho hg)
        | (at_builtin; refine appK _ rfl (.tmp 58) (.tmp 62) 22 39 (.agg #[.int .i64 0, .int .i64 0, .int .i64 0, .slice none 0 0, .slice none 0 0, .slice none 0 0]) 6 96 rfl Tryd.underlying22 infoAct rfl (by decide) (by decide) w4.heap.size m 1 1 (.slice A6 m c6) (LL.flatMap fCells) (actCells ⟨6, 0, 0, [], keep, tear⟩ (.slice none 0 0) (.slice KA mk kc) (.slice TA mt tc)) (some ⟨w6.heap.size, 0, none⟩) rfl HO7.out rfl rfl HN7.out (fun e => by cases e) ?h2a ?h2b ?h2c ?_; (case h2a => intro u hu; simp only [actCells, List.mem_cons, List.not_mem_nil, or_false] at hu; rcases hu with rfl | rfl | rfl | rfl | rfl | rfl <;> rfl); (case h2b => omega); (case h2c => exact HB7.out.size); intro v8 w8 ho hg; have HO8 := Lib.hid ho; have HB8 := Lib.hid (HB7.out.grown hg HB7.out.size (fun k e => (owns_own HO7.out k e).1)); obtain ⟨ga, gc, rfl, hga, hgl, hgx⟩ := owns_cells ho (by omega); have HGX := Lib.hid hgx; clear ho hg hgx)
        | fail)
      have HF0 : Hid (∀ k, F0 k → w.heap.size ≤ k ∧ k < w4.heap.size) := Lib.hid (fun k e => ⟨HT4.out.f k e, Z.lt HT4.out.d k e⟩)
      have HBW : Hid (Below w.heap.size w w8) := Lib.hid (below_on HT4.out.old HB8.out)
      have HT8 : Hid (OneK Z F0 w8 w8 db S0 F0) := Lib.hid ⟨Z.up HT4.out.d HB8.out, fun k e => .inl e, Kept.refl _ _⟩
      have HAL : Hid (ActsF (fun k => k < w8.heap.size ∧ ¬ F0 k) w8 (some ⟨ga, 0, none⟩) (l ++ [⟨6, 0, 0, [], keep, tear⟩])) := Lib.hid (by
        have hup : ∀ k, k < w.heap.size → k < w8.heap.size ∧ ¬ F0 k := fun k e => ⟨Nat.lt_of_lt_of_le e HBW.out.size, fun e2 => by have := (HF0.out k e2).1; omega⟩
        have h := acts_of (F := fun k => k < w8.heap.size ∧ ¬ F0 k) (L := LL ++ [(⟨6, 0, 0, [], keep, tear⟩, .slice none 0 0, .slice KA mk kc, .slice TA mt tc)]) hgl ⟨hgl, fun e => by have := (HF0.out ga e).2; omega⟩ (fun j u hj => HGX.out j u (by simpa [List.flatMap_append, fCells] using hj)) (fun q hq => by
          rcases List.mem_append.1 hq with hq | hq
          · exact ((HLL.out.2.2 q hq).up HB8.out).mono hup
          · simp only [List.mem_singleton] at hq
            subst hq
            exact ⟨⟨none, 0, rfl, by simp, Rd.nil, (InF.none _).n, fun _ => rfl⟩, (HKT.out.1.up HBW.out).mono hup, (HKT.out.2.1.up HBW.out).mono hup⟩)
        rwa [List.map_append, HLL.out.1] at h)
      obtain ⟨al, hal⟩ : ∃ al, l ++ [⟨6, 0, 0, [], keep, tear⟩] = al := ⟨_, rfl⟩
      have HAN : Hid (al.length = m + 1) := Lib.hid (by rw [← hal, List.length_append, HL.out]; rfl)
      have HAO : Hid (∀ x ∈ al, ActOk x ∧ (x.B.length ≤ 100 ∧ x.keep.length ≤ 100 ∧ x.tear.length ≤ 100)) := Lib.hid (fun x hx => by
        rw [← hal] at hx
        rcases List.mem_append.1 hx with hx | hx
        · exact ⟨HOK.out x hx, HLG.out.2 x hx⟩
        · simp only [List.mem_singleton] at hx
          subst hx
          refine ⟨⟨by simp, fun b hb => (by cases hb), HKT.out.2.2.2.2⟩, by simp, ?_, ?_⟩
          · have := HKT.out.2.2.1
            simp only
            omega
          · have := HKT.out.2.2.2.1
            simp only
            omega)
      have HAE : Hid (∀ (h : m < al.length), al[m].Do = 6) := Lib.hid (fun h => by
        subst hal
        simp [List.getElem_append_right, HL.out])
      rw [hal] at HAL
      have hbw := HB8.out.size
      clear HT4 HB8 HB7 HB6 HB5 HO8 HO7 HO6 HN7 HE5 HR5 HGX hal HLL HLM HA HAC
      go_wp2_with fail
      go_loopg [13, 65] (m + 1) (fun q y x wr => ∃ (i : Nat) (S : DevS) (F : Nat → Prop) (P : List (WrS × Value)) (Q : Nat → Prop), i ≤ m + 1 ∧ q = m + 1 - i ∧ x = .int .i64 i ∧ S.done ≤ i ∧ S.zones.length = N ∧ P.length ≤ i ∧ (i = m + 1 → S.gone = false) ∧ (∀ q ∈ P, WrI S q.1) ∧ KW w8.heap.size F wr y P Q ∧ OneK Z F0 w8 wr db S F)
      case atStart => exact ⟨0, S0, F0, [], fun _ => False, by omega, by omega, rfl, by rw [HS0.out.1]; omega, HN.out, by simp, fun h => by omega, fun q hq => (by cases hq), ⟨⟨owns_nil _ _ _ _, fun k e => e.elim, fun q hq => (by cases hq)⟩, fun g e => (by cases e)⟩, HT8.out⟩
      case round =>
        clear HT8
        obtain ⟨i, S, F, P, Q, hi, hq, rfl, hsd, hsz, hpl, hgo, hwi, hkw, ht⟩ := hrel
        obtain ⟨wo, hwo⟩ : ∃ wo, wo = wr := ⟨_, rfl⟩
        subst hwo
        have HQ := Lib.hid hq
        have HT := Lib.hid ht
        have HSD := Lib.hid hsd
        have HSZ := Lib.hid hsz
        have HWI := Lib.hid hwi
        have HKW := Lib.hid hkw
        have HGO := Lib.hid hgo
        obtain ⟨VK, ck, e0⟩ := owns_form hkw.row
        subst e0
        obtain ⟨L1, hL1⟩ : ∃ L1, P.length = L1 := ⟨_, rfl⟩
        have HL1 := Lib.hid hL1
        rw [hL1] at hpl HKW ⊢
        clear hq ht hsd hsz hwi hkw hgo hL1
        by_cases hlt : i < m + 1
        · have hll : i < al.length := by rw [HAN.out]; exact hlt
          have HALr := Lib.hid (HAL.out.keep HT.out.old (fun k e => e.2))
          obtain ⟨b, o, hbo, _, _, hx⟩ := HALr.out (by omega)
          have hbo := Option.some.inj hbo
          injection hbo with e1 e2 _
          subst e1 e2
          obtain ⟨vb, vk, vt, hf, h0, h1, h2, h3, h4, h5⟩ := hx i hll
          have hxo := HAO.out al[i] (List.getElem_mem hll)
          have hx6 : Hid (i = m → al[i].Do = 6) := Lib.hid (fun e => by subst e; exact HAE.out hll)
          obtain ⟨x, hx⟩ : ∃ x, al[i] = x := ⟨_, rfl⟩
          rw [hx] at hf h0 h1 h2 hxo hx6
          obtain ⟨D1, d1, D2, d2, D3, d3, rfl, rfl, rfl⟩ := hf.form
          rw [Nat.zero_add] at h0 h1 h2 h3 h4 h5
          have HXO := Lib.hid hxo
          have HFX := Lib.hid hf
          have HFW : Hid (∀ k, F k → k < wo.heap.size) := Lib.hid (fun k e => Z.lt HT.out.d k e)
          have hmk := make_ints N (by omega) (wo.alloc (.cells #[.int .i64 x.Do, .int .i64 x.zone, .int .i64 x.page, .slice D1 x.B.length d1, .slice D2 x.keep.length d2, .slice D3 x.tear.length d3] 39))
          obtain ⟨u2, hu2⟩ : ∃ u2, (wo.alloc (.cells #[.int .i64 x.Do, .int .i64 x.zone, .int .i64 x.page, .slice D1 x.B.length d1, .slice D2 x.keep.length d2, .slice D3 x.tear.length d3] 39)).alloc (zerosI N) = u2 := ⟨_, rfl⟩
          have HS2 : Hid (u2.heap.size = wo.heap.size + 1 + 1) := Lib.hid (by rw [← hu2, World.size_alloc, World.size_alloc])
          have HB2 : Hid (Below wo.heap.size wo u2) := Lib.hid (by rw [← hu2]; exact (Below.alloc (Below.refl _ _) (Nat.le_refl _) _).alloc (by rw [World.size_alloc]; omega) _)
          have HXB : Hid (Blk u2 wo.heap.size 39 (actCells x (.slice D1 x.B.length d1) (.slice D2 x.keep.length d2) (.slice D3 x.tear.length d3))) := Lib.hid (by rw [← hu2]; exact Blk.up (heap_alloc_new wo _) (Below.alloc (Below.refl _ _) (Nat.le_refl _) _) (by rw [World.size_alloc]; omega))
          have HSB : Hid (Blk u2 (wo.heap.size + 1) 3 (sureL S 0 N)) := Lib.hid (by
            rw [← hu2, sureL_zero]
            have := zerosI_blk N (wo.alloc (.cells #[.int .i64 x.Do, .int .i64 x.zone, .int .i64 x.page, .slice D1 x.B.length d1, .slice D2 x.keep.length d2, .slice D3 x.tear.length d3] 39))
            rw [World.size_alloc] at this
            exact this)
          have HT2 := Lib.hid (HT.out.up HB2.out)
          rw [hu2] at hmk
          clear hf hx hxo HALr
          go_wp2_with fail
          clear hmk hu2
          go_loopg [72] N (fun q x' wr' => ∃ z : Nat, z ≤ N ∧ q = N - z ∧ x' = .int .i64 z ∧ Kept (fun k => k = wo.heap.size + 1) u2 wr' ∧ Blk wr' (wo.heap.size + 1) 3 (sureL S z N))
          case atStart => exact ⟨0, by omega, by omega, rfl, Kept.refl _ _, HSB.out⟩
          case round =>
            clear HSB
            obtain ⟨z, hz, hq2, rfl, hk2, hsb⟩ := hrel
            have HQ2 := Lib.hid hq2
            have HK2 := Lib.hid hk2
            have HSB := Lib.hid hsb
            have hso := HT.out.old.size
            have HT3 := Lib.hid (HT2.out.keep hk2 (fun k e e2 => by have := HFW.out k e2; omega) (fun k e => by omega))
            clear hq2 hk2 hsb
            by_cases hzl : z < N
            · go_wp2_with fail
              refine (Z.sure z HT3.out.d).mono ?_
              rintro r u4 ⟨rfl, hb⟩
              have hsl : (sureL S z N).length = N := by simp [sureL]
              have hss := lt_of_block HSB.out
              have HB4 := Lib.hid hb
              have HSB4 := Lib.hid (HSB.out.up hb hss)
              have s0 : u4.cell? ⟨wo.heap.size + 1, z, none⟩ = some ((sureL S z N)[z]'(by omega)) := HSB4.out.cell z (by omega)
              have sf := HSB4.out.free z
              have HSS := Lib.hid (HSB4.out.put z (.int .i64 (S.sureOf (z : Int) : Int)))
              rw [sureL_set] at HSS
              have HKK := Lib.hid ((HK2.out.and (Kept.of_below hb)).put (.inl rfl) z (.int .i64 (S.sureOf (z : Int) : Int)))
              generalize (sureL S z N)[z]'(by omega) = sv at s0
              generalize (S.sureOf (z : Int) : Int) = sz at HSS HKK ⊢
              clear hb hsl
              go_wp2_with fail
              go_roundg (N - (z + 1))
              case rel => exact ⟨z + 1, by omega, rfl, by go_num, HKK.out, HSS.out⟩
              case measure => have := HQ2.out; omega
            · obtain rfl : z = N := by omega
              have HX3 := Lib.hid (HK2.out.blk HXB.out (by omega))
              have a0 : wr.cell? ⟨wo.heap.size, 0, none⟩ = some (.int .i64 x.Do) := blk_cell HX3.out 0 _ rfl
              have a1 : wr.cell? ⟨wo.heap.size, 1, none⟩ = some (.int .i64 x.zone) := blk_cell HX3.out 1 _ rfl
              have a2 : wr.cell? ⟨wo.heap.size, 2, none⟩ = some (.int .i64 x.page) := blk_cell HX3.out 2 _ rfl
              have a3 : wr.cell? ⟨wo.heap.size, 3, none⟩ = some (.slice D1 x.B.length d1) := blk_cell HX3.out 3 _ rfl
              have a4 : wr.cell? ⟨wo.heap.size, 4, none⟩ = some (.slice D2 x.keep.length d2) := blk_cell HX3.out 4 _ rfl
              have a5 : wr.cell? ⟨wo.heap.size, 5, none⟩ = some (.slice D3 x.tear.length d3) := blk_cell HX3.out 5 _ rfl
              have hss2 := HS2.out
              have HKW3 := Lib.hid ((HKW.out.up HB2.out).keep HK2.out (fun g e e2 => by have := (owns_own HKW.out.row g e).2; omega) (fun k e e2 => by have := (HKW.out.q k e).2; omega))
              have HFX3 : Hid (ActF (fun k => k < w8.heap.size ∧ ¬ F0 k) wr (.slice D1 x.B.length d1) (.slice D2 x.keep.length d2) (.slice D3 x.tear.length d3) x) := Lib.hid ((HFX.out.up HB2.out).keep HK2.out (fun k e e2 => by omega))
              have HG3 : Hid (Gl wr) := Lib.hid (HT3.out.old.cell (HG.out.below HBW.out) (fun e => by have := (HF0.out _ e).1; have := lt_of_cell HG.out; simp only at *; omega))
              have hF0 : ¬ F 0 := fun e => by
                have hw := lt_of_cell HG.out
                rcases HT.out.f 0 e with e | e
                · have := (HF0.out 0 e).1
                  simp only at hw
                  omega
                · have := HBW.out.size
                  simp only at hw
                  omega
              have HWF := Lib.hid (Z.wf HT3.out.d)
              have hsw := HT3.out.old.size
              go_wp2_with fail
              refine (do_at x _ _ _ Z HT3.out.d HG3.out hF0 (by have := HSD.out; omega) (HFX3.out.mono (fun k e => ⟨by omega, fun e2 => (HT.out.f k e2).elim e.2 (fun e3 => by omega)⟩)) HXO.out.1 HXO.out.2).mono ?_
              rintro r u5 ⟨tv, rfl, hd, hk, hv⟩
              obtain ⟨TV, tvc, e0, _⟩ := hv
              subst e0
              obtain ⟨tl, htl⟩ : ∃ tl, (actT S x).b.length = tl := ⟨_, rfl⟩
              rw [htl]
              have HT5 := Lib.hid (HT3.out.done hd hk)
              have HKW5 := Lib.hid (HKW3.out.done hk)
              have HX5 := Lib.hid (hk.blk HX3.out (fun e => by have := HFW.out _ e; omega))
              have HSB5 := Lib.hid (hk.blk HSB.out (fun e => by have := HFW.out _ e; omega))
              have HFX5 := Lib.hid (HFX3.out.keep hk (fun k e e2 => (HT.out.f k e2).elim e.2 (fun e3 => by omega)))
              have HSZ5 : Hid ((actS S x).zones.length = z) := Lib.hid (by rw [actS_zones]; exact HSZ.out)
              have HSD5 : Hid ((actS S x).done ≤ i + 1) := Lib.hid (by have := actS_done S x; have := HSD.out; omega)
              have HGO5 : Hid (i + 1 = m + 1 → (actS S x).gone = false) := Lib.hid (fun e => by rw [(act_six (hx6.out (by omega))).1]; rfl)
              have HWA : Hid (∀ q : WrS, WrI S q → stillB (actS S x) x (actT S x).e q = true → WrI (actS S x) q) := Lib.hid (fun q h hs => wr_act HWF.out h hs)
              have HWN : Hid (x.Do = 0 → (actT S x).e = 0 → WrI (actS S x) ⟨x.zone, (actT S x).n, x.B⟩) := Lib.hid (fun h0 he => wr_new h0 he)
              have HSU : Hid (x.Do ≠ 2 → ∀ n, S.sureOf n ≤ (actS S x).sureOf n) := Lib.hid (fun h n => sure_act HWF.out h n)
              have HSC : Hid (x.Do = 6 → ∀ n, (actS S x).sureOf n = (actS S x).point n) := Lib.hid (fun h n => sure_crash h n)
              have HLN : Hid (∀ k, grow F wr u5 k → k < u5.heap.size) := Lib.hid (fun k e => Z.lt hd k e)
              have hsz5 := hk.size
              have hxb5 := lt_of_block HX5.out
              generalize grow F wr u5 = F5 at HT5 HKW5 HLN
              generalize actS S x = S' at HT5 HSZ5 HSD5 HGO5 HWA HWN HSU HSC
              obtain ⟨tt, htt⟩ : ∃ t, actT S x = t := ⟨_, rfl⟩
              rw [htt] at HWA HWN ⊢
              obtain ⟨tn, te, tb⟩ := tt
              simp only at HWA HWN ⊢
              have HBT : Hid (Below u5.heap.size u5 (u5.alloc (.cells #[.int .i64 tn, .int .i64 te, .slice TV tl tvc] 41))) := Lib.hid (Below.alloc (Below.refl _ _) (Nat.le_refl _) _)
              have HTB : Hid (Blk (u5.alloc (.cells #[.int .i64 tn, .int .i64 te, .slice TV tl tvc] 41)) u5.heap.size 41 [.int .i64 tn, .int .i64 te, .slice TV tl tvc]) := Lib.hid (heap_alloc_new u5 _)
              obtain ⟨u6, hu6⟩ : ∃ u6, u5.alloc (.cells #[.int .i64 tn, .int .i64 te, .slice TV tl tvc] 41) = u6 := ⟨_, rfl⟩
              rw [hu6] at HBT HTB
              have HT6 := Lib.hid (HT5.out.up HBT.out)
              have HKW6 := Lib.hid (HKW5.out.up HBT.out)
              have HX6 := Lib.hid (HX5.out.up HBT.out hxb5)
              have HSB6 := Lib.hid (HSB5.out.up HBT.out (lt_of_block HSB5.out))
              have HFX6 := Lib.hid (HFX5.out.up HBT.out)
              have b0 : u6.cell? ⟨wo.heap.size, 0, none⟩ = some (.int .i64 x.Do) := blk_cell HX6.out 0 _ rfl
              have b1 : u6.cell? ⟨wo.heap.size, 1, none⟩ = some (.int .i64 x.zone) := blk_cell HX6.out 1 _ rfl
              have b3 : u6.cell? ⟨wo.heap.size, 3, none⟩ = some (.slice D1 x.B.length d1) := blk_cell HX6.out 3 _ rfl
              have t0 : u6.cell? ⟨u5.heap.size, 0, none⟩ = some (.int .i64 tn) := blk_cell HTB.out 0 _ rfl
              have t1 : u6.cell? ⟨u5.heap.size, 1, none⟩ = some (.int .i64 te) := blk_cell HTB.out 1 _ rfl
              have HF6 : Hid (∀ k, F5 k → k < u5.heap.size) := Lib.hid HLN.out
              clear hd hk htl htt HT3 HKW3 HX3 HFX3 HG3 HT5 HKW5 HX5 HSB5 HFX5 HSB HK2 a0 a1 a2 a3 a4 a5 HLN HQ2
              by_cases hnew : x.Do = 0 ∧ te = 0
              · obtain ⟨hn0, rfl⟩ := hnew
                have qd : (x.Do == 0) = true := by simpa using hn0
                have hsz6 := HBT.out.size
                obtain ⟨G, hG⟩ : ∃ G : Nat → Prop, G = fun j => (Value.slice VK L1 ck).ownBlock = some j := ⟨_, rfl⟩
                have HGo : Hid (∀ j, G j → (Value.slice VK L1 ck).ownBlock = some j ∧ j < wo.heap.size) := Lib.hid (fun j e => by rw [hG] at e; exact ⟨e, (owns_own HKW.out.row j e).2⟩)
                have HG1 : Hid (∀ j, (Value.slice VK L1 ck).ownBlock = some j → G j) := Lib.hid (fun j e => by rw [hG]; exact e)
                clear hG
                have HK0 : Hid (Kept G u6 u6.drew) := Lib.hid (Kept.refl _ _).drew
                have HK1 : Hid (Kept G u6 (u6.alloc (.cells #[] 5)).drew) := Lib.hid ((Kept.refl _ _).alloc _).drew
                have KS : ∀ u, Kept G u6 u → u.cell? ⟨wo.heap.size, 1, none⟩ = some (.int .i64 x.zone) ∧ u.cell? ⟨wo.heap.size, 3, none⟩ = some (.slice D1 x.B.length d1) ∧ u.cell? ⟨u5.heap.size, 0, none⟩ = some (.int .i64 tn) := fun u h => ⟨h.cell b1 (fun e => by have := (HGo.out _ e).2; simp only at this; omega), h.cell b3 (fun e => by have := (HGo.out _ e).2; simp only at this; omega), h.cell t0 (fun e => by have := (HGo.out _ e).2; simp only at this; omega)⟩
                obtain ⟨xl, hxl⟩ : ∃ xl, x.B.length = xl := ⟨_, rfl⟩
                have hxl100 := HXO.out.2.1
                have HXL := Lib.hid hxl
                rw [hxl] at KS b3 hxl100
                have HXR : Hid (RdV (u6.alloc (.cells #[] 5)).drew (u6.alloc (.cells #[] 5)).drew.heap.size D1 (cellsOf8 x.B)) := Lib.hid (HFX6.out.1.parts.1.rdV.up (Below.alloc (Below.refl _ _) (Nat.le_refl _) _).drew)
                have HX0 : Hid (D1 = none → d1 = 0) := Lib.hid HFX6.out.1.parts.2.2
                have HCL : Hid ((cellsOf8 x.B).length = xl) := Lib.hid (by rw [cells8_len]; exact HXL.out)
                have HE1 : Hid (RowV (u6.alloc (.cells #[] 5)).drew u6.heap.size 5 (.slice (some ⟨u6.heap.size, 0, none⟩) 0 0) []) := Lib.hid (RowV.new u6 _ _ (Nat.le_refl _))
                have HB61 : Hid (Below u6.heap.size u6 (u6.alloc (.cells #[] 5)).drew) := Lib.hid (Below.alloc (Below.refl _ _) (Nat.le_refl _) _).drew
                clear hxl
                go_wp2_with fail
                refine wp_region_held_drew (S := fun u => u.cell? ⟨wo.heap.size, 1, none⟩ = some (.int .i64 x.zone) ∧ u.cell? ⟨wo.heap.size, 3, none⟩ = some (.slice D1 xl d1) ∧ u.cell? ⟨u5.heap.size, 0, none⟩ = some (.int .i64 tn)) (by kernel_rfl) (KS _ HK0.out) (fun hHeld => ?_)
                show wpAnyH _ _ _ _ _ 13 _ _ _
                refine wpAnyH_take (i := 0) (v := ?_) rfl (by kernel_rfl) (by kernel_rfl) (by kernel_rfl) (fun _ _ _ h => h) (Or.inl ⟨by rfl, ?_⟩) (by assumption) ?_
                rotate_left
                · intro u hSu
                  try dsimp only at hSu
                  go_simp
                  try with_reducible rfl
                simp only [Act.put, List.setIfInBounds_toArray, List.set_cons_zero, List.set_cons_succ, List.getElem_toArray, List.getElem_cons_zero]
                refine wpAnyH_take (i := 1) (v := ?_) rfl (by kernel_rfl) (by kernel_rfl) (by kernel_rfl) (fun _ _ _ h => h) (Or.inl ⟨by rfl, ?_⟩) (by assumption) ?_
                rotate_left
                · intro u hSu
                  try dsimp only at hSu
                  go_simp
                  try with_reducible rfl
                simp only [Act.put, List.setIfInBounds_toArray, List.set_cons_zero, List.set_cons_succ, List.getElem_toArray, List.getElem_cons_zero, List.getElem_cons_succ]
                refine wpAnyH_take (i := 2) (v := ?_) rfl (by kernel_rfl) (by kernel_rfl) (by kernel_rfl) (fun _ _ _ h => h) (Or.inl ⟨by rfl, ?_⟩) (by assumption) ?_
                rotate_left
                · intro u hSu
                  try dsimp only at hSu
                  go_simp
                  try with_reducible rfl
                simp only [Act.put, List.setIfInBounds_toArray, List.set_cons_zero, List.set_cons_succ, List.getElem_toArray, List.getElem_cons_zero, List.getElem_cons_succ]
                refine wpAnyH_take (i := 3) (v := ?_) rfl (by kernel_rfl) (by kernel_rfl) (by kernel_rfl) (fun _ _ _ h => h) (Or.inl ⟨by rfl, ?_⟩) (by assumption) ?_
                rotate_left
                · intro u hSu
                  try dsimp only at hSu
                  go_simp
                  try with_reducible rfl
                simp only [Act.put, List.setIfInBounds_toArray, List.set_cons_zero, List.set_cons_succ, List.getElem_toArray, List.getElem_cons_zero, List.getElem_cons_succ]
                refine wpAnyH_take (i := 4) (v := ?_) rfl (by kernel_rfl) (by kernel_rfl) (by kernel_rfl) (fun _ _ _ h => h) (Or.inl ⟨by rfl, ?_⟩) (by assumption) ?_
                rotate_left
                · intro u hSu
                  try dsimp only at hSu
                  go_simp
                  try with_reducible rfl
                simp only [Act.put, List.setIfInBounds_toArray, List.set_cons_zero, List.set_cons_succ, List.getElem_toArray, List.getElem_cons_zero, List.getElem_cons_succ]
                refine wpAnyH_take (i := 6) (v := ?_) rfl (by kernel_rfl) (by kernel_rfl) (by kernel_rfl) (fun _ _ _ h => h) (Or.inl ⟨by rfl, ?_⟩) (by assumption) ?_
                rotate_left
                · intro u hSu
                  try dsimp only at hSu
                  go_simp
                  try with_reducible rfl
                simp only [Act.put, List.setIfInBounds_toArray, List.set_cons_zero, List.set_cons_succ, List.getElem_toArray, List.getElem_cons_zero, List.getElem_cons_succ]
                refine wpAnyH_take (i := 7) (v := ?_) rfl (by kernel_rfl) (by kernel_rfl) (by kernel_rfl) (fun _ _ _ h => h) (Or.inl ⟨by rfl, ?_⟩) (by assumption) ?_
                rotate_left
                · intro u hSu
                  try dsimp only at hSu
                  go_simp
                  try with_reducible rfl
                simp only [Act.put, List.setIfInBounds_toArray, List.set_cons_zero, List.set_cons_succ, List.getElem_toArray, List.getElem_cons_zero, List.getElem_cons_succ]
                refine wpAnyH_ready (rs := [5]) (by kernel_rfl) (by simp) ?_
                refine (AllReadyH.cons rfl (fun K hK => ?_) AllReadyH.nil)
                go_simp
                refine hK.out _ _ ?_ (fun hHeld => ?_)
                · exact KS _ HK1.out
                clear hK K
                try simp only [Act.put, List.setIfInBounds_toArray, List.set_cons_zero, List.set_cons_succ, List.getElem_toArray, List.getElem_cons_zero, List.getElem_cons_succ]
                refine wpAnyH_ready (rs := [8]) (by kernel_rfl) (by simp) ?_
                refine (AllReadyH.cons rfl (fun K hK => ?_) AllReadyH.nil)
                refine stepR (u6.alloc (.cells #[] 5)).drew (by rfl) (.tmp 98) (.tmp 100) 35 5 (.int .u8 0) 1 (by rfl) Tryd.underlying35 infoU8 rfl (by decide) u6.heap.size 0 xl d1 (.slice (some ⟨u6.heap.size, 0, none⟩) 0 0) [] (cellsOf8 x.B) D1 (by rfl) HE1.out rfl (by rfl) HCL.out HXR.out HX0.out one8 (by omega) HB61.out.size ?_
                intro bv w2 ho hg
                obtain ⟨BA, bc, rfl⟩ : ∃ A c, bv = .slice A xl c := (by obtain ⟨A, c, e, _⟩ := ho.out; exact ⟨A, c, by rw [e, nil_app_len HCL.out]⟩)
                have HO2 : Hid (RowV w2 u6.heap.size 5 (.slice BA xl bc) (cellsOf8 x.B)) := Lib.hid ho
                have HB62 : Hid (Below u6.heap.size u6 w2) := Lib.hid (HB61.out.grown hg HB61.out.size (fun j e => (HE1.out.own j e).1))
                have HK2 : Hid (Kept G u6 w2) := Lib.hid (Kept.of_below HB62.out)
                have HK3 : Hid (Kept G u6 (w2.alloc (.cells #[.int .i64 x.zone, .int .i64 tn, .slice BA xl bc] 55))) := Lib.hid (HK2.out.alloc _)
                have HR3 : Hid ((w2.alloc (.cells #[.int .i64 x.zone, .int .i64 tn, .slice BA xl bc] 55)).ownsRow w8.heap.size 55 3 (.slice VK L1 ck) L1 (wCells P)) := Lib.hid (by
                  have := owns_rise (owns_rise HKW6.out.row HB62.out) (Below.alloc (Below.refl w2.heap.size w2) (Nat.le_refl _) (.cells #[.int .i64 x.zone, .int .i64 tn, .slice BA xl bc] 55))
                  rwa [HL1.out] at this)
                have HN3 : Hid (RdV (w2.alloc (.cells #[.int .i64 x.zone, .int .i64 tn, .slice BA xl bc] 55)) (w2.alloc (.cells #[.int .i64 x.zone, .int .i64 tn, .slice BA xl bc] 55)).heap.size (some ⟨w2.heap.size, 0, none⟩) (wCell (⟨x.zone, tn, x.B⟩, .slice BA xl bc))) := Lib.hid (fun _ => ⟨w2.heap.size, 0, rfl, by rw [World.size_alloc]; omega, fun i hi => by rw [Nat.zero_add]; exact Blk.cell (heap_alloc_new w2 _) i hi⟩)
                clear ho hg
                refine hK.out _ _ ?_ (fun hHeld => ?_)
                · exact KS _ HK2.out
                clear hK K
                try simp only [Act.put, List.setIfInBounds_toArray, List.set_cons_zero, List.set_cons_succ, List.getElem_toArray, List.getElem_cons_zero, List.getElem_cons_succ]
                refine wpAnyH_take (i := 9) (v := ?_) rfl (by kernel_rfl) (by kernel_rfl) (by kernel_rfl) (fun _ _ _ h => h) (Or.inl ⟨by rfl, ?_⟩) (by assumption) ?_
                rotate_left
                · intro u hSu
                  try dsimp only at hSu
                  go_simp
                  try with_reducible rfl
                simp only [Act.put, List.setIfInBounds_toArray, List.set_cons_zero, List.set_cons_succ, List.getElem_toArray, List.getElem_cons_zero, List.getElem_cons_succ]
                refine wpAnyH_ready (rs := [10]) (by kernel_rfl) (by simp) ?_
                refine (AllReadyH.cons rfl (fun K hK => ?_) AllReadyH.nil)
                go_simp
                refine hK.out _ _ ?_ (fun hHeld => ?_)
                · exact KS _ HK3.out
                clear hK K
                try simp only [Act.put, List.setIfInBounds_toArray, List.set_cons_zero, List.set_cons_succ, List.getElem_toArray, List.getElem_cons_zero, List.getElem_cons_succ]
                refine wpAnyH_ready (rs := [11]) (by kernel_rfl) (by simp) ?_
                refine (AllReadyH.cons rfl (fun K hK => ?_) AllReadyH.nil)
                refine stepK (w2.alloc (.cells #[.int .i64 x.zone, .int .i64 tn, .slice BA xl bc] 55)) (by rfl) (.tmp 93) (.tmp 103) 52 55 (.agg #[.int .i64 0, .int .i64 0, .slice none 0 0]) 3 40 (by rfl) Tryd.underlying52 infoWrit rfl (by decide) (by decide) w8.heap.size L1 1 1 (.slice VK L1 ck) (wCells P) (wCell (⟨x.zone, tn, x.B⟩, .slice BA xl bc)) (some ⟨w2.heap.size, 0, none⟩) (by rfl) HR3.out (by rfl) rfl HN3.out (fun e => by cases e) (fun u hu => by simp only [wCell, List.mem_cons, List.not_mem_nil, or_false] at hu; rcases hu with rfl | rfl | rfl <;> rfl) (by omega) (Nat.le_trans HT6.out.old.size HK3.out.size) ?_
                intro kv ws ho hg
                obtain ⟨KVA, kvc, rfl⟩ := owns_form ho
                have HK4 : Hid (Kept G u6 ws) := Lib.hid (HK3.out.grown hg (fun j e => .inl (HG1.out j e)))
                have HRs := Lib.hid (KW.more (k := ⟨x.zone, tn, x.B⟩) HKW6.out (fun k e => by have := HF6.out k e; omega) HB62.out HO2.out hg (by rw [HL1.out]; exact ho))
                clear ho hg
                refine hK.out _ _ ?_ (fun hHeld => ?_)
                · exact KS _ HK4.out
                clear hK K
                try simp only [Act.put, List.setIfInBounds_toArray, List.set_cons_zero, List.set_cons_succ, List.getElem_toArray, List.getElem_cons_zero, List.getElem_cons_succ]
                refine wpAnyH_take (i := 12) (v := ?_) rfl (by kernel_rfl) (by kernel_rfl) (by kernel_rfl) (fun _ _ _ h => h) (Or.inl ⟨by rfl, ?_⟩) (by assumption) ?_
                rotate_left
                · intro u hSu
                  try dsimp only at hSu
                  go_simp
                  try with_reducible rfl
                simp only [Act.put, List.setIfInBounds_toArray, List.set_cons_zero, List.set_cons_succ, List.getElem_toArray, List.getElem_cons_zero, List.getElem_cons_succ]
                refine wpAnyH_done (by kernel_rfl) ?_ _
                have HLs : Hid ((P ++ [((⟨x.zone, tn, x.B⟩ : WrS), Value.slice BA xl bc)]).length = L1 + 1) := Lib.hid (by rw [List.length_append, HL1.out]; rfl)
                have HP1 : Hid (∀ q ∈ P ++ [((⟨x.zone, tn, x.B⟩ : WrS), Value.slice BA xl bc)], stillB S' x 0 q.1 = true → WrI S' q.1) := Lib.hid (fun q hq hs => by
                  rcases List.mem_append.1 hq with hq | hq
                  · exact HWA.out q.1 (HWI.out q hq) hs
                  · simp only [List.mem_singleton] at hq
                    subst hq
                    exact HWN.out hn0 (by simp))
                have HTs := Lib.hid (HT6.out.keep HK4.out (fun k e e2 => (HKW6.out.own k (HGo.out k e).1).1 e2) (fun k e => (owns_own HKW6.out.row k (HGo.out k e).1).1))
                have HXs := Lib.hid (HK4.out.blk HX6.out (fun e => by have := (HGo.out _ e).2; omega))
                have HTBs := Lib.hid (HK4.out.blk HTB.out (fun e => by have := (HGo.out _ e).2; omega))
                have HSBs := Lib.hid (HK4.out.blk HSB6.out (fun e => by have := (HGo.out _ e).2; omega))
                have hws : u6.heap.size ≤ ws.heap.size := HK4.out.size
                generalize P ++ [((⟨x.zone, tn, x.B⟩ : WrS), Value.slice BA xl bc)] = P1 at HRs HLs HP1
                obtain ⟨L2, hL2⟩ : ∃ L2, L1 + 1 = L2 := ⟨_, rfl⟩
                have hL2b : L2 ≤ i + 1 := by omega
                rw [hL2] at HLs ⊢
                clear hL2 HK0 HK1 HK2 HK3 HR3 HN3 HO2 HB62 HE1 HXR HKW6 HX6 HTB HSB6 HT6 b0 b1 b3 t0 t1 HFX6 hHeld KS
                go_wp2_with fail
                have HFs : Hid (∀ k, F5 k → k < ws.heap.size) := Lib.hid (fun k e => Z.lt HTs.out.d k e)
                have hxs := lt_of_block HXs.out
                have hts := lt_of_block HTBs.out
                have hsbs := lt_of_block HSBs.out
                have HWF5 := Lib.hid (Z.wf HTs.out.d)
                go_loopg [19, 108] L2 (fun q y x' wr' => ∃ j : Nat, j ≤ L2 ∧ q = L2 - j ∧ x' = .int .i64 j ∧ wr'.ownsRow ws.heap.size 55 3 y ((P1.take j).filter (fun q => stillB S' x 0 q.1)).length (wCells ((P1.take j).filter (fun q => stillB S' x 0 q.1))) ∧ Below ws.heap.size ws wr')
                case atStart => exact ⟨0, by omega, by omega, rfl, by simpa [wCells] using owns_new ws ws.heap.size 55 3 (Nat.le_refl _), Below.alloc (Below.refl _ _) (Nat.le_refl _) _⟩
                case round =>
                  obtain ⟨j, hj, hq2, rfl, hrow, hb⟩ := hrel
                  have HQ3 := Lib.hid hq2
                  have HB := Lib.hid hb
                  obtain ⟨fl, hfl⟩ : ∃ fl, (P1.take j).filter (fun q => stillB S' x 0 q.1) = fl := ⟨_, rfl⟩
                  rw [hfl] at hrow
                  obtain ⟨ln, hln⟩ : ∃ ln, fl.length = ln := ⟨_, rfl⟩
                  rw [hln] at hrow
                  have hlnb : ln ≤ j := by
                    rw [← hln, ← hfl]
                    exact Nat.le_trans (List.length_filter_le _ _) (by rw [List.length_take]; omega)
                  obtain ⟨NA, nc, e0⟩ := owns_form hrow
                  subst e0
                  have HROW := Lib.hid hrow
                  have HFL := Lib.hid (And.intro hfl hln)
                  clear hq2 hb hrow hfl hln
                  by_cases hjl : j < L2
                  · have hjp : j < P1.length := by rw [HLs.out]; exact hjl
                    obtain ⟨gk, gkc, ekv, _, hgl, hgx⟩ := owns_cells HRs.out.row (by omega)
                    rw [HLs.out] at ekv
                    obtain ⟨pk, hpk⟩ : ∃ pk, P1[j] = pk := ⟨_, rfl⟩
                    have hmem : pk ∈ P1 := by rw [← hpk]; exact List.getElem_mem hjp
                    obtain ⟨kk, bv⟩ := pk
                    obtain ⟨BA, bc, hbv, _⟩ := HRs.out.each _ hmem
                    simp only at hbv
                    subst hbv
                    have hcw := fun t (ht : t < 3) => flatK_get wCell 3 wCell_len P1 j t hjp ht
                    rw [hpk] at hcw
                    obtain ⟨kz, kp, kb⟩ := kk
                    obtain ⟨kl, hkl⟩ : ∃ kl, kb.length = kl := ⟨_, rfl⟩
                    have e0 : ws.cell? ⟨gk, j * 3, none⟩ = some (.int .i64 kz) := hgx _ _ (by have := hcw 0 (by omega); simpa [wCells, wCell] using this)
                    have e1 : ws.cell? ⟨gk, j * 3 + 1, none⟩ = some (.int .i64 kp) := hgx _ _ (by have := hcw 1 (by omega); simpa [wCells, wCell] using this)
                    have e2 : ws.cell? ⟨gk, j * 3 + 2, none⟩ = some (.slice BA kb.length bc) := hgx _ _ (by have := hcw 2 (by omega); simpa [wCells, wCell] using this)
                    rw [hkl] at e2
                    injection ekv with ekv _ ekc
                    subst ekv
                    subst ekc
                    have f0 := (HB.out.cell (p := ⟨gk, j * 3, none⟩) hgl).trans e0
                    have f1 := (HB.out.cell (p := ⟨gk, j * 3 + 1, none⟩) hgl).trans e1
                    have f2 := (HB.out.cell (p := ⟨gk, j * 3 + 2, none⟩) hgl).trans e2
                    have HBj : Hid (Below wr.heap.size wr (wr.alloc (.cells #[.int .i64 kz, .int .i64 kp, .slice BA kl bc] 55))) := Lib.hid (Below.alloc (Below.refl _ _) (Nat.le_refl _) _)
                    have HWB : Hid (Blk (wr.alloc (.cells #[.int .i64 kz, .int .i64 kp, .slice BA kl bc] 55)) wr.heap.size 55 [.int .i64 kz, .int .i64 kp, .slice BA kl bc]) := Lib.hid (heap_alloc_new wr _)
                    have HROWj := Lib.hid (owns_rise HROW.out HBj.out)
                    have HPK := Lib.hid (And.intro hpk hkl)
                    clear hcw hgx e0 e1 e2 hpk hkl hmem
                    go_upto_region 23 with fail
                    obtain ⟨uj, huj⟩ : ∃ uj, wr.alloc (.cells #[.int .i64 kz, .int .i64 kp, .slice BA kl bc] 55) = uj := ⟨_, rfl⟩
                    rw [huj] at HBj HWB HROWj ⊢
                    have HBs := Lib.hid (below_on HB.out HBj.out)
                    have HTj := Lib.hid (HTs.out.up HBs.out)
                    have g0 : uj.cell? ⟨wo.heap.size, 0, none⟩ = some (.int .i64 x.Do) := blk_cell (HXs.out.up HBs.out hxs) 0 _ rfl
                    have g1 : uj.cell? ⟨wo.heap.size, 1, none⟩ = some (.int .i64 x.zone) := blk_cell (HXs.out.up HBs.out hxs) 1 _ rfl
                    have g2 : uj.cell? ⟨u5.heap.size, 1, none⟩ = some (.int .i64 0) := blk_cell (HTBs.out.up HBs.out hts) 1 _ rfl
                    have g3 : uj.cell? ⟨wr.heap.size, 0, none⟩ = some (.int .i64 kz) := blk_cell HWB.out 0 _ rfl
                    have g4 : uj.cell? ⟨wr.heap.size, 1, none⟩ = some (.int .i64 kp) := blk_cell HWB.out 1 _ rfl
                    have hj0 : wo.heap.size < uj.heap.size := Nat.lt_of_lt_of_le hxs HBs.out.size
                    have hj1 : u5.heap.size < uj.heap.size := Nat.lt_of_lt_of_le hts HBs.out.size
                    have hj2 := lt_of_block HWB.out
                    clear huj f0 f1 f2
                    go_cut [135] (fun s135 wx => s135 = .bool (stillB S' x 0 ⟨kz, kp, kb⟩) ∧ Below uj.heap.size uj wx)
                    case first =>
                      have pP := fun q : In (fun u => Below uj.heap.size uj u) => Z.point kz (HTj.out.up q.ok).d
                      have h0 := fun q : In (fun u => Below uj.heap.size uj u) => (q.ok.cell (p := ⟨wo.heap.size, 0, none⟩) hj0).trans g0
                      have h1 := fun q : In (fun u => Below uj.heap.size uj u) => (q.ok.cell (p := ⟨wo.heap.size, 1, none⟩) hj0).trans g1
                      have h2 := fun q : In (fun u => Below uj.heap.size uj u) => (q.ok.cell (p := ⟨u5.heap.size, 1, none⟩) hj1).trans g2
                      have h3 := fun q : In (fun u => Below uj.heap.size uj u) => (q.ok.cell (p := ⟨wr.heap.size, 0, none⟩) hj2).trans g3
                      have h4 := fun q : In (fun u => Below uj.heap.size uj u) => (q.ok.cell (p := ⟨wr.heap.size, 1, none⟩) hj2).trans g4
                      have upB : ∀ {a b : World}, Below uj.heap.size uj a → Below a.heap.size a b → Below uj.heap.size uj b := fun h hb => below_on h hb
                      obtain ⟨pt, hpt⟩ : ∃ pt, S'.point kz = pt := ⟨_, rfl⟩
                      rw [hpt] at pP
                      have HST : Hid (stillB S' x 0 ⟨kz, kp, kb⟩ = ((decide (x.Do ≠ 2) || decide ((0 : Int) ≠ 0) || decide (kz ≠ x.zone)) && decide (kp < (pt : Int)))) := Lib.hid (by unfold stillB; simp only [hpt])
                      clear g0 g1 g2 g3 g4 hpt
                      by_cases hz2 : x.Do = 2
                      · exact absurd (hn0.symm.trans hz2) (by decide)
                      · have qa : (x.Do != 2) = true := by simpa using hz2
                        have HZ2 := Lib.hid hz2
                        clear hz2
                        refine wp_region_in (fun u => Below uj.heap.size uj u) (Below.refl _ _).drew (by kernel_rfl) (by kernel_rfl) (fun ne => ?_)
                        repeat (go_big_quiet_step (first
                          | (go_at_call 22; with_reducible exact In.more upB (pP _))))
                        refine wpQuiet_nil ?_
                        intro nq
                        have HBq := Lib.hid nq.ok
                        clear pP h0 h1 h2 h3 h4
                        go_wp2_with fail
                        go_meet
                        case rel => exact ⟨by rw [HST.out]; simp [HZ2.out], HBq.out⟩
                    case rest =>
                      obtain ⟨rfl, hbc⟩ := hcut
                      have HBc := Lib.hid (below_on HBs.out hbc)
                      have HWc := Lib.hid (HWB.out.up hbc hj2)
                      have HRc := Lib.hid (owns_rise HROWj.out hbc)
                      clear hbc g0 g1 g2 g3 g4
                      obtain ⟨st, hst⟩ : ∃ st, stillB S' x 0 ⟨kz, kp, kb⟩ = st := ⟨_, rfl⟩
                      have HFN : Hid ((P1.take (j + 1)).filter (fun q => stillB S' x 0 q.1) = fl ++ (if st = true then [(⟨kz, kp, kb⟩, .slice BA kl bc)] else [])) := Lib.hid (by
                        rw [List.take_succ_eq_append_getElem hjp, List.filter_append, HFL.out.1, HPK.out.1, HPK.out.2]
                        cases st
                        · simp [hst]
                        · simp [hst])
                      rw [hst]
                      clear hst
                      cases st
                      · go_wp2_with fail
                        go_roundg (L2 - (j + 1))
                        case rel => exact ⟨j + 1, by omega, rfl, by go_num, by rw [HFN.out]; simp only [Bool.false_eq_true, if_false, List.append_nil]; rw [HFL.out.2]; exact HRc.out, HBc.out⟩
                        case measure => have := HQ3.out; omega
                      · have w0 : wc.cell? ⟨wr.heap.size, 0, none⟩ = some (.int .i64 kz) := blk_cell HWc.out 0 _ rfl
                        have w1 : wc.cell? ⟨wr.heap.size, 1, none⟩ = some (.int .i64 kp) := blk_cell HWc.out 1 _ rfl
                        have w2 : wc.cell? ⟨wr.heap.size, 2, none⟩ = some (.slice BA kl bc) := blk_cell HWc.out 2 _ rfl
                        have HBd : Hid (Below wc.heap.size wc (wc.alloc (.cells #[.int .i64 kz, .int .i64 kp, .slice BA kl bc] 55))) := Lib.hid (Below.alloc (Below.refl _ _) (Nat.le_refl _) _)
                        have HRd := Lib.hid (owns_rise HRc.out HBd.out)
                        have HBe := Lib.hid (below_on HBc.out HBd.out)
                        have HNd : Hid (RdV (wc.alloc (.cells #[.int .i64 kz, .int .i64 kp, .slice BA kl bc] 55)) (wc.alloc (.cells #[.int .i64 kz, .int .i64 kp, .slice BA kl bc] 55)).heap.size (some ⟨wc.heap.size, 0, none⟩) (wCell (⟨kz, kp, kb⟩, .slice BA kl bc))) := Lib.hid (fun _ => ⟨wc.heap.size, 0, rfl, by rw [World.size_alloc]; omega, fun i hi => by rw [Nat.zero_add]; exact Blk.cell (heap_alloc_new wc _) i hi⟩)
                        go_wp2_with (first
                          | (at_builtin; refine appK _ rfl (.tmp 136) (.tmp 138) 52 55 (.agg #[.int .i64 0, .int .i64 0, .slice none 0 0]) 3 40 rfl Tryd.underlying52 infoWrit rfl (by decide) (by decide) ws.heap.size ln 1 1 (.slice NA ln nc) (wCells fl) (wCell (⟨kz, kp, kb⟩, .slice BA kl bc)) (some ⟨wc.heap.size, 0, none⟩) rfl HRd.out rfl rfl HNd.out (fun e => by cases e) ?h3a ?h3b ?h3c ?_; (case h3a => intro u hu; simp only [wCell, List.mem_cons, List.not_mem_nil, or_false] at hu; rcases hu with rfl | rfl | rfl <;> rfl); (case h3b => omega); (case h3c => exact HBe.out.size); intro v9 w9 ho hg; have HO9 := Lib.hid ho; have HB9 := Lib.hid (HBe.out.grown hg HBe.out.size (fun k e => (owns_own HRd.out k e).1)); clear ho hg)
                          | fail)
                        go_roundg (L2 - (j + 1))
                        case rel => exact ⟨j + 1, by omega, rfl, by go_num, by rw [HFN.out]; simp only [if_true]; rw [List.length_append, HFL.out.2, wCells_app]; exact HO9.out, HB9.out⟩
                        case measure => have := HQ3.out; omega
                  · obtain rfl : j = L2 := by omega
                    have HFP : Hid (fl = P1.filter (fun q => stillB S' x 0 q.1)) := Lib.hid (by rw [← HFL.out.1, List.take_of_length_le (by rw [HLs.out]; omega)])
                    have HROW2 := HROW
                    obtain ⟨we, ewe⟩ : ∃ we, we = wr := ⟨_, rfl⟩
                    subst ewe
                    go_wp2_with fail
                    go_loopg [143] z (fun q x' wr' => ∃ k : Nat, k ≤ z ∧ q = z - k ∧ x' = .int .i64 k ∧ Below we.heap.size we wr')
                    case atStart => exact ⟨0, by omega, by omega, rfl, Below.refl _ _⟩
                    case round =>
                      obtain ⟨k, hk, hq4, rfl, hb6⟩ := hrel
                      have HQ4 := Lib.hid hq4
                      have HB6 := Lib.hid hb6
                      have HBw := Lib.hid (below_on HB.out hb6)
                      clear hq4 hb6
                      by_cases hkz : k < z
                      · go_upto_region 30 with fail
                        have HTw := Lib.hid (HTs.out.up HBw.out)
                        have pS := fun q : In (fun u => Below wr.heap.size wr u) => Z.sure k (HTw.out.up q.ok).d
                        have pP := fun q : In (fun u => Below wr.heap.size wr u) => Z.point k (HTw.out.up q.ok).d
                        have g0 : wr.cell? ⟨wo.heap.size, 0, none⟩ = some (.int .i64 x.Do) := blk_cell (HXs.out.up HBw.out hxs) 0 _ rfl
                        have g1 : wr.cell? ⟨wo.heap.size + 1, k, none⟩ = some (.int .i64 (S.sureOf (k : Int) : Int)) := blk_cell (HSBs.out.up HBw.out hsbs) k _ (by simp [sureL, hkz])
                        have hw0 : wo.heap.size < wr.heap.size := Nat.lt_of_lt_of_le hxs HBw.out.size
                        have hw1 : wo.heap.size + 1 < wr.heap.size := Nat.lt_of_lt_of_le hsbs HBw.out.size
                        have h0 := fun q : In (fun u => Below wr.heap.size wr u) => (q.ok.cell (p := ⟨wo.heap.size, 0, none⟩) hw0).trans g0
                        have h1 := fun q : In (fun u => Below wr.heap.size wr u) => (q.ok.cell (p := ⟨wo.heap.size + 1, k, none⟩) hw1).trans g1
                        have upB : ∀ {a b : World}, Below wr.heap.size wr a → Below a.heap.size a b → Below wr.heap.size wr b := fun h hb => below_on h hb
                        have hle := sure_le HWF5.out (k : Int)
                        have hsu := fun h => HSU.out h (k : Int)
                        have hsc := fun h => HSC.out h (k : Int)
                        generalize S'.sureOf (k : Int) = sa at pS hle hsu hsc
                        generalize S'.point (k : Int) = sp at pP hle hsc
                        generalize S.sureOf (k : Int) = ss at h1 hsu
                        have q2 : decide ((sp : Int) < (sa : Int)) = false := by simp; omega
                        have q2n : decide (sp < sa) = false := by simp; omega
                        clear g0 g1 hle
                        have hkn : (k : Int) < (z : Int) := by omega
                        have hkn0 : (0 : Int) ≤ (k : Int) := by omega
                        have qa : (x.Do != 2) = true := by simp [hn0]
                        have q1 : decide ((sa : Int) < (ss : Int)) = false := by have := hsu (by rw [hn0]; decide); simp; omega
                        have q1n : decide (sa < ss) = false := by have := hsu (by rw [hn0]; decide); simp; omega
                        have q6 : (x.Do == 6) = false := by simp [hn0]
                        clear hsu hsc
                        refine wp_region_in (fun u => Below wr.heap.size wr u) (Below.refl _ _).drew (by kernel_rfl) (by kernel_rfl) (fun ne => ?_)
                        repeat (go_big_quiet_step (first
                          | (go_at_call 21; with_reducible exact In.more upB (pS _))
                          | (go_at_call 22; with_reducible exact In.more upB (pP _))))
                        refine wpQuiet_nil ?_
                        intro nq
                        have HBq := Lib.hid (below_on HB6.out nq.ok)
                        clear pP pS h0 h1
                        generalize nq.w = wq at *
                        go_wp2_with fail
                        go_roundg (z - (k + 1))
                        case rel => exact ⟨k + 1, by omega, rfl, by go_num, HBq.out⟩
                        case measure => have := HQ4.out; omega
                      · obtain rfl : k = z := by omega
                        go_wp2_with fail
                        go_roundg (m + 1 - (i + 1))
                        case rel =>
                          refine ⟨i + 1, S', F5, P1.filter (fun q => stillB S' x 0 q.1), _, by omega, rfl, by go_num, HSD5.out, HSZ5.out, ?_, HGO5.out, fun q hq => HP1.out q (List.mem_filter.1 hq).1 (List.mem_filter.1 hq).2, ⟨⟨?_, ((HRs.out.up HBw.out)).q, fun q hq => (HRs.out.up HBw.out).each q (List.mem_filter.1 hq).1⟩, fun g e => ?_⟩, HTs.out.up HBw.out⟩
                          · rw [← HFP.out, HFL.out.2]
                            omega
                          · rw [← HFP.out]
                            have := owns_rise HROW2.out HB6.out
                            rw [HFL.out.2]
                            exact ⟨this.1, this.2.imp id fun ⟨g', c', cur, hv, hb, r⟩ => ⟨g', c', cur, hv, Nat.le_trans HTs.out.old.size hb, r⟩⟩
                          · have hg := (owns_own HROW2.out g e).1
                            exact ⟨fun e2 => by have := HFs.out g e2; omega, fun e2 => by have := (HRs.out.q g e2).2; omega⟩
                        case measure => have := HQ.out; omega
              · have HP1 : Hid (∀ q ∈ P, stillB S' x te q.1 = true → WrI S' q.1) := Lib.hid (fun q hq hs => HWA.out q.1 (HWI.out q hq) hs)
                have HR6 := Lib.hid HKW6.out.toRW
                by_cases hd0 : x.Do = 0
                · have qd : (x.Do == 0) = true := by simpa using hd0
                  have qe : (te == 0) = false := by simpa using (fun e => hnew ⟨hd0, e⟩)
                  have HD0 := Lib.hid hd0
                  clear hd0 hnew
                  go_wp2_with fail
                  obtain ⟨ws, e1⟩ : ∃ ws, ws = u6 := ⟨_, rfl⟩
                  subst e1
                  have HTs := Lib.hid HT6.out
                  have HXs := Lib.hid HX6.out
                  have HTBs := Lib.hid HTB.out
                  have HSBs := Lib.hid HSB6.out
                  have HRs := Lib.hid HR6.out
                  have HLs := Lib.hid HL1.out
                  obtain ⟨KVA, e2⟩ : ∃ a, a = VK := ⟨_, rfl⟩
                  subst e2
                  obtain ⟨kvc, e3⟩ : ∃ a, a = ck := ⟨_, rfl⟩
                  subst e3
                  obtain ⟨P1, e4⟩ : ∃ a, a = P := ⟨_, rfl⟩
                  subst e4
                  obtain ⟨L2, e5⟩ : ∃ a, a = L1 := ⟨_, rfl⟩
                  subst e5
                  have hL2b : L2 ≤ i + 1 := by omega
                  clear hu6
                  clear t0 t1 b0 b1 b3 qd qe
                  have HFs : Hid (∀ k, F5 k → k < ws.heap.size) := Lib.hid (fun k e => Z.lt HTs.out.d k e)
                  have hxs := lt_of_block HXs.out
                  have hts := lt_of_block HTBs.out
                  have hsbs := lt_of_block HSBs.out
                  have HWF5 := Lib.hid (Z.wf HTs.out.d)
                  go_loopg [19, 108] L2 (fun q y x' wr' => ∃ j : Nat, j ≤ L2 ∧ q = L2 - j ∧ x' = .int .i64 j ∧ wr'.ownsRow ws.heap.size 55 3 y ((P1.take j).filter (fun q => stillB S' x te q.1)).length (wCells ((P1.take j).filter (fun q => stillB S' x te q.1))) ∧ Below ws.heap.size ws wr')
                  case atStart => exact ⟨0, by omega, by omega, rfl, by simpa [wCells] using owns_new ws ws.heap.size 55 3 (Nat.le_refl _), Below.alloc (Below.refl _ _) (Nat.le_refl _) _⟩
                  case round =>
                    obtain ⟨j, hj, hq2, rfl, hrow, hb⟩ := hrel
                    have HQ3 := Lib.hid hq2
                    have HB := Lib.hid hb
                    obtain ⟨fl, hfl⟩ : ∃ fl, (P1.take j).filter (fun q => stillB S' x te q.1) = fl := ⟨_, rfl⟩
                    rw [hfl] at hrow
                    obtain ⟨ln, hln⟩ : ∃ ln, fl.length = ln := ⟨_, rfl⟩
                    rw [hln] at hrow
                    have hlnb : ln ≤ j := by
                      rw [← hln, ← hfl]
                      exact Nat.le_trans (List.length_filter_le _ _) (by rw [List.length_take]; omega)
                    obtain ⟨NA, nc, e0⟩ := owns_form hrow
                    subst e0
                    have HROW := Lib.hid hrow
                    have HFL := Lib.hid (And.intro hfl hln)
                    clear hq2 hb hrow hfl hln
                    by_cases hjl : j < L2
                    · have hjp : j < P1.length := by rw [HLs.out]; exact hjl
                      obtain ⟨gk, gkc, ekv, _, hgl, hgx⟩ := owns_cells HRs.out.row (by omega)
                      rw [HLs.out] at ekv
                      obtain ⟨pk, hpk⟩ : ∃ pk, P1[j] = pk := ⟨_, rfl⟩
                      have hmem : pk ∈ P1 := by rw [← hpk]; exact List.getElem_mem hjp
                      obtain ⟨kk, bv⟩ := pk
                      obtain ⟨BA, bc, hbv, _⟩ := HRs.out.each _ hmem
                      simp only at hbv
                      subst hbv
                      have hcw := fun t (ht : t < 3) => flatK_get wCell 3 wCell_len P1 j t hjp ht
                      rw [hpk] at hcw
                      obtain ⟨kz, kp, kb⟩ := kk
                      obtain ⟨kl, hkl⟩ : ∃ kl, kb.length = kl := ⟨_, rfl⟩
                      have e0 : ws.cell? ⟨gk, j * 3, none⟩ = some (.int .i64 kz) := hgx _ _ (by have := hcw 0 (by omega); simpa [wCells, wCell] using this)
                      have e1 : ws.cell? ⟨gk, j * 3 + 1, none⟩ = some (.int .i64 kp) := hgx _ _ (by have := hcw 1 (by omega); simpa [wCells, wCell] using this)
                      have e2 : ws.cell? ⟨gk, j * 3 + 2, none⟩ = some (.slice BA kb.length bc) := hgx _ _ (by have := hcw 2 (by omega); simpa [wCells, wCell] using this)
                      rw [hkl] at e2
                      injection ekv with ekv _ ekc
                      subst ekv
                      subst ekc
                      have f0 := (HB.out.cell (p := ⟨gk, j * 3, none⟩) hgl).trans e0
                      have f1 := (HB.out.cell (p := ⟨gk, j * 3 + 1, none⟩) hgl).trans e1
                      have f2 := (HB.out.cell (p := ⟨gk, j * 3 + 2, none⟩) hgl).trans e2
                      have HBj : Hid (Below wr.heap.size wr (wr.alloc (.cells #[.int .i64 kz, .int .i64 kp, .slice BA kl bc] 55))) := Lib.hid (Below.alloc (Below.refl _ _) (Nat.le_refl _) _)
                      have HWB : Hid (Blk (wr.alloc (.cells #[.int .i64 kz, .int .i64 kp, .slice BA kl bc] 55)) wr.heap.size 55 [.int .i64 kz, .int .i64 kp, .slice BA kl bc]) := Lib.hid (heap_alloc_new wr _)
                      have HROWj := Lib.hid (owns_rise HROW.out HBj.out)
                      have HPK := Lib.hid (And.intro hpk hkl)
                      clear hcw hgx e0 e1 e2 hpk hkl hmem
                      go_upto_region 23 with fail
                      obtain ⟨uj, huj⟩ : ∃ uj, wr.alloc (.cells #[.int .i64 kz, .int .i64 kp, .slice BA kl bc] 55) = uj := ⟨_, rfl⟩
                      rw [huj] at HBj HWB HROWj ⊢
                      have HBs := Lib.hid (below_on HB.out HBj.out)
                      have HTj := Lib.hid (HTs.out.up HBs.out)
                      have g0 : uj.cell? ⟨wo.heap.size, 0, none⟩ = some (.int .i64 x.Do) := blk_cell (HXs.out.up HBs.out hxs) 0 _ rfl
                      have g1 : uj.cell? ⟨wo.heap.size, 1, none⟩ = some (.int .i64 x.zone) := blk_cell (HXs.out.up HBs.out hxs) 1 _ rfl
                      have g2 : uj.cell? ⟨u5.heap.size, 1, none⟩ = some (.int .i64 te) := blk_cell (HTBs.out.up HBs.out hts) 1 _ rfl
                      have g3 : uj.cell? ⟨wr.heap.size, 0, none⟩ = some (.int .i64 kz) := blk_cell HWB.out 0 _ rfl
                      have g4 : uj.cell? ⟨wr.heap.size, 1, none⟩ = some (.int .i64 kp) := blk_cell HWB.out 1 _ rfl
                      have hj0 : wo.heap.size < uj.heap.size := Nat.lt_of_lt_of_le hxs HBs.out.size
                      have hj1 : u5.heap.size < uj.heap.size := Nat.lt_of_lt_of_le hts HBs.out.size
                      have hj2 := lt_of_block HWB.out
                      clear huj f0 f1 f2
                      go_cut [135] (fun s135 wx => s135 = .bool (stillB S' x te ⟨kz, kp, kb⟩) ∧ Below uj.heap.size uj wx)
                      case first =>
                        have pP := fun q : In (fun u => Below uj.heap.size uj u) => Z.point kz (HTj.out.up q.ok).d
                        have h0 := fun q : In (fun u => Below uj.heap.size uj u) => (q.ok.cell (p := ⟨wo.heap.size, 0, none⟩) hj0).trans g0
                        have h1 := fun q : In (fun u => Below uj.heap.size uj u) => (q.ok.cell (p := ⟨wo.heap.size, 1, none⟩) hj0).trans g1
                        have h2 := fun q : In (fun u => Below uj.heap.size uj u) => (q.ok.cell (p := ⟨u5.heap.size, 1, none⟩) hj1).trans g2
                        have h3 := fun q : In (fun u => Below uj.heap.size uj u) => (q.ok.cell (p := ⟨wr.heap.size, 0, none⟩) hj2).trans g3
                        have h4 := fun q : In (fun u => Below uj.heap.size uj u) => (q.ok.cell (p := ⟨wr.heap.size, 1, none⟩) hj2).trans g4
                        have upB : ∀ {a b : World}, Below uj.heap.size uj a → Below a.heap.size a b → Below uj.heap.size uj b := fun h hb => below_on h hb
                        obtain ⟨pt, hpt⟩ : ∃ pt, S'.point kz = pt := ⟨_, rfl⟩
                        rw [hpt] at pP
                        have HST : Hid (stillB S' x te ⟨kz, kp, kb⟩ = ((decide (x.Do ≠ 2) || decide ((te : Int) ≠ 0) || decide (kz ≠ x.zone)) && decide (kp < (pt : Int)))) := Lib.hid (by unfold stillB; simp only [hpt])
                        clear g0 g1 g2 g3 g4 hpt
                        by_cases hz2 : x.Do = 2
                        · exact absurd (HD0.out.symm.trans hz2) (by decide)
                        · have qa : (x.Do != 2) = true := by simpa using hz2
                          have HZ2 := Lib.hid hz2
                          clear hz2
                          refine wp_region_in (fun u => Below uj.heap.size uj u) (Below.refl _ _).drew (by kernel_rfl) (by kernel_rfl) (fun ne => ?_)
                          repeat (go_big_quiet_step (first
                            | (go_at_call 22; with_reducible exact In.more upB (pP _))))
                          refine wpQuiet_nil ?_
                          intro nq
                          have HBq := Lib.hid nq.ok
                          clear pP h0 h1 h2 h3 h4
                          go_wp2_with fail
                          go_meet
                          case rel => exact ⟨by rw [HST.out]; simp [HZ2.out], HBq.out⟩
                      case rest =>
                        obtain ⟨rfl, hbc⟩ := hcut
                        have HBc := Lib.hid (below_on HBs.out hbc)
                        have HWc := Lib.hid (HWB.out.up hbc hj2)
                        have HRc := Lib.hid (owns_rise HROWj.out hbc)
                        clear hbc g0 g1 g2 g3 g4
                        obtain ⟨st, hst⟩ : ∃ st, stillB S' x te ⟨kz, kp, kb⟩ = st := ⟨_, rfl⟩
                        have HFN : Hid ((P1.take (j + 1)).filter (fun q => stillB S' x te q.1) = fl ++ (if st = true then [(⟨kz, kp, kb⟩, .slice BA kl bc)] else [])) := Lib.hid (by
                          rw [List.take_succ_eq_append_getElem hjp, List.filter_append, HFL.out.1, HPK.out.1, HPK.out.2]
                          cases st
                          · simp [hst]
                          · simp [hst])
                        rw [hst]
                        clear hst
                        cases st
                        · go_wp2_with fail
                          go_roundg (L2 - (j + 1))
                          case rel => exact ⟨j + 1, by omega, rfl, by go_num, by rw [HFN.out]; simp only [Bool.false_eq_true, if_false, List.append_nil]; rw [HFL.out.2]; exact HRc.out, HBc.out⟩
                          case measure => have := HQ3.out; omega
                        · have w0 : wc.cell? ⟨wr.heap.size, 0, none⟩ = some (.int .i64 kz) := blk_cell HWc.out 0 _ rfl
                          have w1 : wc.cell? ⟨wr.heap.size, 1, none⟩ = some (.int .i64 kp) := blk_cell HWc.out 1 _ rfl
                          have w2 : wc.cell? ⟨wr.heap.size, 2, none⟩ = some (.slice BA kl bc) := blk_cell HWc.out 2 _ rfl
                          have HBd : Hid (Below wc.heap.size wc (wc.alloc (.cells #[.int .i64 kz, .int .i64 kp, .slice BA kl bc] 55))) := Lib.hid (Below.alloc (Below.refl _ _) (Nat.le_refl _) _)
                          have HRd := Lib.hid (owns_rise HRc.out HBd.out)
                          have HBe := Lib.hid (below_on HBc.out HBd.out)
                          have HNd : Hid (RdV (wc.alloc (.cells #[.int .i64 kz, .int .i64 kp, .slice BA kl bc] 55)) (wc.alloc (.cells #[.int .i64 kz, .int .i64 kp, .slice BA kl bc] 55)).heap.size (some ⟨wc.heap.size, 0, none⟩) (wCell (⟨kz, kp, kb⟩, .slice BA kl bc))) := Lib.hid (fun _ => ⟨wc.heap.size, 0, rfl, by rw [World.size_alloc]; omega, fun i hi => by rw [Nat.zero_add]; exact Blk.cell (heap_alloc_new wc _) i hi⟩)
                          go_wp2_with (first
                            | (at_builtin; refine appK _ rfl (.tmp 136) (.tmp 138) 52 55 (.agg #[.int .i64 0, .int .i64 0, .slice none 0 0]) 3 40 rfl Tryd.underlying52 infoWrit rfl (by decide) (by decide) ws.heap.size ln 1 1 (.slice NA ln nc) (wCells fl) (wCell (⟨kz, kp, kb⟩, .slice BA kl bc)) (some ⟨wc.heap.size, 0, none⟩) rfl HRd.out rfl rfl HNd.out (fun e => by cases e) ?h3a ?h3b ?h3c ?_; (case h3a => intro u hu; simp only [wCell, List.mem_cons, List.not_mem_nil, or_false] at hu; rcases hu with rfl | rfl | rfl <;> rfl); (case h3b => omega); (case h3c => exact HBe.out.size); intro v9 w9 ho hg; have HO9 := Lib.hid ho; have HB9 := Lib.hid (HBe.out.grown hg HBe.out.size (fun k e => (owns_own HRd.out k e).1)); clear ho hg)
                            | fail)
                          go_roundg (L2 - (j + 1))
                          case rel => exact ⟨j + 1, by omega, rfl, by go_num, by rw [HFN.out]; simp only [if_true]; rw [List.length_append, HFL.out.2, wCells_app]; exact HO9.out, HB9.out⟩
                          case measure => have := HQ3.out; omega
                    · obtain rfl : j = L2 := by omega
                      have HFP : Hid (fl = P1.filter (fun q => stillB S' x te q.1)) := Lib.hid (by rw [← HFL.out.1, List.take_of_length_le (by rw [HLs.out]; omega)])
                      have HROW2 := HROW
                      obtain ⟨we, ewe⟩ : ∃ we, we = wr := ⟨_, rfl⟩
                      subst ewe
                      go_wp2_with fail
                      go_loopg [143] z (fun q x' wr' => ∃ k : Nat, k ≤ z ∧ q = z - k ∧ x' = .int .i64 k ∧ Below we.heap.size we wr')
                      case atStart => exact ⟨0, by omega, by omega, rfl, Below.refl _ _⟩
                      case round =>
                        obtain ⟨k, hk, hq4, rfl, hb6⟩ := hrel
                        have HQ4 := Lib.hid hq4
                        have HB6 := Lib.hid hb6
                        have HBw := Lib.hid (below_on HB.out hb6)
                        clear hq4 hb6
                        by_cases hkz : k < z
                        · go_upto_region 30 with fail
                          have HTw := Lib.hid (HTs.out.up HBw.out)
                          have pS := fun q : In (fun u => Below wr.heap.size wr u) => Z.sure k (HTw.out.up q.ok).d
                          have pP := fun q : In (fun u => Below wr.heap.size wr u) => Z.point k (HTw.out.up q.ok).d
                          have g0 : wr.cell? ⟨wo.heap.size, 0, none⟩ = some (.int .i64 x.Do) := blk_cell (HXs.out.up HBw.out hxs) 0 _ rfl
                          have g1 : wr.cell? ⟨wo.heap.size + 1, k, none⟩ = some (.int .i64 (S.sureOf (k : Int) : Int)) := blk_cell (HSBs.out.up HBw.out hsbs) k _ (by simp [sureL, hkz])
                          have hw0 : wo.heap.size < wr.heap.size := Nat.lt_of_lt_of_le hxs HBw.out.size
                          have hw1 : wo.heap.size + 1 < wr.heap.size := Nat.lt_of_lt_of_le hsbs HBw.out.size
                          have h0 := fun q : In (fun u => Below wr.heap.size wr u) => (q.ok.cell (p := ⟨wo.heap.size, 0, none⟩) hw0).trans g0
                          have h1 := fun q : In (fun u => Below wr.heap.size wr u) => (q.ok.cell (p := ⟨wo.heap.size + 1, k, none⟩) hw1).trans g1
                          have upB : ∀ {a b : World}, Below wr.heap.size wr a → Below a.heap.size a b → Below wr.heap.size wr b := fun h hb => below_on h hb
                          have hle := sure_le HWF5.out (k : Int)
                          have hsu := fun h => HSU.out h (k : Int)
                          have hsc := fun h => HSC.out h (k : Int)
                          generalize S'.sureOf (k : Int) = sa at pS hle hsu hsc
                          generalize S'.point (k : Int) = sp at pP hle hsc
                          generalize S.sureOf (k : Int) = ss at h1 hsu
                          have q2 : decide ((sp : Int) < (sa : Int)) = false := by simp; omega
                          have q2n : decide (sp < sa) = false := by simp; omega
                          clear g0 g1 hle
                          have hkn : (k : Int) < (z : Int) := by omega
                          have hkn0 : (0 : Int) ≤ (k : Int) := by omega
                          have qa : (x.Do != 2) = true := by simp [HD0.out]
                          have q1 : decide ((sa : Int) < (ss : Int)) = false := by have := hsu (by rw [HD0.out]; decide); simp; omega
                          have q1n : decide (sa < ss) = false := by have := hsu (by rw [HD0.out]; decide); simp; omega
                          have q6 : (x.Do == 6) = false := by simp [HD0.out]
                          clear hsu hsc
                          refine wp_region_in (fun u => Below wr.heap.size wr u) (Below.refl _ _).drew (by kernel_rfl) (by kernel_rfl) (fun ne => ?_)
                          repeat (go_big_quiet_step (first
                            | (go_at_call 21; with_reducible exact In.more upB (pS _))
                            | (go_at_call 22; with_reducible exact In.more upB (pP _))))
                          refine wpQuiet_nil ?_
                          intro nq
                          have HBq := Lib.hid (below_on HB6.out nq.ok)
                          clear pP pS h0 h1
                          generalize nq.w = wq at *
                          go_wp2_with fail
                          go_roundg (z - (k + 1))
                          case rel => exact ⟨k + 1, by omega, rfl, by go_num, HBq.out⟩
                          case measure => have := HQ4.out; omega
                        · obtain rfl : k = z := by omega
                          go_wp2_with fail
                          go_roundg (m + 1 - (i + 1))
                          case rel =>
                            refine ⟨i + 1, S', F5, P1.filter (fun q => stillB S' x te q.1), _, by omega, rfl, by go_num, HSD5.out, HSZ5.out, ?_, HGO5.out, fun q hq => HP1.out q (List.mem_filter.1 hq).1 (List.mem_filter.1 hq).2, ⟨⟨?_, ((HRs.out.up HBw.out)).q, fun q hq => (HRs.out.up HBw.out).each q (List.mem_filter.1 hq).1⟩, fun g e => ?_⟩, HTs.out.up HBw.out⟩
                            · rw [← HFP.out, HFL.out.2]
                              omega
                            · rw [← HFP.out]
                              have := owns_rise HROW2.out HB6.out
                              rw [HFL.out.2]
                              exact ⟨this.1, this.2.imp id fun ⟨g', c', cur, hv, hb, r⟩ => ⟨g', c', cur, hv, Nat.le_trans HTs.out.old.size hb, r⟩⟩
                            · have hg := (owns_own HROW2.out g e).1
                              exact ⟨fun e2 => by have := HFs.out g e2; omega, fun e2 => by have := (HRs.out.q g e2).2; omega⟩
                          case measure => have := HQ.out; omega
                · have qd : (x.Do == 0) = false := by simpa using hd0
                  clear hd0 hnew
                  go_wp2_with fail
                  obtain ⟨ws, e1⟩ : ∃ ws, ws = u6 := ⟨_, rfl⟩
                  subst e1
                  have HTs := Lib.hid HT6.out
                  have HXs := Lib.hid HX6.out
                  have HTBs := Lib.hid HTB.out
                  have HSBs := Lib.hid HSB6.out
                  have HRs := Lib.hid HR6.out
                  have HLs := Lib.hid HL1.out
                  obtain ⟨KVA, e2⟩ : ∃ a, a = VK := ⟨_, rfl⟩
                  subst e2
                  obtain ⟨kvc, e3⟩ : ∃ a, a = ck := ⟨_, rfl⟩
                  subst e3
                  obtain ⟨P1, e4⟩ : ∃ a, a = P := ⟨_, rfl⟩
                  subst e4
                  obtain ⟨L2, e5⟩ : ∃ a, a = L1 := ⟨_, rfl⟩
                  subst e5
                  have hL2b : L2 ≤ i + 1 := by omega
                  clear hu6
                  clear t0 t1 b0 b1 b3 qd
                  have HFs : Hid (∀ k, F5 k → k < ws.heap.size) := Lib.hid (fun k e => Z.lt HTs.out.d k e)
                  have hxs := lt_of_block HXs.out
                  have hts := lt_of_block HTBs.out
                  have hsbs := lt_of_block HSBs.out
                  have HWF5 := Lib.hid (Z.wf HTs.out.d)
                  go_loopg [19, 108] L2 (fun q y x' wr' => ∃ j : Nat, j ≤ L2 ∧ q = L2 - j ∧ x' = .int .i64 j ∧ wr'.ownsRow ws.heap.size 55 3 y ((P1.take j).filter (fun q => stillB S' x te q.1)).length (wCells ((P1.take j).filter (fun q => stillB S' x te q.1))) ∧ Below ws.heap.size ws wr')
                  case atStart => exact ⟨0, by omega, by omega, rfl, by simpa [wCells] using owns_new ws ws.heap.size 55 3 (Nat.le_refl _), Below.alloc (Below.refl _ _) (Nat.le_refl _) _⟩
                  case round =>
                    obtain ⟨j, hj, hq2, rfl, hrow, hb⟩ := hrel
                    have HQ3 := Lib.hid hq2
                    have HB := Lib.hid hb
                    obtain ⟨fl, hfl⟩ : ∃ fl, (P1.take j).filter (fun q => stillB S' x te q.1) = fl := ⟨_, rfl⟩
                    rw [hfl] at hrow
                    obtain ⟨ln, hln⟩ : ∃ ln, fl.length = ln := ⟨_, rfl⟩
                    rw [hln] at hrow
                    have hlnb : ln ≤ j := by
                      rw [← hln, ← hfl]
                      exact Nat.le_trans (List.length_filter_le _ _) (by rw [List.length_take]; omega)
                    obtain ⟨NA, nc, e0⟩ := owns_form hrow
                    subst e0
                    have HROW := Lib.hid hrow
                    have HFL := Lib.hid (And.intro hfl hln)
                    clear hq2 hb hrow hfl hln
                    by_cases hjl : j < L2
                    · have hjp : j < P1.length := by rw [HLs.out]; exact hjl
                      obtain ⟨gk, gkc, ekv, _, hgl, hgx⟩ := owns_cells HRs.out.row (by omega)
                      rw [HLs.out] at ekv
                      obtain ⟨pk, hpk⟩ : ∃ pk, P1[j] = pk := ⟨_, rfl⟩
                      have hmem : pk ∈ P1 := by rw [← hpk]; exact List.getElem_mem hjp
                      obtain ⟨kk, bv⟩ := pk
                      obtain ⟨BA, bc, hbv, _⟩ := HRs.out.each _ hmem
                      simp only at hbv
                      subst hbv
                      have hcw := fun t (ht : t < 3) => flatK_get wCell 3 wCell_len P1 j t hjp ht
                      rw [hpk] at hcw
                      obtain ⟨kz, kp, kb⟩ := kk
                      obtain ⟨kl, hkl⟩ : ∃ kl, kb.length = kl := ⟨_, rfl⟩
                      have e0 : ws.cell? ⟨gk, j * 3, none⟩ = some (.int .i64 kz) := hgx _ _ (by have := hcw 0 (by omega); simpa [wCells, wCell] using this)
                      have e1 : ws.cell? ⟨gk, j * 3 + 1, none⟩ = some (.int .i64 kp) := hgx _ _ (by have := hcw 1 (by omega); simpa [wCells, wCell] using this)
                      have e2 : ws.cell? ⟨gk, j * 3 + 2, none⟩ = some (.slice BA kb.length bc) := hgx _ _ (by have := hcw 2 (by omega); simpa [wCells, wCell] using this)
                      rw [hkl] at e2
                      injection ekv with ekv _ ekc
                      subst ekv
                      subst ekc
                      have f0 := (HB.out.cell (p := ⟨gk, j * 3, none⟩) hgl).trans e0
                      have f1 := (HB.out.cell (p := ⟨gk, j * 3 + 1, none⟩) hgl).trans e1
                      have f2 := (HB.out.cell (p := ⟨gk, j * 3 + 2, none⟩) hgl).trans e2
                      have HBj : Hid (Below wr.heap.size wr (wr.alloc (.cells #[.int .i64 kz, .int .i64 kp, .slice BA kl bc] 55))) := Lib.hid (Below.alloc (Below.refl _ _) (Nat.le_refl _) _)
                      have HWB : Hid (Blk (wr.alloc (.cells #[.int .i64 kz, .int .i64 kp, .slice BA kl bc] 55)) wr.heap.size 55 [.int .i64 kz, .int .i64 kp, .slice BA kl bc]) := Lib.hid (heap_alloc_new wr _)
                      have HROWj := Lib.hid (owns_rise HROW.out HBj.out)
                      have HPK := Lib.hid (And.intro hpk hkl)
                      clear hcw hgx e0 e1 e2 hpk hkl hmem
                      go_upto_region 23 with fail
                      obtain ⟨uj, huj⟩ : ∃ uj, wr.alloc (.cells #[.int .i64 kz, .int .i64 kp, .slice BA kl bc] 55) = uj := ⟨_, rfl⟩
                      rw [huj] at HBj HWB HROWj ⊢
                      have HBs := Lib.hid (below_on HB.out HBj.out)
                      have HTj := Lib.hid (HTs.out.up HBs.out)
                      have g0 : uj.cell? ⟨wo.heap.size, 0, none⟩ = some (.int .i64 x.Do) := blk_cell (HXs.out.up HBs.out hxs) 0 _ rfl
                      have g1 : uj.cell? ⟨wo.heap.size, 1, none⟩ = some (.int .i64 x.zone) := blk_cell (HXs.out.up HBs.out hxs) 1 _ rfl
                      have g2 : uj.cell? ⟨u5.heap.size, 1, none⟩ = some (.int .i64 te) := blk_cell (HTBs.out.up HBs.out hts) 1 _ rfl
                      have g3 : uj.cell? ⟨wr.heap.size, 0, none⟩ = some (.int .i64 kz) := blk_cell HWB.out 0 _ rfl
                      have g4 : uj.cell? ⟨wr.heap.size, 1, none⟩ = some (.int .i64 kp) := blk_cell HWB.out 1 _ rfl
                      have hj0 : wo.heap.size < uj.heap.size := Nat.lt_of_lt_of_le hxs HBs.out.size
                      have hj1 : u5.heap.size < uj.heap.size := Nat.lt_of_lt_of_le hts HBs.out.size
                      have hj2 := lt_of_block HWB.out
                      clear huj f0 f1 f2
                      go_cut [135] (fun s135 wx => s135 = .bool (stillB S' x te ⟨kz, kp, kb⟩) ∧ Below uj.heap.size uj wx)
                      case first =>
                        have pP := fun q : In (fun u => Below uj.heap.size uj u) => Z.point kz (HTj.out.up q.ok).d
                        have h0 := fun q : In (fun u => Below uj.heap.size uj u) => (q.ok.cell (p := ⟨wo.heap.size, 0, none⟩) hj0).trans g0
                        have h1 := fun q : In (fun u => Below uj.heap.size uj u) => (q.ok.cell (p := ⟨wo.heap.size, 1, none⟩) hj0).trans g1
                        have h2 := fun q : In (fun u => Below uj.heap.size uj u) => (q.ok.cell (p := ⟨u5.heap.size, 1, none⟩) hj1).trans g2
                        have h3 := fun q : In (fun u => Below uj.heap.size uj u) => (q.ok.cell (p := ⟨wr.heap.size, 0, none⟩) hj2).trans g3
                        have h4 := fun q : In (fun u => Below uj.heap.size uj u) => (q.ok.cell (p := ⟨wr.heap.size, 1, none⟩) hj2).trans g4
                        have upB : ∀ {a b : World}, Below uj.heap.size uj a → Below a.heap.size a b → Below uj.heap.size uj b := fun h hb => below_on h hb
                        obtain ⟨pt, hpt⟩ : ∃ pt, S'.point kz = pt := ⟨_, rfl⟩
                        rw [hpt] at pP
                        have HST : Hid (stillB S' x te ⟨kz, kp, kb⟩ = ((decide (x.Do ≠ 2) || decide ((te : Int) ≠ 0) || decide (kz ≠ x.zone)) && decide (kp < (pt : Int)))) := Lib.hid (by unfold stillB; simp only [hpt])
                        clear g0 g1 g2 g3 g4 hpt
                        by_cases hz2 : x.Do = 2
                        · have qa : (x.Do != 2) = false := by simp [hz2]
                          have HZ2 := Lib.hid hz2
                          clear hz2
                          by_cases htz : (te : Int) = 0
                          · have qb : ((te : Int) != 0) = false := by simp [htz]
                            have HTZ := Lib.hid htz
                            clear htz
                            by_cases hzz : kz = x.zone
                            · have qc : (kz != x.zone) = false := by simp [hzz]
                              have HZZ := Lib.hid hzz
                              clear hzz
                              refine wp_region_in (fun u => Below uj.heap.size uj u) (Below.refl _ _).drew (by kernel_rfl) (by kernel_rfl) (fun ne => ?_)
                              repeat (go_big_quiet_step (first
                                | (go_at_call 22; with_reducible exact In.more upB (pP _))))
                              refine wpQuiet_nil ?_
                              intro nq
                              have HBq := Lib.hid nq.ok
                              clear pP h0 h1 h2 h3 h4
                              go_wp2_with fail
                              go_meet
                              case rel => exact ⟨by rw [HST.out]; simp [HZ2.out, HTZ.out, HZZ.out], HBq.out⟩
                            · have qc : (kz != x.zone) = true := by simpa using hzz
                              have HZZ := Lib.hid hzz
                              clear hzz
                              refine wp_region_in (fun u => Below uj.heap.size uj u) (Below.refl _ _).drew (by kernel_rfl) (by kernel_rfl) (fun ne => ?_)
                              repeat (go_big_quiet_step (first
                                | (go_at_call 22; with_reducible exact In.more upB (pP _))))
                              refine wpQuiet_nil ?_
                              intro nq
                              have HBq := Lib.hid nq.ok
                              clear pP h0 h1 h2 h3 h4
                              go_wp2_with fail
                              go_meet
                              case rel => exact ⟨by rw [HST.out]; simp [HZ2.out, HTZ.out, HZZ.out], HBq.out⟩
                          · first
                              | exact absurd rfl htz
                              | (have qb : ((te : Int) != 0) = true := by simpa using htz
                                 have HTZ := Lib.hid htz
                                 clear htz
                                 refine wp_region_in (fun u => Below uj.heap.size uj u) (Below.refl _ _).drew (by kernel_rfl) (by kernel_rfl) (fun ne => ?_)
                                 repeat (go_big_quiet_step (first
                                   | (go_at_call 22; with_reducible exact In.more upB (pP _))))
                                 refine wpQuiet_nil ?_
                                 intro nq
                                 have HBq := Lib.hid nq.ok
                                 clear pP h0 h1 h2 h3 h4
                                 go_wp2_with fail
                                 go_meet
                                 case rel => exact ⟨by rw [HST.out]; simp [HZ2.out, HTZ.out], HBq.out⟩)
                        · have qa : (x.Do != 2) = true := by simpa using hz2
                          have HZ2 := Lib.hid hz2
                          clear hz2
                          refine wp_region_in (fun u => Below uj.heap.size uj u) (Below.refl _ _).drew (by kernel_rfl) (by kernel_rfl) (fun ne => ?_)
                          repeat (go_big_quiet_step (first
                            | (go_at_call 22; with_reducible exact In.more upB (pP _))))
                          refine wpQuiet_nil ?_
                          intro nq
                          have HBq := Lib.hid nq.ok
                          clear pP h0 h1 h2 h3 h4
                          go_wp2_with fail
                          go_meet
                          case rel => exact ⟨by rw [HST.out]; simp [HZ2.out], HBq.out⟩
                      case rest =>
                        obtain ⟨rfl, hbc⟩ := hcut
                        have HBc := Lib.hid (below_on HBs.out hbc)
                        have HWc := Lib.hid (HWB.out.up hbc hj2)
                        have HRc := Lib.hid (owns_rise HROWj.out hbc)
                        clear hbc g0 g1 g2 g3 g4
                        obtain ⟨st, hst⟩ : ∃ st, stillB S' x te ⟨kz, kp, kb⟩ = st := ⟨_, rfl⟩
                        have HFN : Hid ((P1.take (j + 1)).filter (fun q => stillB S' x te q.1) = fl ++ (if st = true then [(⟨kz, kp, kb⟩, .slice BA kl bc)] else [])) := Lib.hid (by
                          rw [List.take_succ_eq_append_getElem hjp, List.filter_append, HFL.out.1, HPK.out.1, HPK.out.2]
                          cases st
                          · simp [hst]
                          · simp [hst])
                        rw [hst]
                        clear hst
                        cases st
                        · go_wp2_with fail
                          go_roundg (L2 - (j + 1))
                          case rel => exact ⟨j + 1, by omega, rfl, by go_num, by rw [HFN.out]; simp only [Bool.false_eq_true, if_false, List.append_nil]; rw [HFL.out.2]; exact HRc.out, HBc.out⟩
                          case measure => have := HQ3.out; omega
                        · have w0 : wc.cell? ⟨wr.heap.size, 0, none⟩ = some (.int .i64 kz) := blk_cell HWc.out 0 _ rfl
                          have w1 : wc.cell? ⟨wr.heap.size, 1, none⟩ = some (.int .i64 kp) := blk_cell HWc.out 1 _ rfl
                          have w2 : wc.cell? ⟨wr.heap.size, 2, none⟩ = some (.slice BA kl bc) := blk_cell HWc.out 2 _ rfl
                          have HBd : Hid (Below wc.heap.size wc (wc.alloc (.cells #[.int .i64 kz, .int .i64 kp, .slice BA kl bc] 55))) := Lib.hid (Below.alloc (Below.refl _ _) (Nat.le_refl _) _)
                          have HRd := Lib.hid (owns_rise HRc.out HBd.out)
                          have HBe := Lib.hid (below_on HBc.out HBd.out)
                          have HNd : Hid (RdV (wc.alloc (.cells #[.int .i64 kz, .int .i64 kp, .slice BA kl bc] 55)) (wc.alloc (.cells #[.int .i64 kz, .int .i64 kp, .slice BA kl bc] 55)).heap.size (some ⟨wc.heap.size, 0, none⟩) (wCell (⟨kz, kp, kb⟩, .slice BA kl bc))) := Lib.hid (fun _ => ⟨wc.heap.size, 0, rfl, by rw [World.size_alloc]; omega, fun i hi => by rw [Nat.zero_add]; exact Blk.cell (heap_alloc_new wc _) i hi⟩)
                          go_wp2_with (first
                            | (at_builtin; refine appK _ rfl (.tmp 136) (.tmp 138) 52 55 (.agg #[.int .i64 0, .int .i64 0, .slice none 0 0]) 3 40 rfl Tryd.underlying52 infoWrit rfl (by decide) (by decide) ws.heap.size ln 1 1 (.slice NA ln nc) (wCells fl) (wCell (⟨kz, kp, kb⟩, .slice BA kl bc)) (some ⟨wc.heap.size, 0, none⟩) rfl HRd.out rfl rfl HNd.out (fun e => by cases e) ?h3a ?h3b ?h3c ?_; (case h3a => intro u hu; simp only [wCell, List.mem_cons, List.not_mem_nil, or_false] at hu; rcases hu with rfl | rfl | rfl <;> rfl); (case h3b => omega); (case h3c => exact HBe.out.size); intro v9 w9 ho hg; have HO9 := Lib.hid ho; have HB9 := Lib.hid (HBe.out.grown hg HBe.out.size (fun k e => (owns_own HRd.out k e).1)); clear ho hg)
                            | fail)
                          go_roundg (L2 - (j + 1))
                          case rel => exact ⟨j + 1, by omega, rfl, by go_num, by rw [HFN.out]; simp only [if_true]; rw [List.length_append, HFL.out.2, wCells_app]; exact HO9.out, HB9.out⟩
                          case measure => have := HQ3.out; omega
                    · obtain rfl : j = L2 := by omega
                      have HFP : Hid (fl = P1.filter (fun q => stillB S' x te q.1)) := Lib.hid (by rw [← HFL.out.1, List.take_of_length_le (by rw [HLs.out]; omega)])
                      have HROW2 := HROW
                      obtain ⟨we, ewe⟩ : ∃ we, we = wr := ⟨_, rfl⟩
                      subst ewe
                      go_wp2_with fail
                      go_loopg [143] z (fun q x' wr' => ∃ k : Nat, k ≤ z ∧ q = z - k ∧ x' = .int .i64 k ∧ Below we.heap.size we wr')
                      case atStart => exact ⟨0, by omega, by omega, rfl, Below.refl _ _⟩
                      case round =>
                        obtain ⟨k, hk, hq4, rfl, hb6⟩ := hrel
                        have HQ4 := Lib.hid hq4
                        have HB6 := Lib.hid hb6
                        have HBw := Lib.hid (below_on HB.out hb6)
                        clear hq4 hb6
                        by_cases hkz : k < z
                        · go_upto_region 30 with fail
                          have HTw := Lib.hid (HTs.out.up HBw.out)
                          have pS := fun q : In (fun u => Below wr.heap.size wr u) => Z.sure k (HTw.out.up q.ok).d
                          have pP := fun q : In (fun u => Below wr.heap.size wr u) => Z.point k (HTw.out.up q.ok).d
                          have g0 : wr.cell? ⟨wo.heap.size, 0, none⟩ = some (.int .i64 x.Do) := blk_cell (HXs.out.up HBw.out hxs) 0 _ rfl
                          have g1 : wr.cell? ⟨wo.heap.size + 1, k, none⟩ = some (.int .i64 (S.sureOf (k : Int) : Int)) := blk_cell (HSBs.out.up HBw.out hsbs) k _ (by simp [sureL, hkz])
                          have hw0 : wo.heap.size < wr.heap.size := Nat.lt_of_lt_of_le hxs HBw.out.size
                          have hw1 : wo.heap.size + 1 < wr.heap.size := Nat.lt_of_lt_of_le hsbs HBw.out.size
                          have h0 := fun q : In (fun u => Below wr.heap.size wr u) => (q.ok.cell (p := ⟨wo.heap.size, 0, none⟩) hw0).trans g0
                          have h1 := fun q : In (fun u => Below wr.heap.size wr u) => (q.ok.cell (p := ⟨wo.heap.size + 1, k, none⟩) hw1).trans g1
                          have upB : ∀ {a b : World}, Below wr.heap.size wr a → Below a.heap.size a b → Below wr.heap.size wr b := fun h hb => below_on h hb
                          have hle := sure_le HWF5.out (k : Int)
                          have hsu := fun h => HSU.out h (k : Int)
                          have hsc := fun h => HSC.out h (k : Int)
                          generalize S'.sureOf (k : Int) = sa at pS hle hsu hsc
                          generalize S'.point (k : Int) = sp at pP hle hsc
                          generalize S.sureOf (k : Int) = ss at h1 hsu
                          have q2 : decide ((sp : Int) < (sa : Int)) = false := by simp; omega
                          have q2n : decide (sp < sa) = false := by simp; omega
                          clear g0 g1 hle
                          have hkn : (k : Int) < (z : Int) := by omega
                          have hkn0 : (0 : Int) ≤ (k : Int) := by omega
                          by_cases hz2 : x.Do = 2
                          · have qa : (x.Do != 2) = false := by simp [hz2]
                            have q6 : (x.Do == 6) = false := by simp [hz2]
                            clear hz2 hsu hsc
                            refine wp_region_in (fun u => Below wr.heap.size wr u) (Below.refl _ _).drew (by kernel_rfl) (by kernel_rfl) (fun ne => ?_)
                            repeat (go_big_quiet_step (first
                              | (go_at_call 21; with_reducible exact In.more upB (pS _))
                              | (go_at_call 22; with_reducible exact In.more upB (pP _))))
                            refine wpQuiet_nil ?_
                            intro nq
                            have HBq := Lib.hid (below_on HB6.out nq.ok)
                            clear pP pS h0 h1
                            generalize nq.w = wq at *
                            go_wp2_with fail
                            go_roundg (z - (k + 1))
                            case rel => exact ⟨k + 1, by omega, rfl, by go_num, HBq.out⟩
                            case measure => have := HQ4.out; omega
                          · have qa : (x.Do != 2) = true := by simpa using hz2
                            have q1 : decide ((sa : Int) < (ss : Int)) = false := by have := hsu hz2; simp; omega
                            have q1n : decide (sa < ss) = false := by have := hsu hz2; simp; omega
                            by_cases hz6 : x.Do = 6
                            · have q6 : (x.Do == 6) = true := by simp [hz6]
                              obtain rfl : sa = sp := hsc hz6
                              clear hz2 hz6 hsu hsc
                              refine wp_region_in (fun u => Below wr.heap.size wr u) (Below.refl _ _).drew (by kernel_rfl) (by kernel_rfl) (fun ne => ?_)
                              repeat (go_big_quiet_step (first
                                | (go_at_call 21; with_reducible exact In.more upB (pS _))
                                | (go_at_call 22; with_reducible exact In.more upB (pP _))))
                              refine wpQuiet_nil ?_
                              intro nq
                              have HBq := Lib.hid (below_on HB6.out nq.ok)
                              clear pP pS h0 h1
                              generalize nq.w = wq at *
                              go_wp2_with fail
                              go_roundg (z - (k + 1))
                              case rel => exact ⟨k + 1, by omega, rfl, by go_num, HBq.out⟩
                              case measure => have := HQ4.out; omega
                            · have q6 : (x.Do == 6) = false := by simpa using hz6
                              clear hz2 hz6 hsu hsc
                              refine wp_region_in (fun u => Below wr.heap.size wr u) (Below.refl _ _).drew (by kernel_rfl) (by kernel_rfl) (fun ne => ?_)
                              repeat (go_big_quiet_step (first
                                | (go_at_call 21; with_reducible exact In.more upB (pS _))
                                | (go_at_call 22; with_reducible exact In.more upB (pP _))))
                              refine wpQuiet_nil ?_
                              intro nq
                              have HBq := Lib.hid (below_on HB6.out nq.ok)
                              clear pP pS h0 h1
                              generalize nq.w = wq at *
                              go_wp2_with fail
                              go_roundg (z - (k + 1))
                              case rel => exact ⟨k + 1, by omega, rfl, by go_num, HBq.out⟩
                              case measure => have := HQ4.out; omega
                        · obtain rfl : k = z := by omega
                          go_wp2_with fail
                          go_roundg (m + 1 - (i + 1))
                          case rel =>
                            refine ⟨i + 1, S', F5, P1.filter (fun q => stillB S' x te q.1), _, by omega, rfl, by go_num, HSD5.out, HSZ5.out, ?_, HGO5.out, fun q hq => HP1.out q (List.mem_filter.1 hq).1 (List.mem_filter.1 hq).2, ⟨⟨?_, ((HRs.out.up HBw.out)).q, fun q hq => (HRs.out.up HBw.out).each q (List.mem_filter.1 hq).1⟩, fun g e => ?_⟩, HTs.out.up HBw.out⟩
                            · rw [← HFP.out, HFL.out.2]
                              omega
                            · rw [← HFP.out]
                              have := owns_rise HROW2.out HB6.out
                              rw [HFL.out.2]
                              exact ⟨this.1, this.2.imp id fun ⟨g', c', cur, hv, hb, r⟩ => ⟨g', c', cur, hv, Nat.le_trans HTs.out.old.size hb, r⟩⟩
                            · have hg := (owns_own HROW2.out g e).1
                              exact ⟨fun e2 => by have := HFs.out g e2; omega, fun e2 => by have := (HRs.out.q g e2).2; omega⟩
                          case measure => have := HQ.out; omega
        · obtain rfl : i = m + 1 := by omega
          have HGN := Lib.hid (HGO.out rfl)
          have HWF := Lib.hid (Z.wf HT.out.d)
          clear HGO
          go_wp2_with fail
          go_loopg [186] L1 (fun q x' wr' => ∃ j : Nat, j ≤ L1 ∧ q = L1 - j ∧ x' = .int .i64 j ∧ Below wo.heap.size wo wr')
          case atStart => exact ⟨0, by omega, by omega, rfl, Below.refl _ _⟩
          case round =>
            obtain ⟨j, hj, hq2, rfl, hb⟩ := hrel
            have HQ3 := Lib.hid hq2
            have HB := Lib.hid hb
            clear hq2 hb
            by_cases hjl : j < L1
            · have hjp : j < P.length := by rw [HL1.out]; exact hjl
              obtain ⟨gk, gkc, ekv, _, hgl, hgx⟩ := owns_cells HKW.out.row (by omega)
              rw [HL1.out] at ekv
              obtain ⟨pk, hpk⟩ : ∃ pk, P[j] = pk := ⟨_, rfl⟩
              have hmem : pk ∈ P := by rw [← hpk]; exact List.getElem_mem hjp
              obtain ⟨kk, bv⟩ := pk
              have hbf := HKW.out.each _ hmem
              have hwk := HWI.out _ hmem
              obtain ⟨BA, bc, hbv, _⟩ := HKW.out.each _ hmem
              simp only at hbv hbf hwk
              subst hbv
              have hcw := fun t (ht : t < 3) => flatK_get wCell 3 wCell_len P j t hjp ht
              rw [hpk] at hcw
              obtain ⟨kz, kp, kb⟩ := kk
              have hk33 : kb.length = 33 := hwk.b
              have e0 : wo.cell? ⟨gk, j * 3, none⟩ = some (.int .i64 kz) := hgx _ _ (by have := hcw 0 (by omega); simpa [wCells, wCell] using this)
              have e1 : wo.cell? ⟨gk, j * 3 + 1, none⟩ = some (.int .i64 kp) := hgx _ _ (by have := hcw 1 (by omega); simpa [wCells, wCell] using this)
              have e2 : wo.cell? ⟨gk, j * 3 + 2, none⟩ = some (.slice BA kb.length bc) := hgx _ _ (by have := hcw 2 (by omega); simpa [wCells, wCell] using this)
              simp only at hbf
              rw [hk33] at e2 hbf
              injection ekv with ekv _ ekc
              subst ekv
              subst ekc
              have f0 := (HB.out.cell (p := ⟨gk, j * 3, none⟩) hgl).trans e0
              have f1 := (HB.out.cell (p := ⟨gk, j * 3 + 1, none⟩) hgl).trans e1
              have f2 := (HB.out.cell (p := ⟨gk, j * 3 + 2, none⟩) hgl).trans e2
              have HBF := Lib.hid hbf
              have HK33 := Lib.hid hk33
              have HBj : Hid (Below wr.heap.size wr (wr.alloc (.cells #[.int .i64 kz, .int .i64 kp, .slice BA 33 bc] 55))) := Lib.hid (Below.alloc (Below.refl _ _) (Nat.le_refl _) _)
              have HWB : Hid (Blk (wr.alloc (.cells #[.int .i64 kz, .int .i64 kp, .slice BA 33 bc] 55)) wr.heap.size 55 [.int .i64 kz, .int .i64 kp, .slice BA 33 bc]) := Lib.hid (heap_alloc_new wr _)
              have HBs := Lib.hid (below_on HB.out HBj.out)
              have HTj := Lib.hid (HT.out.up HBs.out)
              have HRW := Lib.hid (wr_read HWF.out hwk HGN.out)
              clear hcw hgx e0 e1 e2 hpk hmem hbf hwk hk33
              go_wp2_with fail
              refine (Z.read kz kp HTj.out.d).mono ?_
              rintro r wa ⟨v, rfl, hv, hb⟩
              have HBa := Lib.hid (below_on HBs.out hb)
              have HWa := Lib.hid (HWB.out.up hb (lt_of_block HWB.out))
              have HV := Lib.hid hv
              have hG := HG.out.below HBW.out
              have HGa : Hid (∀ u, Below wo.heap.size wo u → Gl u) := Lib.hid (fun u h => (HT.out.up h).old.cell hG (fun e => by have := (HF0.out _ e).1; have := lt_of_cell HG.out; simp only at *; omega))
              clear hb hG
              rcases HRW.out with he | ⟨he, hbb⟩
              · rw [he]
                obtain ⟨RA, rc, e1, _⟩ := hv
                subst e1
                obtain ⟨rl, hrl⟩ : ∃ rl, (S.readB kz kp).length = rl := ⟨_, rfl⟩
                rw [hrl]
                obtain ⟨e6, he6⟩ : ∃ e, errV 6 = e := ⟨_, rfl⟩
                rw [he6]
                go_wp2_with fail
                rw [← he6]
                refine (code_is 6 (HGa.out _ HBa.out)).mono ?_
                rintro r wb ⟨rfl, hb⟩
                have HBb := Lib.hid (below_on HBa.out hb)
                clear hb hrl
                go_wp2_with fail
                go_roundg (L1 - (j + 1))
                case rel => exact ⟨j + 1, by omega, rfl, by go_num, HBb.out⟩
                case measure => have := HQ3.out; omega
              · rw [he, err_nil]
                rw [hbb] at hv
                obtain ⟨RA, rc, e1, hv2⟩ := hv
                rw [HK33.out] at e1
                subst e1
                have HVR : Hid (Rd wa wa.heap.size RA kb) := Lib.hid hv2.2.1
                clear hv2 HV
                go_wp2_with fail
                refine (code_nil _).mono ?_
                rintro r wb ⟨rfl, hb⟩
                have HBb := Lib.hid (below_on HBa.out hb)
                have HWb := Lib.hid (HWa.out.up hb (lt_of_block HWa.out))
                have HVb := Lib.hid (rd_up HVR.out hb)
                have w2 : wb.cell? ⟨wr.heap.size, 2, none⟩ = some (.slice BA 33 bc) := blk_cell HWb.out 2 _ rfl
                have HBFb := Lib.hid (HBF.out.up HBb.out)
                clear hb
                go_wp2_with fail
                refine (same_is HVb.out HBFb.out.parts.1 HK33.out HK33.out (by omega)).mono ?_
                rintro r wd ⟨rfl, hb⟩
                have hd : decide (kb = kb) = true := by simp
                rw [hd]
                have HBd := Lib.hid (below_on HBb.out hb)
                clear hb hd
                go_wp2_with fail
                go_roundg (L1 - (j + 1))
                case rel => exact ⟨j + 1, by omega, rfl, by go_num, HBd.out⟩
                case measure => have := HQ3.out; omega
            · obtain rfl : j = L1 := by omega
              have HTe := Lib.hid (HT.out.up HB.out)
              go_wp2_with fail
              refine (Z.down HTe.out.d).mono ?_
              rw [HGN.out]
              rintro r wb ⟨rfl, hb⟩
              have HTf := Lib.hid (HTe.out.up hb)
              clear hb
              go_wp2_with fail
              go_ret
              exact ⟨rfl, HTf.out.below HBW.out (fun k e => (HF0.out k e).1)⟩
end Go.Proofs.YtljpkngbhdplbaaDoor

/-
  An index in memory: Keys.
-/
import Derived.Test.YtajccmkdfmpapaaGreatDoorZmJ
import Derived.Test.YtajccmkdfmpapaaGreatDoorSoJ
import Derived.Deep.MidRow
namespace Go.Proofs.YtajccmkdfmpapaaGreatDoor
open Go.RowKit

/-- Keys as cells. -/
def uC (l : List Nat) : List Value := l.map (fun k : Nat => Value.int .u32 (k : Int))
theorem uC_len (l : List Nat) : (uC l).length = l.length := by simp [uC]
theorem uC_snoc (l : List Nat) (k : Nat) : uC (l ++ [k]) = uC l ++ [.int .u32 (k : Int)] := by simp [uC]
/-- The keys of the places that are taken, of the first m. -/
def tk (T : TabS) : Nat → List Nat
  | 0 => []
  | m + 1 => tk T m ++ (if T.t m = true then [T.k m] else [])
theorem tk_len (T : TabS) : ∀ m, (tk T m).length ≤ m
  | 0 => by simp [tk]
  | m + 1 => by
    have := tk_len T m
    unfold tk
    split
    · rw [List.length_append, List.length_singleton]
      omega
    · rw [List.append_nil]
      omega
theorem mem_tk {T : TabS} {k : Nat} : ∀ {m : Nat}, k ∈ tk T m ↔ ∃ i, i < m ∧ T.t i = true ∧ T.k i = k
  | 0 => by
    unfold tk
    constructor
    · intro h; cases h
    · rintro ⟨i, hi, _⟩; omega
  | m + 1 => by
    unfold tk
    rw [List.mem_append, mem_tk (m := m)]
    constructor
    · rintro (⟨i, hi, h⟩ | h)
      · exact ⟨i, by omega, h⟩
      · split at h
        · rename_i ht
          exact ⟨m, by omega, ht, (List.mem_singleton.1 h).symm⟩
        · cases h
    · rintro ⟨i, hi, ht, hk⟩
      by_cases e : i = m
      · subst e
        right
        rw [if_pos ht]
        exact List.mem_singleton.2 hk.symm
      · exact .inl ⟨i, by omega, ht, hk⟩
theorem tk_nd {T : TabS} {L : PL} (h : TL T L) : ∀ m, m ≤ 128 → (tk T m).Nodup
  | 0, _ => by simp [tk]
  | m + 1, hm => by
    have ih := tk_nd h m (by omega)
    unfold tk
    split
    · rename_i ht
      refine List.nodup_append.2 ⟨ih, by simp, fun x hx y hy e => ?_⟩
      obtain ⟨i, hi, hti, hk⟩ := mem_tk.1 hx
      rw [List.mem_singleton.1 hy] at e
      have := h.inj i m (by omega) (by omega) hti ht (hk.trans e)
      omega
    · rwa [List.append_nil]
theorem TL.keys {T : TabS} {L : PL} (h : TL T L) {k : Nat} : k ∈ tk T 128 ↔ k ∈ keysL L := by
  rw [mem_tk]
  constructor
  · rintro ⟨i, hi, ht, rfl⟩
    exact List.mem_map.2 ⟨_, h.mem i hi ht, rfl⟩
  · intro hk
    obtain ⟨e, he, rfl⟩ := List.mem_map.1 hk
    obtain ⟨i, hi, ht, hie⟩ := h.of e he
    exact ⟨i, hi, ht, by rw [← hie]⟩
theorem keys_asc {L : PL} (h : Asc L) : (keysL L).Pairwise (· < ·) := List.pairwise_map.2 h
theorem asc_nd {l : List Nat} (h : l.Pairwise (· < ·)) : l.Nodup := h.imp (fun h => by omega)
theorem TL.keys_len {T : TabS} {L : PL} (h : TL T L) (ha : Asc L) : (tk T 128).length = L.length := by
  have h1 := nd_sub (tk_nd h 128 (Nat.le_refl _)) (fun x hx => h.keys.1 hx)
  have h2 := nd_sub (asc_nd (keys_asc ha)) (fun x hx => h.keys.2 hx)
  have : (keysL L).length = L.length := by simp [keysL]
  omega
set_option maxRecDepth 100000 in
/-- The whole array is loaded. -/
theorem at_loadP {ops : Array Oper} {Q : Exit → Act → World → Prop} {rest : List Oper} {a : Act} {w : World} {d : Option Tmp} {x : Operand} {ty : TypeId} {po : String} {af : Array Edge} (kb : Nat) (cs : List Value) (Z : Array Value) (hZ : ((cs.drop 2).take 384).toArray = Z) (hB : Blk w kb 105 cs) (hl : cs.length = 386) (hx : a.eval x = .pointer (some ⟨kb, 2, none⟩))
    (h : wpList Tryz.prog ops Q rest (a.put d (.agg Z)) w) : wpList Tryz.prog ops Q ({ dst := d, op := .load 103 x, type := ty, pos := po, after := af, guard := none } :: rest) a w := by
  subst hZ
  refine wpList_load_mid rfl 103 x rfl kb 2 hx ((cs.drop 2).take 384) _ ?_ Tryz.underlying103 rfl (by rw [List.length_take, List.length_drop, hl]; kernel_rfl) h
  intro j v hj
  rw [List.getElem?_take] at hj
  split at hj
  · rw [List.getElem?_drop] at hj
    exact hB.at hj
  · cases hj
theorem take3 {xs : List Value} {o : Nat} {a b c : Value} (h0 : xs[o]? = some a) (h1 : xs[o + 1]? = some b) (h2 : xs[o + 2]? = some c) : (xs.drop o).take 3 = [a, b, c] := by
  obtain ⟨l0, e0⟩ := List.getElem?_eq_some_iff.1 h0
  obtain ⟨l1, e1⟩ := List.getElem?_eq_some_iff.1 h1
  obtain ⟨l2, e2⟩ := List.getElem?_eq_some_iff.1 h2
  rw [List.drop_eq_getElem_cons l0, List.take_succ_cons, List.drop_eq_getElem_cons l1, List.take_succ_cons, List.drop_eq_getElem_cons l2, List.take_succ_cons, List.take_zero, e0, e1, e2]
set_option maxRecDepth 100000 in
theorem index_run (cs : List Value) (T : TabS) (Z : Array Value) (hZ : ((cs.drop 2).take 384).toArray = Z) (hP : PlC cs T) (i : Nat) (hi : i < 128) (w : World) : (Instr.index 103 (.agg Z) (.int .i64 (i : Int))).run Tryz.prog w = .ok (.agg #[.int .u32 (T.k i : Int), .int .i64 (T.s i), .bool (T.t i)]) w := by
  have hu : Tryz.prog.underlying 103 = some (.array 128 102) := Tryz.underlying103
  have hag : (isAgg 102).run Tryz.prog w = .ok true w := Tryz.isAgg102 w
  have hsz : (sizeOf 102).run Tryz.prog w = .ok 3 w := Tryz.sizeOf102 w
  obtain ⟨p0, p1, p2⟩ := hP i hi
  have g (k : Nat) (hk : k < 3) : ((cs.drop 2).take 384)[i * 3 + k]? = cs[2 + i * 3 + k]? := by
    rw [List.getElem?_take, if_pos (by omega), List.getElem?_drop]
    congr 1
    omega
  have ht := take3 (xs := (cs.drop 2).take 384) (o := i * 3) ((g 0 (by omega)).trans p0) ((g 1 (by omega)).trans p1) ((g 2 (by omega)).trans p2)
  have he : Z.extract (i * 3) (i * 3 + 3) = #[.int .u32 (T.k i : Int), .int .i64 (T.s i), .bool (T.t i)] := by
    subst hZ
    apply Array.ext'
    simp only [Array.toList_extract, List.extract_eq_take_drop]
    rw [show i * 3 + 3 - i * 3 = 3 by omega, ht]
  have hb : (0 : Int) ≤ (i : Int) ∧ (i : Int) < ((128 : Nat) : Int) := by omega
  simp [Instr.index, asIntOf, run_underlying hu, part, hag, hsz, he]
  omega
set_option maxRecDepth 100000 in
/-- A place of the array that was loaded. -/
theorem at_indexR {ops : Array Oper} {Q : Exit → Act → World → Prop} {rest : List Oper} {a : Act} {w : World} {d : Option Tmp} {x y : Operand} {ty : TypeId} {po : String} {af : Array Edge} (Z : Array Value) (i : Nat) (u1 u2 u3 : Value) (hX : ∀ w, (Instr.index 103 (.agg Z) (.int .i64 (i : Int))).run Tryz.prog w = .ok (.agg #[u1, u2, u3]) w) (hx : a.eval x = .agg Z) (hy : a.eval y = .int .i64 (i : Int))
    (h : wpList Tryz.prog ops Q rest (a.put d (.agg #[u1, u2, u3])) w) : wpList Tryz.prog ops Q ({ dst := d, op := .index 103 x y, type := ty, pos := po, after := af, guard := none } :: rest) a w := by
  refine wpList_plain rfl fun K hK => ?_
  unfold Oper.wp
  simp [execOp, hx, hy, hX, Result.andThen]
  exact hK _ _ h
theorem u32Info : (Tryz.prog.info? 34).map (fun i => (i.zero, i.size, i.bytes)) = some (some (.int .u32 0), 1, 4) := by kernel_rfl
/-- A row of keys of the call's own, nil if there is none. -/
def KRow (w : World) (base : Nat) (v : Value) (l : List Nat) : Prop := w.ownsRow base 34 1 v l.length (uC l)
theorem KRow.nil (w : World) (base : Nat) : KRow w base (.slice none 0 0) [] := World.ownsRow_nil _ _ _ _
theorem KRow.up {w w' : World} {base : Nat} {v : Value} {l : List Nat} (h : KRow w base v l) (hb : Below w.heap.size w w') : KRow w' base v l :=
  ⟨h.1, h.2.imp id fun ⟨g', c', cur, hv, hg, hc, r⟩ => ⟨g', c', cur, hv, hg, (hb.block g' (lt_of_block hc)).trans hc, r⟩⟩
/-- What is told of keys: a row of one's own. -/
def KeysIs (l : List Nat) (w : World) (r : Ending) (w' : World) : Prop := ∃ A c, r = .returned (.slice A l.length c) ∧ RowF (fun k => w.heap.size ≤ k) w' (.slice A l.length c) (uC l) ∧ Below w.heap.size w w'
/-- .. and what it lies in. -/
def KeysT (l : List Nat) (w : World) (r : Ending) (w' : World) : Prop := ∃ A c, r = .returned (.slice A l.length c) ∧ RowF (fun k => w.heap.size ≤ k) w' (.slice A l.length c) (uC l) ∧ Below w.heap.size w w' ∧ ∀ b o x, A = some ⟨b, o, x⟩ → ∃ cs, Blk w' b 34 cs
theorem KeysT.is {l : List Nat} {w w' : World} {r : Ending} (h : KeysT l w r w') : KeysIs l w r w' := by
  obtain ⟨A, c, h1, h2, h3, _⟩ := h
  exact ⟨A, c, h1, h2, h3⟩
theorem KRow.ar {w : World} {base g n cap : Nat} {l : List Nat} (h : KRow w base (.slice (some ⟨g, 0, none⟩) n cap) l) (hn : l.length = n) : base ≤ g ∧ n ≤ cap ∧ ∃ C, Ar w g n C (fun i => l.getD i 0) := by
  rcases h.2 with ⟨h', _⟩ | ⟨g', cap', cur, hv, hb, hg, hc, hm, hs, ht⟩
  · simp at h'
  · injection hv with h1 h2 h3
    obtain h1 := Option.some.inj h1
    injection h1 with h1
    subst h1 h3
    refine ⟨hb, by omega, cap * 1, ⟨⟨cur.toList, ?_, by simpa using hs, fun i hi => ?_⟩, by omega⟩⟩
    · unfold Blk
      simpa using hg
    · have e : (uC l)[i]? = some (.int .u32 ((l.getD i 0 : Nat) : Int)) := by
        have hil : i < l.length := by omega
        simp [uC, hil]
      rw [← ht, List.getElem?_take] at e
      split at e
      · exact e
      · cases e
theorem Ar.row {w : World} {base g n C cap : Nat} {E : Nat → Nat} {l : List Nat} (h : Ar w g n C E) (hb : base ≤ g) (hc : n ≤ cap) (hn : l.length = n) (hl : (List.range n).map E = l) : RowF (fun k => base ≤ k) w (.slice (some ⟨g, 0, none⟩) n cap) (uC l) := by
  refine ⟨some ⟨g, 0, none⟩, cap, by rw [uC_len, hn], by rw [uC_len]; omega, fun _ => ⟨g, 0, rfl, h.lt, fun i hi => ?_⟩, fun _ => InF.one hb, fun e => (by cases e)⟩
  rw [uC_len, hn] at hi
  rw [Nat.zero_add, h.get i hi]
  subst hl
  simp [uC]
theorem list_range (l : List Nat) : (List.range l.length).map (fun i => l.getD i 0) = l := by
  refine List.ext_getElem (by simp) fun i h1 h2 => ?_
  simp at h1
  simp [h1]
theorem nd_inj {l : List Nat} (h : l.Nodup) : Inj l.length (fun i => l.getD i 0) := by
  intro i j hi hj e
  simp only [List.getD_eq_getElem?_getD, List.getElem?_eq_getElem hi, List.getElem?_eq_getElem hj, Option.getD_some] at e
  exact (List.getElem_inj h).1 e
theorem KRow.block {w : World} {base k : Nat} {v : Value} {l : List Nat} (h : KRow w base v l) (hk : v.ownBlock = some k) : base ≤ k := by
  rcases h.2 with ⟨rfl, _⟩ | ⟨g, cap, cur, rfl, hb, _⟩
  · cases hk
  · have := Option.some.inj hk
    subst this
    exact hb
/-- append of a key. -/
theorem appKey (w : World) {ops : Array Oper} {rest : List Oper} {o : Oper} {a : Act} {Q : Exit → Act → World → Prop} (hgd : o.guard = none) (s x : Operand) (ho : o.op = .call { callee := .builtin .append, args := #[s, x], argTypes := #[121, 121] })
    (base : Nat) (v : Value) (l : List Nat) (k : Nat) (b c : Nat) (hs : a.eval s = v) (hown : KRow w base v l) (hx : a.eval x = .slice (some ⟨b, 0, none⟩) 1 c) (hr : w.cell? ⟨b, 0, none⟩ = some (.int .u32 (k : Int))) (hlen : l.length ≤ 1000) (hbase : base ≤ w.heap.size)
    (h : ∀ g cap w', KRow w' base (.slice (some ⟨g, 0, none⟩) (l.length + 1) cap) (l ++ [k]) → w.grownBy w' v.ownBlock → wpList Tryz.prog ops Q rest (a.put o.dst (.slice (some ⟨g, 0, none⟩) (l.length + 1) cap)) w') : wpList Tryz.prog ops Q (o :: rest) a w := by
  obtain ⟨i0, hi, hz0, hz1, hz2⟩ := info_parts u32Info
  refine wpList_append_lies w hgd s x 121 ho base 34 i0 (.int .u32 0) 1 4 Tryz.underlying121 hi hz0 hz1 hz2 rfl (by decide) v l.length (uC l) hs hown ⟨b, 0, none⟩ 1 c [.int .u32 (k : Int)] hx rfl (fun j u hj => ?_) (fun u hu => ?_) (by omega) (by unfold maxLen; omega) (by omega) hbase w.heap.size rfl ?_
  · rcases j with _ | j
    · simp at hj
      subst hj
      simpa [Addr.add] using hr
    · simp at hj
  · rw [List.mem_singleton.1 hu]
    rfl
  · intro g cap w' h2 h3 _ _
    refine h g cap w' ?_ h3
    unfold KRow
    rw [uC_snoc, List.length_append, List.length_singleton]
    exact h2
set_option maxRecDepth 100000 in
set_option maxHeartbeats 2000000 in
theorem xkeysT_at {w : World} {kb : Nat} {S : IxS} (h : IxM w kb S) : Calls Tryz.prog 60 #[.pointer (some ⟨kb, 0, none⟩)] w (KeysT (keysL S.L) w) := by
  obtain ⟨⟨cs, T, hC, hT⟩, hw⟩ := h
  obtain ⟨Z, hZ⟩ : ∃ Z, ((cs.drop 2).take 384).toArray = Z := ⟨_, rfl⟩
  have HZ := Lib.hid hZ
  have HB := Lib.hid hC.b
  have HLN := Lib.hid hC.len
  have HPC := Lib.hid hC.p
  have HT := Lib.hid hT
  have HW := Lib.hid hw
  clear hC hT hw hZ
  go_enter Tryz.func60, Tryz.ntmps60
  go_wp2_with (first
    | ((with_reducible refine at_loadP kb cs Z HZ.out HB.out HLN.out ?_ ?_); (· rfl))
    | fail)
  go_loopg [3, 10] 128 (fun q x y wr => ∃ i : Nat, y = .int .i64 (i : Int) ∧ i ≤ 128 ∧ q = 128 - i ∧ KRow wr w.heap.size x (tk T i) ∧ Below w.heap.size w wr)
  case atStart => exact ⟨0, rfl, by omega, rfl, KRow.nil _ _, Below.refl _ _⟩
  case round =>
    obtain ⟨i, rfl, hi, hq, hr, hb⟩ := hrel
    have HQ := Lib.hid hq
    have HR := Lib.hid hr
    have HBE := Lib.hid hb
    obtain ⟨v, hv⟩ : ∃ v, u3 = v := ⟨_, rfl⟩
    subst hv
    clear hq hr hb
    by_cases hlt : i < 128
    · obtain ⟨pb, hpb⟩ : ∃ pb, wr.heap.size = pb := ⟨_, rfl⟩
      have hbx : Below wr.heap.size wr (wr.alloc (.cells #[.int .u32 (T.k i : Int), .int .i64 (T.s i), .bool (T.t i)] 102)) := (Below.refl _ _).alloc (Nat.le_refl _) _
      have hbk : Blk (wr.alloc (.cells #[.int .u32 (T.k i : Int), .int .i64 (T.s i), .bool (T.t i)] 102)) pb 102 [.int .u32 (T.k i : Int), .int .i64 (T.s i), .bool (T.t i)] := by rw [← hpb]; exact heap_alloc_new wr _
      have HTL := Lib.hid (tk_len T i)
      cases ht : T.t i with
      | false =>
        have HN : Hid (tk T (i + 1) = tk T i) := Lib.hid (by
          rw [tk, ht]
          simp)
        have HX := Lib.hid (fun w => index_run cs T Z HZ.out HPC.out i hlt w)
        rw [ht] at HX hbx hbk
        have HR1 := Lib.hid (HR.out.up hbx)
        have HB1 := Lib.hid (below_all HBE.out hbx)
        have y2 := hbk.cell 2 (by simp)
        simp only [List.getElem_cons_zero, List.getElem_cons_succ] at y2
        clear ht hbx hbk HR HBE
        go_wp2_with (first
          | ((with_reducible refine at_indexR Z i _ _ _ HX.out ?_ ?_ ?_); (· rfl); (· rfl))
          | fail)
        go_roundg (128 - (i + 1))
        case rel => exact ⟨i + 1, by go_num, by omega, rfl, by rw [HN.out]; exact HR1.out, HB1.out⟩
        case measure => have := HQ.out; omega
      | true =>
        have HN : Hid (tk T (i + 1) = tk T i ++ [T.k i]) := Lib.hid (by
          rw [tk, ht]
          simp)
        have HX := Lib.hid (fun w => index_run cs T Z HZ.out HPC.out i hlt w)
        rw [ht] at HX hbx hbk
        obtain ⟨ky, hky⟩ : ∃ ky, T.k i = ky := ⟨_, rfl⟩
        rw [hky] at HX hbx hbk HN
        obtain ⟨wx, hwx⟩ : ∃ wx, wr.alloc (.cells #[.int .u32 (ky : Int), .int .i64 (T.s i), .bool true] 102) = wx := ⟨_, rfl⟩
        rw [hwx] at hbx hbk
        have HR1 := Lib.hid (HR.out.up hbx)
        have HB1 := Lib.hid (below_all HBE.out hbx)
        have y0 := hbk.cell 0 (by simp)
        have y2 := hbk.cell 2 (by simp)
        simp only [List.getElem_cons_zero, List.getElem_cons_succ] at y0 y2
        clear hky hbx hbk HR HBE
        have hb2 : Below wx.heap.size wx (wx.alloc (.cells #[.int .u32 (ky : Int)] 34)) := (Below.refl _ _).alloc (Nat.le_refl _) _
        have HR2 := Lib.hid (HR1.out.up hb2)
        have HB2 := Lib.hid (below_all HB1.out hb2)
        have HC2 : Hid ((wx.alloc (.cells #[.int .u32 (ky : Int)] 34)).cell? ⟨wx.heap.size, 0, none⟩ = some (.int .u32 (ky : Int))) := Lib.hid (Blk.cell (T := 34) (cs := [.int .u32 (ky : Int)]) (heap_alloc_new wx _) 0 (by simp))
        clear ht hb2 HR1 HB1
        go_wp2_with (first
          | ((with_reducible refine at_indexR Z i _ _ _ HX.out ?_ ?_ ?_); (· rfl); (· rfl))
          | (at_builtin; refine appKey _ rfl (.tmp 15) (.tmp 18) rfl w.heap.size u3 (tk T i) ky wx.heap.size 1 rfl HR2.out rfl HC2.out (by have := HTL.out; omega) HB2.out.size ?_; intro g' cap' w6 ho hg; have HR3 : Hid (KRow w6 w.heap.size _ (tk T (i + 1))) := Lib.hid (by rw [HN.out]; exact ho); have HB3 := Lib.hid (below_grown HB2.out hg (fun k e => HR2.out.block e)); clear ho hg)
          | fail)
        go_roundg (128 - (i + 1))
        case rel => exact ⟨i + 1, by go_num, by omega, rfl, HR3.out, HB3.out⟩
        case measure => have := HQ.out; omega
    · obtain rfl : i = 128 := by omega
      have HKL := Lib.hid (HT.out.keys_len HW.out.asc)
      have hkl : (keysL S.L).length = S.L.length := by simp [keysL]
      have hr := HR.out
      rcases hr.2 with ⟨h0, h1⟩ | ⟨g, cap, cur, hv, hbg, _, hncap, _⟩
      · subst h0
        have hnil : keysL S.L = [] := List.eq_nil_of_length_eq_zero (by have := HKL.out; omega)
        have HE : Hid (KeysT (keysL S.L) w (.returned (.slice none 0 0)) wr) := Lib.hid (by
          rw [hnil]
          exact ⟨none, 0, rfl, RowF.nil _ _, HBE.out, fun _ _ _ e => (by cases e)⟩)
        clear hr h1 hnil
        go_wp2_with fail
        refine (soSort_nil _).mono ?_
        rintro r w' ⟨rfl, rfl⟩
        go_wp2_with fail
        go_ret
        exact HE.out
      · subst hv
        obtain ⟨n, hn⟩ : ∃ n, (tk T 128).length = n := ⟨_, rfl⟩
        rw [hn] at hncap ⊢
        have hr2 : KRow wr w.heap.size (.slice (some ⟨g, 0, none⟩) n cap) (tk T 128) := by rw [← hn]; exact HR.out
        obtain ⟨_, _, C, hAr⟩ := hr2.ar hn
        have hinj := nd_inj (tk_nd HT.out 128 (Nat.le_refl _))
        rw [hn] at hinj
        have hrl := list_range (tk T 128)
        rw [hn] at hrl
        have htl := tk_len T 128
        have HS := Lib.hid (soSort_at g n C cap (fun i => (tk T 128).getD i 0) wr hAr (by omega) hncap hinj)
        have HE : Hid (∀ w', SoTo g n C 0 n (fun i => (tk T 128).getD i 0) (Srt 0 n) wr w' → KeysT (keysL S.L) w (.returned (.slice (some ⟨g, 0, none⟩) n cap)) w') := Lib.hid (fun w' hs => by
          obtain ⟨E, hE, hP, hS, hK⟩ := hs
          obtain ⟨hp1, hp2⟩ := hP.srt_list hS hinj
          rw [hrl] at hp2
          have hEL : (List.range n).map E = keysL S.L := asc_eq hp1 (keys_asc HW.out.asc) (fun x => (hp2 x).trans HT.out.keys)
          have hnl : (keysL S.L).length = n := by rw [← hEL]; simp
          refine ⟨some ⟨g, 0, none⟩, cap, by rw [hnl], ?_, ?_, fun b o x e => ?_⟩
          · rw [hnl]
            exact hE.row hbg hncap hnl hEL
          · exact HBE.out.trans (hK.below HBE.out.size (fun k hk => by rw [hk]; exact hbg))
          · have e := Option.some.inj e
            injection e with e
            subst e
            obtain ⟨cs, hB, _⟩ := hE.ex
            exact ⟨cs, hB⟩)
        clear hr hr2 hAr hinj hrl htl hn hkl
        go_wp2_with fail
        refine HS.out.mono ?_
        rintro r w' ⟨rfl, hs⟩
        have HS2 := Lib.hid hs
        clear hs
        go_wp2_with fail
        go_ret
        exact HE.out _ HS2.out
theorem xkeys_at {w : World} {kb : Nat} {S : IxS} (h : IxM w kb S) : Calls Tryz.prog 60 #[.pointer (some ⟨kb, 0, none⟩)] w (KeysIs (keysL S.L) w) := (xkeysT_at h).mono (fun _ _ h => h.is)
end Go.Proofs.YtajccmkdfmpapaaGreatDoor

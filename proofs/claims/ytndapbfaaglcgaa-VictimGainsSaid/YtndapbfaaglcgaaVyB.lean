/-
  The closure that orders zones: benefits held against one another by products, then numbers.
-/
import Derived.Test.YtndapbfaaglcgaaVyA
namespace Go.Proofs.Ytndapbfaaglcgaa
open Go.RowKit

/-- A world behind draws and new blocks, and nothing else. -/
def Grw (W u : World) : Prop := ∃ q os, u = Go.Sort.grow (W.drewN q) os
theorem Grw.refl (W : World) : Grw W W := ⟨0, #[], by rw [Go.Sort.grow_empty]; rfl⟩
theorem Grw.alloc {W u : World} (h : Grw W u) (o : Obj) : Grw W (u.alloc o) := by
  obtain ⟨q, os, rfl⟩ := h
  exact ⟨q, os ++ #[o], by rw [Go.Sort.alloc_eq_grow, Go.Sort.grow_grow]⟩
theorem Grw.drew {W u : World} (h : Grw W u) : Grw W u.drew := by
  obtain ⟨q, os, rfl⟩ := h
  exact ⟨q + 1, os, rfl⟩
theorem Grw.trans {a b c : World} (h : Grw a b) (k : Grw b c) : Grw a c := by
  obtain ⟨q, os, rfl⟩ := h
  obtain ⟨q2, os2, rfl⟩ := k
  refine ⟨q + q2, os ++ os2, ?_⟩
  rw [← Go.Sort.grow_grow]
  show Go.Sort.grow (Go.Sort.grow ((a.drewN q).drewN q2) os) os2 = _
  rw [World.drewN_drewN]
theorem Grw.below {W u : World} (h : Grw W u) : Below W.heap.size W u := by
  obtain ⟨q, os, rfl⟩ := h
  refine ⟨rfl, rfl, rfl, ?_, fun k hk => ?_⟩
  · rw [Go.Sort.size_grow]
    exact Nat.le_add_right _ _
  · exact Go.Sort.heap_grow_old (W.drewN q) os hk
/-- A callee that makes memory, and nothing else. -/
theorem In.grw {P : Program} {G : World → Prop} {f : FuncId} {args : Array Value} {n : In G} {v : Value} (up : ∀ {a b : World}, G a → Grw a b → G b) (h : Calls P f args n.w fun e w' => e = .returned v ∧ Grw n.w w') :
    Calls P f args n.w fun e w'' => e = .returned v ∧ ∃ m : In G, w'' = m.w :=
  h.mono fun _ w' ⟨he, hw⟩ => ⟨he, ⟨w', up n.ok hw⟩, rfl⟩
def IntG (k : IntKind) (x : Int) (W : World) (e : Ending) (w' : World) : Prop := e = .returned (.int k x) ∧ Grw W w'

set_option maxHeartbeats 1000000 in
theorem vydd_at {p ia va : Int} {na : Nat} {x : Int} (W : World) (h2 : 0 ≤ va) (h3 : va ≤ p) (hp : p ≤ 16) (hn : na < 4294967296) (hx : ((na : Int) + 1) * (p - va) = x) : Calls Try.prog 36 #[.int .i64 p, .agg #[.int .i64 ia, .int .i64 va, .int .u32 (na : Int)]] W (IntG .u64 x W) := by
  obtain ⟨e1, e2, e3, e4, _⟩ := prods (vb := va) hp h2 h3 h2 h3 hn
  have e5 : IntKind.u64.wrap (((na : Int) + 1) * (p - va)) = x := by rw [e4, hx]
  have HB : Hid (Grw W (W.alloc (.cells #[.int .i64 ia, .int .i64 va, .int .u32 (na : Int)] 38))) := Lib.hid ((Grw.refl W).alloc _)
  clear h2 h3 hp hx e4
  go_enter Try.func36, Try.ntmps36
  go_wp2_with fail
  go_ret
  exact ⟨rfl, HB.out⟩
set_option maxHeartbeats 1000000 in
theorem vyds_at {p ia va : Int} {na : Nat} (W : World) (h2 : 0 ≤ va) (h3 : va ≤ p) (hp : p ≤ 16) : Calls Try.prog 37 #[.agg #[.int .i64 ia, .int .i64 va, .int .u32 (na : Int)]] W (IntG .u64 (va + 1) W) := by
  have e1 : IntKind.u64.wrap va = va := wrap_in (by omega) (by omega)
  have e2 : IntKind.u64.wrap (va + 1) = va + 1 := wrap_in (by omega) (by omega)
  have HB : Hid (Grw W (W.alloc (.cells #[.int .i64 ia, .int .i64 va, .int .u32 (na : Int)] 38))) := Lib.hid ((Grw.refl W).alloc _)
  clear h2 h3 hp
  go_enter Try.func37, Try.ntmps37
  go_wp2_with fail
  go_ret
  exact ⟨rfl, HB.out⟩
set_option maxHeartbeats 2000000 in
set_option maxRecDepth 100000 in
theorem vyag_at (p : Int) (a b : VZ) (W : World) (hp : p ≤ 16) (h1 : 0 ≤ a.v) (h2 : a.v ≤ p) (h3 : 0 ≤ b.v) (h4 : b.v ≤ p) (hna : a.age < 4294967296) (hnb : b.age < 4294967296) : Calls Try.prog 29 #[.int .i64 p, zV a, zV b] W (IntG .i64 (cmpZ (VZ.prod p a b) (VZ.prod p b a)) W) := by
  obtain ⟨_, _, _, _, _, _, e7⟩ := prods hp h1 h2 h3 h4 hna
  obtain ⟨_, _, _, _, _, _, f7⟩ := prods hp h3 h4 h1 h2 hnb
  show Calls _ _ _ _ (IntG .i64 (cmpZ (((a.age : Int) + 1) * (p - a.v) * (b.v + 1)) (((b.age : Int) + 1) * (p - b.v) * (a.v + 1))) W)
  unfold zV
  generalize a.id = ia at *
  generalize b.id = ib at *
  generalize a.age = na at *
  generalize b.age = nb at *
  generalize a.v = va at *
  generalize b.v = vb at *
  obtain ⟨x1, hx1⟩ : ∃ x, ((na : Int) + 1) * (p - va) = x := ⟨_, rfl⟩
  obtain ⟨y1, hy1⟩ : ∃ x, ((nb : Int) + 1) * (p - vb) = x := ⟨_, rfl⟩
  have HA1 := Lib.hid (fun u => vydd_at (ia := ia) u h1 h2 hp hna hx1)
  have HA2 := Lib.hid (fun u => vydd_at (ia := ib) u h3 h4 hp hnb hy1)
  have HA3 := Lib.hid (fun u => vyds_at (ia := ia) (na := na) u h1 h2 hp)
  have HA4 := Lib.hid (fun u => vyds_at (ia := ib) (na := nb) u h3 h4 hp)
  rw [hx1] at e7 ⊢
  rw [hy1] at f7 ⊢
  obtain ⟨x2, hx2⟩ : ∃ x, x1 * (vb + 1) = x := ⟨_, rfl⟩
  obtain ⟨y2, hy2⟩ : ∃ x, y1 * (va + 1) = x := ⟨_, rfl⟩
  have g7 : IntKind.u64.wrap (x1 * (vb + 1)) = x2 := by rw [e7, hx2]
  have k7 : IntKind.u64.wrap (y1 * (va + 1)) = y2 := by rw [f7, hy2]
  rw [hx2, hy2]
  have HCU := Lib.hid (fun w => cmpU_at x2 y2 w)
  obtain ⟨cz, hcz⟩ : ∃ f, cmpZ x2 y2 = f := ⟨_, rfl⟩
  rw [hcz] at HCU ⊢
  have ha1 : Grw W ((W.alloc (.cells #[.int .i64 ia, .int .i64 va, .int .u32 (na : Int)] 38)).alloc (.cells #[.int .i64 ib, .int .i64 vb, .int .u32 (nb : Int)] 38)) := ((Grw.refl W).alloc _).alloc _
  have hka : Blk ((W.alloc (.cells #[.int .i64 ia, .int .i64 va, .int .u32 (na : Int)] 38)).alloc (.cells #[.int .i64 ib, .int .i64 vb, .int .u32 (nb : Int)] 38)) W.heap.size 38 [.int .i64 ia, .int .i64 va, .int .u32 (na : Int)] := by
    unfold Blk
    rw [heap_alloc_old _ _ (by simp)]
    exact heap_alloc_new _ _
  have hkb : Blk ((W.alloc (.cells #[.int .i64 ia, .int .i64 va, .int .u32 (na : Int)] 38)).alloc (.cells #[.int .i64 ib, .int .i64 vb, .int .u32 (nb : Int)] 38)) (W.heap.size + 1) 38 [.int .i64 ib, .int .i64 vb, .int .u32 (nb : Int)] := by
    have h := heap_alloc_new (W.alloc (.cells #[.int .i64 ia, .int .i64 va, .int .u32 (na : Int)] 38)) (.cells #[.int .i64 ib, .int .i64 vb, .int .u32 (nb : Int)] 38)
    rw [show (W.alloc (.cells #[.int .i64 ia, .int .i64 va, .int .u32 (na : Int)] 38)).heap.size = W.heap.size + 1 by simp] at h
    exact h
  obtain ⟨w2, hw2⟩ : ∃ u, (W.alloc (.cells #[.int .i64 ia, .int .i64 va, .int .u32 (na : Int)] 38)).alloc (.cells #[.int .i64 ib, .int .i64 vb, .int .u32 (nb : Int)] 38) = u := ⟨_, rfl⟩
  rw [hw2] at ha1 hka hkb
  have HG := Lib.hid ha1
  have HKA := Lib.hid hka
  have HKB := Lib.hid hkb
  clear ha1 hka hkb h1 h2 h3 h4 hp hna hnb hx1 hy1 hx2 hy2 hcz e7 f7
  go_enter Try.func29, Try.ntmps29
  go_wp2_with fail
  clear hw2
  have HUP : Hid (∀ {a b : World}, Grw w2 a → Grw a b → Grw w2 b) := Lib.hid (fun h k => h.trans k)
  refine wp_region_in (fun u => Grw w2 u) (Grw.refl _).drew (by kernel_rfl) (by kernel_rfl) (fun ne => ?_)
  have c0 := fun n : In (fun u => Grw w2 u) => (HKA.out.up n.ok.below (lt_of_block HKA.out)).cell 0 (by simp)
  have c1 := fun n : In (fun u => Grw w2 u) => (HKA.out.up n.ok.below (lt_of_block HKA.out)).cell 1 (by simp)
  have c2 := fun n : In (fun u => Grw w2 u) => (HKA.out.up n.ok.below (lt_of_block HKA.out)).cell 2 (by simp)
  have d0 := fun n : In (fun u => Grw w2 u) => (HKB.out.up n.ok.below (lt_of_block HKB.out)).cell 0 (by simp)
  have d1 := fun n : In (fun u => Grw w2 u) => (HKB.out.up n.ok.below (lt_of_block HKB.out)).cell 1 (by simp)
  have d2 := fun n : In (fun u => Grw w2 u) => (HKB.out.up n.ok.below (lt_of_block HKB.out)).cell 2 (by simp)
  repeat (go_big_quiet_step (first
    | (go_at_call 36; first | (with_reducible exact In.grw HUP.out (HA1.out _)) | (with_reducible exact In.grw HUP.out (HA2.out _)))
    | (go_at_call 37; first | (with_reducible exact In.grw HUP.out (HA3.out _)) | (with_reducible exact In.grw HUP.out (HA4.out _)))
    | (go_at_call 35; (with_reducible exact In.same (HCU.out _)))))
  refine wpQuiet_nil ?_
  intro nq
  have HE : Hid (IntG .i64 cz W (.returned (.int .i64 cz)) nq.w) := Lib.hid ⟨rfl, HG.out.trans nq.ok⟩
  clear c0 c1 c2 d0 d1 d2
  go_wp2_with fail
  go_ret
  exact HE.out
end Go.Proofs.Ytndapbfaaglcgaa

/-
  The law's awake: fixed calls of the landed device.
-/
import Derived.Test.YtljpkngbhdplbaaDoorZnsQ
namespace Go.Proofs.YtljpkngbhdplbaaDoor
open Go.RowKit

theorem make33 (w : World) : (Instr.makeSlice 35 (.int .i64 33) (.int .i64 33)).run Tryd.prog w = .ok (.slice (some ⟨w.heap.size, 0, none⟩) 33 33) (w.alloc (zerosObj 33)) := make_zeros 33 (by omega) w
def pz : List Int := List.replicate 33 0
theorem pz_byt : Byt pz := fun x hx => by
  have := List.eq_of_mem_replicate hx
  omega
theorem zeros_blk (w : World) : Blk8 (w.alloc (zerosObj 33)) w.heap.size pz := by
  have h := heap_alloc_new w (zerosObj 33)
  rw [show zerosObj 33 = .cells (cellsOf8 pz).toArray 5 from by kernel_rfl] at h ⊢
  exact h
theorem rowF_new {F : Nat → Prop} {w' : World} {T : TypeId} {g n : Nat} {vs : List Value} (h : Blk w' g T vs) (hn : vs.length = n) (hF : F g) : RowF F w' (.slice (some ⟨g, 0, none⟩) n n) vs :=
  ⟨some ⟨g, 0, none⟩, n, by rw [hn], by omega, fun _ => ⟨g, 0, rfl, lt_of_block h, fun i hi => by rw [Nat.zero_add]; exact h.cell i hi⟩, (InF.one hF).n, fun e => by cases e⟩
def aw1 : DevS := (DevS.new 2 3).app 1 pz
def aw2 : DevS := aw1.app 1 pz
def aw3 : DevS := aw2.flush
def aw4 : DevS := aw3.app 1 pz
def aw5 : DevS := aw4.app 1 pz
def aw6 : DevS := aw5.crash [0, 0] [true, true]
def aw7 : DevS := aw6.reset 1
/-- The device while awake runs; the page lies outside of it. -/
structure Aw (Z : ZOps) (w0 : World) (pb : Nat) (F : Nat → Prop) (w : World) (db : Nat) (S : DevS) : Prop where
  d : Z.D F w db S
  np : ¬ F pb
  p : Blk8 w pb pz
  old : Below w0.heap.size w0 w
  lo : ∀ k, F k → w0.heap.size ≤ k
theorem Aw.done {Z : ZOps} {w0 w w' : World} {pb db : Nat} {F : Nat → Prop} {S S' : DevS} (h : Aw Z w0 pb F w db S) (hd : Z.D (grow F w w') w' db S') (hk : Kept F w w') : Aw Z w0 pb (grow F w w') w' db S' := by
  have hp := lt_of_block h.p
  refine ⟨hd, fun e => ?_, hk.blk h.p h.np, h.old.trans (hk.below h.old.size h.lo), fun k e => ?_⟩
  · rcases e with e | e
    · exact h.np e
    · omega
  · rcases e with e | e
    · exact h.lo k e
    · exact Nat.le_trans h.old.size e.1
theorem Aw.up {Z : ZOps} {w0 w w' : World} {pb db : Nat} {F : Nat → Prop} {S : DevS} (h : Aw Z w0 pb F w db S) (hb : Below w.heap.size w w') : Aw Z w0 pb F w' db S :=
  ⟨Z.up h.d hb, h.np, h.p.up hb (lt_of_block h.p), below_on h.old hb, h.lo⟩
theorem Aw.page {Z : ZOps} {w0 w : World} {pb db : Nat} {F : Nat → Prop} {S : DevS} (h : Aw Z w0 pb F w db S) : BytF (fun k => ¬ F k) w (.slice (some ⟨pb, 0, none⟩) 33 33) pz :=
  ⟨_, _, rfl, by decide, by simpa using h.p.rd 0, (InF.one h.np).n, fun e => by cases e⟩
set_option maxHeartbeats 2000000 in
set_option maxRecDepth 100000 in
theorem zawake_true (Z : ZOps) {w : World} (hg : Gl w) : Calls Tryd.prog 9 #[] w (BoolB true w) := by
  have HG := Lib.hid hg
  clear hg
  go_enter Tryd.func9, Tryd.ntmps9
  go_wp2_with fail
  refine (Z.new 2 3).mono ?_
  rw [show newD 2 3 = some (DevS.new 2 3) from rfl]
  rintro r w1 ⟨db, rfl, hd, hb⟩
  have H1 : Hid (Aw Z w w1.heap.size (fun k => w.heap.size ≤ k ∧ k < w1.heap.size) (w1.alloc (zerosObj 33)) db (DevS.new 2 3)) := Lib.hid ⟨Z.up hd (Below.alloc (Below.refl _ _) (Nat.le_refl _) _), fun e => by omega, zeros_blk w1, hb.alloc hb.size _, fun k e => e.1⟩
  have hmk := make33 w1
  clear hd hb
  go_wp2_with fail
  refine (Z.append 1 _ pz H1.out.d (by decide) H1.out.page pz_byt (by decide)).mono ?_
  rw [show (DevS.new 2 3).app 1 pz = aw1 from rfl]
  rintro r w2 ⟨rfl, hd, hk⟩
  have H2 := Lib.hid (H1.out.done hd hk)
  clear hd hk H1 hmk
  go_wp2_with fail
  refine (Z.append 1 _ pz H2.out.d (by decide) H2.out.page pz_byt (by decide)).mono ?_
  rw [show aw1.app 1 pz = aw2 from rfl, show aw1.appN 1 pz = 1 from by kernel_rfl, show errV (aw1.mayE (aw1.appE 1 pz)) = .nilIface from by kernel_rfl]
  rintro r w3 ⟨rfl, hd, hk⟩
  have H3 := Lib.hid (H2.out.done hd hk)
  clear hd hk H2
  go_wp2_with fail
  refine (Z.flush H3.out.d (by decide)).mono ?_
  rw [show aw2.flush = aw3 from rfl, show errV (aw2.mayE 0) = .nilIface from by kernel_rfl]
  rintro r w4 ⟨rfl, hd, hk⟩
  have H4 := Lib.hid (H3.out.done hd hk)
  clear hd hk H3
  go_wp2_with fail
  refine (Z.append 1 _ pz H4.out.d (by decide) H4.out.page pz_byt (by decide)).mono ?_
  rw [show aw3.app 1 pz = aw4 from rfl]
  rintro r w5 ⟨rfl, hd, hk⟩
  have H5 := Lib.hid (H4.out.done hd hk)
  clear hd hk H4
  go_wp2_with fail
  refine (Z.append 1 _ pz H5.out.d (by decide) H5.out.page pz_byt (by decide)).mono ?_
  rw [show aw4.app 1 pz = aw5 from rfl, show aw4.appN 1 pz = 0 from by kernel_rfl, show aw4.mayE (aw4.appE 1 pz) = 5 from by kernel_rfl]
  rintro r w6 ⟨rfl, hd, hk⟩
  have H6 := Lib.hid (H5.out.done hd hk)
  clear hd hk H5
  obtain ⟨e5, he5⟩ : ∃ e, errV 5 = e := ⟨_, rfl⟩
  have HE5 := Lib.hid he5
  rw [he5]
  clear he5
  go_wp2_with fail
  refine (Z.read 1 2 H6.out.d).mono ?_
  rw [show aw5.readE 1 2 = 0 from by kernel_rfl]
  rintro r w7 ⟨v7, rfl, _, hb⟩
  have H7 := Lib.hid (H6.out.up hb)
  rw [show errV 0 = .nilIface from rfl]
  clear hb H6
  go_wp2_with fail
  refine (Z.state 1 H7.out.d).mono ?_
  rw [show aw5.state 1 = 2 from by kernel_rfl]
  rintro r w8 ⟨rfl, hb⟩
  have H8 := Lib.hid (H7.out.up hb)
  clear hb H7
  go_wp2_with fail
  have HK : Hid (RowF (fun k => ¬ grow (grow (grow (grow (grow (fun k => w.heap.size ≤ k ∧ k < w1.heap.size) (w1.alloc (zerosObj 33)) w2) w2 w3) w3 w4) w4 w5) w5 w6 k) ((w8.alloc (.cells #[.int .i64 0, .int .i64 0] 3)).alloc (.cells #[.bool true, .bool true] 4)) (.slice (some ⟨w8.heap.size, 0, none⟩) 2 2) (kCells [0, 0])) := Lib.hid (rowF_new (T := 3) (Blk.up (heap_alloc_new w8 _) (Below.alloc (Below.refl _ _) (Nat.le_refl _) _) (by rw [World.size_alloc]; omega)) rfl (fun e => by have := Z.lt H8.out.d _ e; omega))
  have HT : Hid (RowF (fun k => ¬ grow (grow (grow (grow (grow (fun k => w.heap.size ≤ k ∧ k < w1.heap.size) (w1.alloc (zerosObj 33)) w2) w2 w3) w3 w4) w4 w5) w5 w6 k) ((w8.alloc (.cells #[.int .i64 0, .int .i64 0] 3)).alloc (.cells #[.bool true, .bool true] 4)) (.slice (some ⟨w8.heap.size + 1, 0, none⟩) 2 2) (tCells [true, true])) := Lib.hid (rowF_new (T := 4) (by have := heap_alloc_new (w8.alloc (.cells #[.int .i64 0, .int .i64 0] 3)) (.cells #[.bool true, .bool true] 4); rw [World.size_alloc] at this; exact this) rfl (fun e => by have := Z.lt H8.out.d _ e; omega))
  have H9 := Lib.hid (H8.out.up (w' := (w8.alloc (.cells #[.int .i64 0, .int .i64 0] 3)).alloc (.cells #[.bool true, .bool true] 4)) ((Below.alloc (Below.refl _ _) (Nat.le_refl _) _).alloc (by rw [World.size_alloc]; omega) _))
  refine (Z.crash _ _ [0, 0] [true, true] H9.out.d HK.out HT.out (by decide) (by decide) (fun n hn => by simp at hn; subst hn; unfold Wd; omega)).mono ?_
  rw [show aw5.crash [0, 0] [true, true] = aw6 from rfl]
  rintro r wa ⟨rfl, hd, hk⟩
  have HA := Lib.hid (H9.out.done hd hk)
  clear hd hk H8 H9 HK HT
  go_wp2_with fail
  refine (Z.read 1 2 HA.out.d).mono ?_
  rw [show aw6.readE 1 2 = 6 from by kernel_rfl]
  rintro r wb ⟨vb, rfl, _, hb⟩
  have HB := Lib.hid (HA.out.up hb)
  obtain ⟨e6, he6⟩ : ∃ e, errV 6 = e := ⟨_, rfl⟩
  have HE6 := Lib.hid he6
  rw [he6]
  clear hb HA he6
  go_wp2_with fail
  refine (Z.read 0 0 HB.out.d).mono ?_
  rw [show aw6.readE 0 0 = 8 from by kernel_rfl]
  rintro r wc ⟨vc, rfl, _, hb⟩
  have HC := Lib.hid (HB.out.up hb)
  obtain ⟨e8, he8⟩ : ∃ e, errV 8 = e := ⟨_, rfl⟩
  have HE8 := Lib.hid he8
  rw [he8]
  clear hb HB he8
  go_wp2_with fail
  rw [← HE5.out]
  refine (code_is 5 (HG.out.below HC.out.old)).mono ?_
  rintro r wd ⟨rfl, hb⟩
  have HD := Lib.hid (HC.out.up hb)
  clear hb HC
  go_wp2_with fail
  refine (Z.point 1 HD.out.d).mono ?_
  rw [show (aw6.point 1 : Int) = 3 from by kernel_rfl]
  rintro r we ⟨rfl, hb⟩
  have HE := Lib.hid (HD.out.up hb)
  clear hb HD
  go_wp2_with fail
  refine (Z.sure 1 HE.out.d).mono ?_
  rw [show (aw6.sureOf 1 : Int) = 3 from by kernel_rfl]
  rintro r wf ⟨rfl, hb⟩
  have HF := Lib.hid (HE.out.up hb)
  clear hb HE
  go_wp2_with fail
  rw [← HE6.out]
  refine (code_is 6 (HG.out.below HF.out.old)).mono ?_
  rintro r wg ⟨rfl, hb⟩
  have HH := Lib.hid (HF.out.up hb)
  clear hb HF
  go_wp2_with fail
  rw [← HE8.out]
  refine (code_is 8 (HG.out.below HH.out.old)).mono ?_
  rintro r wh ⟨rfl, hb⟩
  have HI := Lib.hid (HH.out.up hb)
  clear hb HH
  go_wp2_with fail
  refine (Z.ops HI.out.d).mono ?_
  rw [show (aw6.done : Int) = 4 from by kernel_rfl]
  rintro r wi ⟨rfl, hb⟩
  have HJ := Lib.hid (HI.out.up hb)
  clear hb HI
  go_wp2_with fail
  refine (Z.zones HJ.out.d).mono ?_
  rw [show (aw6.zones.length : Int) = 2 from by kernel_rfl]
  rintro r wj ⟨rfl, hb⟩
  have HL := Lib.hid (HJ.out.up hb)
  clear hb HJ
  go_wp2_with fail
  refine (Z.pages HL.out.d).mono ?_
  rw [show (aw6.P : Int) = 3 from by kernel_rfl]
  rintro r wk ⟨rfl, hb⟩
  have HM := Lib.hid (HL.out.up hb)
  clear hb HL
  go_wp2_with fail
  refine (Z.down HM.out.d).mono ?_
  rw [show aw6.gone = false from by kernel_rfl]
  rintro r wl ⟨rfl, hb⟩
  have HN := Lib.hid (HM.out.up hb)
  clear hb HM
  go_wp2_with fail
  refine (Z.reset 1 HN.out.d (by decide)).mono ?_
  rw [show aw6.reset 1 = aw7 from rfl, show errV (aw6.mayE (aw6.resetE 1)) = .nilIface from by kernel_rfl]
  rintro r wm ⟨rfl, hd, hk⟩
  have HP := Lib.hid (HN.out.done hd hk)
  clear hd hk HN
  go_wp2_with fail
  refine (Z.state 1 HP.out.d).mono ?_
  rw [show aw7.state 1 = 0 from by kernel_rfl]
  rintro r wn ⟨rfl, hb⟩
  have HQ := Lib.hid (HP.out.up hb)
  clear hb HP
  go_wp2_with fail
  go_ret
  exact ⟨rfl, HQ.out.old⟩
end Go.Proofs.YtljpkngbhdplbaaDoor

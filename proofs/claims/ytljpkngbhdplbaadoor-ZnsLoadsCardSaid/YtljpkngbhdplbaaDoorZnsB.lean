/-
  The document's device: may; cells that are stored.
-/
import Derived.Test.YtljpkngbhdplbaaDoorZnsA
namespace Go.Proofs.YtljpkngbhdplbaaDoor
open Go.RowKit

def devCells (zb cap : Nat) (S : DevS) : List Value := [.slice (some ⟨zb, 0, none⟩) S.zones.length cap, .int .i64 (S.P : Int), .int .i64 S.left, .int .i64 (S.done : Int), .bool S.gone]
theorem kept_put (w : World) (g o : Nat) (v : Value) : Kept (fun k => k = g) w (w.setCell ⟨g, o, none⟩ v) := (Kept.refl (fun k => k = g) w).put (.inl rfl) o v
theorem RD.setDev {F : Nat → Prop} {w : World} {db zb cap : Nat} {zs : List Value} {S S' : DevS} (h : RD F w db zb cap zs S) (k : Nat) (v : Value) (hc : (devCells zb cap S).set k v = devCells zb cap S') (hz : S'.zones = S.zones) (hwf : S'.WF) : RD F (w.setCell ⟨db, k, none⟩ v) db zb cap zs S' := by
  have hk := kept_put w db k v
  refine ⟨?_, hk.blk h.blk (fun e => h.ne e.symm), ?_, by rw [hz]; exact h.room, h.len, h.fd, h.fz, h.ne, fun i hi => Nat.lt_of_lt_of_le (h.lt i hi) hk.size, hwf⟩
  · have := Blk.put h.dev k v
    rwa [show ([.slice (some ⟨zb, 0, none⟩) S.zones.length cap, .int .i64 (S.P : Int), .int .i64 S.left, .int .i64 (S.done : Int), .bool S.gone] : List Value).set k v = devCells zb cap S' from hc] at this
  · intro i hi
    have hi' : i < S.zones.length := by rw [← hz]; exact hi
    obtain ⟨x, a, b, c, d⟩ := h.row i hi'
    have e : S'.zones[i] = S.zones[i] := by simp only [hz]
    rw [e]
    exact ⟨x, a, b, c, d.keep hk (fun j hj => hj.2.1)⟩
theorem zrow_len {zs : List Value} {n cap i : Nat} (h1 : n ≤ cap) (h2 : zs.length = 3 * cap) (h3 : i < n) : i * 3 + 2 < zs.length := by omega
/-- One zone's cells are stored anew. -/
theorem RD.setZone {F : Nat → Prop} {w w' : World} {db zb cap i : Nat} {zs zs' : List Value} {S : DevS} {z : ZoneS} {v : Value} (h : RD F w db zb cap zs S) (_hi : i < S.zones.length) (hz : Blk w' zb 79 zs') (hk : Kept (fun k => k = zb) w w') (hl : zs'.length = zs.length)
    (hs : ∀ k, k ≠ i * 3 → k ≠ i * 3 + 1 → k ≠ i * 3 + 2 → zs'[k]? = zs[k]?) (h0 : zs'[i * 3]? = some v) (h1 : zs'[i * 3 + 1]? = some (.int .i64 (z.sure : Int))) (h2 : zs'[i * 3 + 2]? = some (.bool z.fin)) (hr : RowsF (fun k => F k ∧ k ≠ db ∧ k ≠ zb) w' v z.pages) (hwf : (S.put (i : Int) z).WF) :
    RD F w' db zb cap zs' (S.put (i : Int) z) := by
  refine ⟨?_, hz, ?_, by simp only [DevS.put, List.length_set]; exact h.room, by rw [hl]; exact h.len, h.fd, h.fz, h.ne, fun j hj => Nat.lt_of_lt_of_le (h.lt j hj) hk.size, hwf⟩
  · have := hk.blk h.dev h.ne
    simpa only [DevS.put, List.length_set] using this
  · intro j hj
    simp only [DevS.put, List.length_set, Int.toNat_natCast] at hj ⊢
    by_cases e : i = j
    · subst e
      rw [List.getElem_set_self]
      exact ⟨v, h0, h1, h2, hr⟩
    · rw [List.getElem_set_ne e]
      obtain ⟨x, a, b, c, d⟩ := h.row j hj
      exact ⟨x, by rw [hs _ (by omega) (by omega) (by omega)]; exact a, by rw [hs _ (by omega) (by omega) (by omega)]; exact b, by rw [hs _ (by omega) (by omega) (by omega)]; exact c, d.keep hk (fun k hk2 => hk2.2.2)⟩

def MayIs (F : Nat → Prop) (db zb cap : Nat) (zs : List Value) (S : DevS) (e : Int) (w : World) (r : Ending) (w' : World) : Prop := r = .returned (.int .i64 (S.mayE e)) ∧ RD F w' db zb cap zs (S.mayS e) ∧ Kept F w w'
theorem rmay_at {F : Nat → Prop} {w : World} {db zb cap : Nat} {zs : List Value} {S : DevS} (e : Int) (h : RD F w db zb cap zs S) (hd : S.done ≤ 1000000) : Calls Tryd.prog 65 #[.pointer (some ⟨db, 0, none⟩), .int .i64 e] w (MayIs F db zb cap zs S e w) := by
  have HH := Lib.hid h
  have c2 := h.c2
  have c3 := h.c3
  have c4 := h.c4
  have f2 := h.dev.free 2
  have f3 := h.dev.free 3
  have f4 := h.dev.free 4
  have HL := Lib.hid (DevS.mayS_wf h.wf e)
  by_cases hg : S.gone = true
  · have HE : Hid (S.mayE e = 7 ∧ S.mayS e = S) := Lib.hid (by unfold DevS.mayE DevS.mayS; rw [if_pos hg, if_pos hg]; exact ⟨rfl, rfl⟩)
    rw [hg] at c4
    clear h hg
    go_enter Tryd.func65, Tryd.ntmps65
    go_wp2_with fail
    go_ret
    exact ⟨ret_int (by rw [HE.out.1]), by rw [HE.out.2]; exact HH.out, Kept.refl _ _⟩
  · have hg2 : S.gone = false := by simpa using hg
    rw [hg2] at c4
    by_cases he : e = 0
    · have qe : (e == 0) = true := by simp [he]
      by_cases hl : S.left = 0
      · have HE : Hid (S.mayE e = 7 ∧ S.mayS e = { S with gone := true }) := Lib.hid ⟨by simp [DevS.mayE, hg2, he, hl], by simp [DevS.mayS, hg2, he, hl]⟩
        rw [hl] at c2
        have HR : Hid (RD F (w.setCell ⟨db, 4, none⟩ (.bool true)) db zb cap zs (S.mayS e)) := Lib.hid (by
          rw [HE.out.2]
          exact h.setDev 4 _ rfl rfl (by rw [← HE.out.2]; exact HL.out))
        have HK := Lib.hid ((Kept.refl F w).put (.inl h.fd) 4 (.bool true))
        subst he
        clear h hg hg2 hl HL
        go_enter Tryd.func65, Tryd.ntmps65
        go_wp2_with fail
        go_ret
        exact ⟨ret_int (by rw [HE.out.1]), HR.out, HK.out⟩
      · have ql : (S.left == 0) = false := by simpa using hl
        by_cases hp : 0 < S.left
        · have HE : Hid (S.mayE e = 0 ∧ S.mayS e = { S with left := S.left - 1, done := S.done + 1 }) := Lib.hid ⟨by simp [DevS.mayE, hg2, he, hl], by simp [DevS.mayS, hg2, he, hl, hp]⟩
          have hl1 := h.wf.l1
          have hw1 : ({ S with left := S.left - 1 } : DevS).WF := ⟨h.wf.z0, h.wf.z1, h.wf.p0, h.wf.p1, by simp only; omega, by simp only; omega, h.wf.pages⟩
          have H1 := h.setDev (S' := { S with left := S.left - 1 }) 2 (.int .i64 (S.left - 1)) rfl rfl hw1
          have HR : Hid (RD F ((w.setCell ⟨db, 2, none⟩ (.int .i64 (S.left - 1))).setCell ⟨db, 3, none⟩ (.int .i64 ((S.done : Int) + 1))) db zb cap zs (S.mayS e)) := Lib.hid (by
            rw [HE.out.2]
            refine H1.setDev 3 _ ?_ rfl (by rw [← HE.out.2]; exact HL.out)
            simp [devCells])
          have HK := Lib.hid (((Kept.refl F w).put (.inl h.fd) 2 (.int .i64 (S.left - 1))).put (.inl h.fd) 3 (.int .i64 ((S.done : Int) + 1)))
          generalize S.left = sl at *
          generalize S.done = sd at *
          subst he
          clear h hg hg2 H1 hw1 HL
          go_enter Tryd.func65, Tryd.ntmps65
          go_wp2_with fail
          go_ret
          exact ⟨ret_int (by rw [HE.out.1]), HR.out, HK.out⟩
        · have HE : Hid (S.mayE e = 0 ∧ S.mayS e = { S with done := S.done + 1 }) := Lib.hid ⟨by simp [DevS.mayE, hg2, he, hl], by simp [DevS.mayS, hg2, he, hl, hp]⟩
          have HR : Hid (RD F (w.setCell ⟨db, 3, none⟩ (.int .i64 ((S.done : Int) + 1))) db zb cap zs (S.mayS e)) := Lib.hid (by
            rw [HE.out.2]
            refine h.setDev 3 _ ?_ rfl (by rw [← HE.out.2]; exact HL.out)
            simp [devCells])
          have HK := Lib.hid ((Kept.refl F w).put (.inl h.fd) 3 (.int .i64 ((S.done : Int) + 1)))
          generalize S.left = sl at *
          generalize S.done = sd at *
          have hp2 : sl ≤ 0 := by omega
          subst he
          clear h hg hg2 HL
          go_enter Tryd.func65, Tryd.ntmps65
          go_wp2_with fail
          go_ret
          exact ⟨ret_int (by rw [HE.out.1]), HR.out, HK.out⟩
    · have qe : (e == 0) = false := by simpa using he
      have HE : Hid (S.mayE e = e ∧ S.mayS e = S) := Lib.hid ⟨by simp [DevS.mayE, hg2, he], by simp [DevS.mayS, hg2, he]⟩
      clear h hg hg2
      go_enter Tryd.func65, Tryd.ntmps65
      go_wp2_with fail
      go_ret
      exact ⟨ret_int (by rw [HE.out.1]), by rw [HE.out.2]; exact HH.out, Kept.refl _ _⟩
end Go.Proofs.YtljpkngbhdplbaaDoor

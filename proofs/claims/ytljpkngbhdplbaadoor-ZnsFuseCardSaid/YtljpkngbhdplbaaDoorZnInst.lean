/-
  The landed device as the bundle of its contracts.
-/
import Derived.Test.YtljpkngbhdplbaaDoorZlM
namespace Go.Proofs.YtljpkngbhdplbaaDoor
open Go.RowKit

noncomputable def zOps : ZOps where
  D := LDev
  keep := fun ⟨zb, cap, f, col, zs, h⟩ hk hn => ⟨zb, cap, f, col, zs, h.keep hk hn⟩
  lt := fun ⟨_, _, _, _, _, h⟩ => h.lt
  wf := fun ⟨_, _, _, _, _, h⟩ => h.wf
  mono := fun ⟨zb, cap, f, col, zs, h⟩ hfg hlt => ⟨zb, cap, f, col, zs, h.mono hfg hlt⟩
  new := fun n p => lnew_at n p
  load := fun p v l h hby _ hz => lload_dev p v l h hby (fun z hm => (hz z hm).1)
  zones := fun ⟨_, _, _, _, _, h⟩ => lzones_at h
  pages := fun ⟨_, _, _, _, _, h⟩ => lpages_at h
  ops := fun ⟨_, _, _, _, _, h⟩ => lops_at h
  down := fun ⟨_, _, _, _, _, h⟩ => ldown_at h
  state := fun n ⟨_, _, _, _, _, h⟩ => lstate_at n h
  point := fun n ⟨_, _, _, _, _, h⟩ => lpoint_at n h
  sure := fun n ⟨_, _, _, _, _, h⟩ => lsure_at n h
  append := fun n _ b ⟨_, _, _, _, _, h⟩ hd ⟨A, c, e, hc, hr, hin, h0⟩ hby hl => e ▸ lappend_at n A b.length c b h hd rfl hr hin h0 hby hl
  read := fun n p ⟨_, _, _, _, _, h⟩ => lread_at n p h
  reset := fun n ⟨_, _, _, _, _, h⟩ hd => lreset_at n h hd
  finish := fun n ⟨_, _, _, _, _, h⟩ hd => lfinish_at n h hd
  flush := fun ⟨_, _, _, _, _, h⟩ hd => lflush_at h hd
  fuse := fun n ⟨_, _, _, _, _, h⟩ hn => lfuse_at n h hn
  crash := fun vk vt keep tear ⟨_, _, _, _, _, h⟩ ⟨KA, kc, ek, hkc, hkr, hkf, hk0⟩ ⟨TA, tc, et, htc, htr, htf, ht0⟩ _ _ hwd => by
    rw [kCells_len] at ek
    rw [tCells_len] at et
    subst ek et
    exact lcrash_at keep tear KA TA kc tc h hkr hkf htr htf hwd
end Go.Proofs.YtljpkngbhdplbaaDoor

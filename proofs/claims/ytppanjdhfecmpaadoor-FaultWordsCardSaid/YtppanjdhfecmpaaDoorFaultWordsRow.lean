/-
  PROVED: for every code e, every slice of steps l and every step more, platelayerlaw01.FaultWords(e, l, more) returns true, leaves its arguments as they were, and ends without a panic.
  Conditions: those of the given card alone (the listed variables errors.errorType, internal/strconv.uint64pow10 and math/bits' two tables are as the program's text lays them).
-/
import Derived.Test.YtppanjdhfecmpaaDoorLawLaid
import Derived.Test.YtppanjdhfecmpaaDoorFaultT
import Derived.Test.YtppanjdhfecmpaaDoorLawLaid4
import Derived.Test.YtppanjdhfecmpaaDoorLawRange
import Derived.Test.YtppanjdhfecmpaaDoorCards
import Derived.Test.YtppanjdhfecmpaaDoorTie
import Derived.SevenTiedAt
import Derived.Lib.SmallJoins
namespace Go.Proofs.YtppanjdhfecmpaaDoor
open Go.ChangeShapes Go.WideShapes Go.RowKit Go.Joins

set_option maxRecDepth 100000 in
theorem words_lifted (os : Os) (started : os.Started) (H : Type) (enc : TypeId × Value → H) :
    ReturnsInHanded {} Tryd.checked os 6 .any (fun w args => (Rows.faultWordsSpec.pre enc Tryd.prog Tryd.f6 [] false w args ∧ laidMetH Tryd.prog laid4 w) ∧ sizedMet enc Tryd.prog Tryd.f6 (OpenSpec.ofChange Rows.faultWordsSpec) false w args)
      (Rows.faultWordsSpec.post enc Tryd.prog Tryd.f6 false true false false) := by
  refine returnsInHanded_of_change_and (C := Tryd.checked) (X := fun w _ => laidMetH Tryd.prog laid4 w) (fun _ _ _ hh h => h.of_heap hh) ownK started (by kernel_rfl) Tryd.func6
    (ChangeSpec.witness_shaped (enc := enc) (C := Tryd.checked) (os := os) (X := fun w _ => laidMetH Tryd.prog laid4 w) false (World.doorLaid Tryd.prog 400 os) #[.int .i64 0, .slice none 0 0, .agg #[.string ByteArray.empty, .int .i64 0]] 8 rfl (World.shaped_of_RefB (by kernel_rfl) (by kernel_rfl)) (by kernel_rfl) (by kernel_rfl) (by kernel_rfl) (door_met4 os _)) ?_
  intro W base args ds gs before hval0 hW _ _ hL _
  have hval : ∀ (j : Nat) t v, Tryd.f6.params[j]? = some t → args[j]? = some v → Value.okWide Tryd.prog W .any base t v := hval0
  have hW' := hW
  obtain ⟨p, q, hA0, hV0, rfl, hfz, hnd⟩ := hW
  have hA : DataW.TrodAll enc Tryd.prog W 0 (fun _ => true) true Tryd.f6.params.toList args.toList ds p := hA0
  have hV : DataW.TrodVars enc Tryd.prog W (fun _ => true) [] gs q := hV0
  rw [Tryd.params6] at hA hval
  obtain ⟨v0, v1, v2, d0, d1, d2, p0, p1, p2, rfl, rfl, rfl, h0, h1, h2⟩ := trodAll_three hA
  obtain ⟨e, rfl, rfl, rfl, hwe⟩ := open_int Tryd.underlying22 (hval 0 22 v0 rfl rfl) h0
  have hrange := steps_range Tryd.underlying23 Tryd.underlying44 (by kernel_rfl) rfl rfl (by kernel_rfl) (by kernel_rfl) Tryd.underlying3 (hval 1 23 v1 rfl rfl) h1
  obtain ⟨A, l, c, rfl, hc, hsteps⟩ := open_steps Tryd.underlying23 Tryd.underlying44 (by kernel_rfl) rfl rfl (by kernel_rfl) (by kernel_rfl) Tryd.underlying9 Tryd.underlying3 (hval 1 23 v1 rfl rfl) h1
  obtain ⟨c0, c1, y0, y1, m, rfl, rfl, rfl, hy0, hy1⟩ := open_agg2 Tryd.underlying44 (by kernel_rfl) (by kernel_rfl) (hval 2 44 v2 rfl rfl) h2
  obtain ⟨op, eo, _⟩ := DataW.trod_string Tryd.underlying9 hy0
  obtain ⟨n, en, _, hwn⟩ := DataW.trod_int Tryd.underlying3 hy1
  simp only [List.cons.injEq, and_true] at eo en
  subst eo en
  obtain ⟨hg, htab⟩ := gl_of_laid4 hL
  have hrl := hrange A l c rfl hsteps
  obtain ⟨rfl, rfl⟩ := trodVars_none hV
  have fin : ∀ W', Below W.heap.size W W' → Rows.faultWordsSpec.post enc Tryd.prog Tryd.f6 false true false false W #[.int .i64 e, .slice A l.length c, .agg #[.string op, .int .i64 n]] (.bool true) W' := fun W' hb =>
    law_post laidOutP (by intro t ht; have hp : Tryd.f6.params.toList = [22, 23, 44] := by rw [Tryd.params6]
                          rw [hp] at ht
                          have hall : ([22, 23, 44].all fun t => Tryd.prog.readableRec t && decide (t < Tryd.prog.types.size)) = true := by kernel_rfl
                          simpa using List.all_eq_true.1 hall t ht) rfl (by kernel_rfl) Tryd.underlying4 hW' (by simp [Rows.faultWordsSpec]) hb
  by_cases hn : 100 < l.length
  · exact (words_long hg e A l.length c op n hn).mono fun r W' ⟨hr, hb⟩ => ⟨_, hr, fin W' hb⟩
  · by_cases he : e = 0
    · subst he
      exact (words_ok hg A l.length c op n hn).mono fun r W' ⟨hr, hb⟩ => ⟨_, hr, fin W' hb⟩
    · by_cases hop : 100 < op.size
      · exact (words_big hg e (by simpa using he) A l.length c op n hn hop).mono fun r W' ⟨hr, hb⟩ => ⟨_, hr, fin W' hb⟩
      · exact (words_true hg htab (tab_lt htab) e (by simpa using he) (range_of_wf hwe) A l c op n (by omega) (by omega) (range_of_wf hwn) hrl hsteps).mono fun r W' ⟨hr, hb⟩ => ⟨_, hr, fin W' hb⟩

theorem words_holds : Rows.FaultWordsSaid :=
  OpenClaim.holds_of_wide 6 Tryd.f6 rfl rfl rfl rfl rfl rfl rfl ⟨rfl, rfl, rfl, rfl, rfl⟩ rfl rfl rfl rfl rfl (by kernel_rfl) Tryd.func6 (by kernel_rfl)
    (of_decide_eq_true (by kernel_rfl)) (by unfold Func.isWrapper; first | (rw [if_pos (by decide +kernel)]; kernel_rfl) | (rw [if_neg (by decide +kernel)]; exact ⟨rfl, rfl⟩))
    (fun os started H enc _ => words_lifted os started H enc)

theorem words_card : Rows.FaultWordsCardSaid :=
  Claim7.holds_tied_plain_at .later [] [.data, .data, .data, .handle] true Rows.faultWordsCard.stood.harness true
    words_holds (fun _ h => by cases h) (by kernel_rfl) (fun _ h => by cases h) faultWords_row_tie rfl ⟨rfl, rfl⟩ (by kernel_rfl) rfl
    (fun f fn hf hfn => by
      obtain rfl : f = 6 := Option.some.inj ((show Tryd.prog.funcNamed "platelayer/platelayerlaw01.FaultWords" = some 6 by kernel_rfl).symm.trans hf) |>.symm
      obtain rfl : fn = Tryd.f6 := (Option.some.inj (Tryd.func6.symm.trans hfn)).symm
      exact ⟨by kernel_rfl, fun j t ht => by
        rw [Tryd.params6] at ht
        have hm : t ∈ [22, 23, 44] := by simpa using Array.mem_of_getElem? ht
        have hall : ([22, 23, 44].all fun u => !Tryd.prog.wantsStandIn u) = true := by kernel_rfl
        exact (show Tryd.prog.wantsStandIn t = false by simpa using List.all_eq_true.1 hall t hm)⟩)
    (by kernel_rfl)
#print axioms words_card
end Go.Proofs.YtppanjdhfecmpaaDoor

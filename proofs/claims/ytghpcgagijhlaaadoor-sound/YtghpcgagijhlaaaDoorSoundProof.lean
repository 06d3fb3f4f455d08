/- P5, P4, the seed's own promise for proofs: of two proofs that are taken under one root and say different things two texts come out that are not the same and have one digest (thicketkeep.Sound is true for every input, and leaves its arguments as they were). The two tables of roots start as the program's own text lays them (the card ties them). -/
import Derived.Test.YtghpcgagijhlaaaDoorSoundLaw
import Derived.Test.YtghpcgagijhlaaaDoorOpenBuilt
import Derived.Test.YtghpcgagijhlaaaDoorFive
import Derived.Test.YtghpcgagijhlaaaDoorLaid
import Derived.Test.YtghpcgagijhlaaaDoorCards
import Derived.Test.YtghpcgagijhlaaaDoorTie
import Derived.SevenTiedAt
import Derived.ShutString
import Derived.SizedLaws
namespace Go.Proofs.YtghpcgagijhlaaaDoor
open Go.ChangeShapes Go.WideShapes Go.ChangeAt Go.RowKit
open Go.ChangeMaps (open_string shut_string)


set_option maxRecDepth 100000 in
theorem sound_lifted (os : Os) (started : os.Started) (H : Type) (enc : TypeId × Value → H) :
    ReturnsInHanded {} Tryd.checked os 7 .any (fun w args => (Rows.soundSpec.pre enc Tryd.prog Tryd.f7 [] false w args ∧ laidMetH Tryd.prog laid2 w) ∧ sizedMet enc Tryd.prog Tryd.f7 (OpenSpec.ofChange Rows.soundSpec) false w args)
      (Rows.soundSpec.post enc Tryd.prog Tryd.f7 false true false false) := by
  refine returnsInHanded_of_change_and (C := Tryd.checked) (X := fun w _ => laidMetH Tryd.prog laid2 w) (fun _ _ _ hh h => h.of_heap hh) own started (by kernel_rfl) Tryd.func7
    (ChangeSpec.witness_shaped (enc := enc) (C := Tryd.checked) (os := os) (X := fun w _ => laidMetH Tryd.prog laid2 w) false (World.doorLaid Tryd.prog 400 os) #[.agg #[.int .i64 0, .slice none 0 0, .int .i64 0, .int .i64 0], .agg #[.int .i64 0, .slice none 0 0, .int .i64 0, .int .i64 0], .int .i64 0, .int .i64 0, .string ByteArray.empty] 8 rfl (World.shaped_of_RefB (by kernel_rfl) (by kernel_rfl)) (by kernel_rfl) (by kernel_rfl) (by kernel_rfl) (door_met os _)) ?_
  intro W base args ds gs before hval0 hW _ hsz0 hL _
  have hval : ∀ (j : Nat) t v, Tryd.f7.params[j]? = some t → args[j]? = some v → Value.okWide Tryd.prog W .any base t v := hval0
  have hsz : (DataW.weightsEach Tryd.prog (Tryd.f7.params.toList ++ Rows.soundSpec.plain.varTypes Tryd.prog) (ds ++ gs)).all (· ≤ reachBytes) = true := hsz0
  have hW' := hW
  obtain ⟨p, q, hA0, hV, rfl, hfz, hnd⟩ := hW
  have hA : DataW.TrodAll enc Tryd.prog W 0 (fun _ => true) true Tryd.f7.params.toList args.toList ds p := hA0
  rw [Tryd.params7] at hA hval hsz
  obtain ⟨v0, v1, v2, v3, v4, d0, d1, d2, d3, d4, p0, p1, p2, p3, p4, rfl, rfl, rfl, h0, h1, h2, h3, h4⟩ := trodAll_5 hA
  obtain ⟨rfl, rfl⟩ := trodVars_none hV
  obtain ⟨kd1, val1, oth1, u1, xs1, rfl, x1, x2, x3, raw1, lt1⟩ := open_built (hval 0 33 v0 rfl rfl) h0
  obtain ⟨kd2, val2, oth2, u2, xs2, rfl, y1, y2, y3, raw2, lt2⟩ := open_built (hval 1 33 v1 rfl rfl) h1
  obtain ⟨a2, rfl, rfl, rfl, w2⟩ := open_int Tryd.underlying3 (hval 2 3 v2 rfl rfl) h2
  obtain ⟨a3, rfl, rfl, rfl, w3⟩ := open_int Tryd.underlying3 (hval 3 3 v3 rfl rfl) h3
  obtain ⟨a4, rfl, rfl, rfl, w4⟩ := open_string Tryd.underlying9 (hval 4 9 v4 rfl rfl) h4
  have hm4 : a4.size ≤ 140737488351232 := by
    have := sized_string hsz (j := 4) (bytes := a4.data.toList) rfl rfl
    simp only [reachBytes] at this
    simpa using this
  clear hA0 hval0
  simp only [List.append_nil] at hW'
  refine (Sound_any kd1 val1 oth1 kd2 val2 oth2 a2 a3 u1 u2 xs1 xs2 a4 W x1.1 x1.2 x2.1 x2.2 x3.1 x3.2 y1.1 y1.2 y2.1 y2.2 y3.1 y3.2 (wf64 w2).1 (wf64 w2).2 (wf64 w3).1 (wf64 w3).2 raw1 raw2 hm4 (tabs_of_laid hL)).mono fun e W' ⟨he, bel⟩ => ?_
  subst he
  exact ⟨_, rfl, _, _, _, [], _, [], hW', trodAll_mk1 (shut_bool Tryd.underlying4 _), trodAll_mk_5 (bel.trod (by kernel_rfl) (by kernel_rfl) (of_decide_eq_true (by kernel_rfl)) h0 lt1) (bel.trod (by kernel_rfl) (by kernel_rfl) (of_decide_eq_true (by kernel_rfl)) h1 lt2) (shut_int Tryd.underlying3 w2) (shut_int Tryd.underlying3 w3) (shut_string Tryd.underlying9 w4), rfl, bel.frame _, fun h => by cases h⟩

theorem sound_row : Rows.SoundSaid :=
  OpenClaim.holds_of_wide 7 Tryd.f7 rfl rfl rfl rfl rfl rfl rfl ⟨rfl, rfl, rfl, rfl, rfl⟩ rfl rfl rfl rfl rfl (by kernel_rfl) Tryd.func7 (by kernel_rfl)
    (of_decide_eq_true (by kernel_rfl)) (by unfold Func.isWrapper; first | (rw [if_pos (by decide +kernel)]; kernel_rfl) | (rw [if_neg (by decide +kernel)]; exact ⟨rfl, rfl⟩))
    (fun os started H enc _ => sound_lifted os started H enc)

/-- THE STATEMENT -/
theorem sound_holds : Rows.SoundCardSaid :=
  Claim7.holds_tied_plain_at .later [] [.data, .data] true (true, "67b1423936a8fc1daae9d947d3be70479aa3b1353863f3a8d40a8d9f3258b47f") false
    sound_row (fun _ h => by cases h) (by kernel_rfl) (fun _ h => by cases h) sound_row_tie rfl ⟨rfl, rfl⟩ (by kernel_rfl) rfl
    (fun f fn hf hfn => by
      obtain rfl : f = 7 := Option.some.inj ((show Tryd.prog.funcNamed "thicket/thicketkeep.Sound" = some 7 by kernel_rfl).symm.trans hf) |>.symm
      obtain rfl : fn = Tryd.f7 := (Option.some.inj (Tryd.func7.symm.trans hfn)).symm
      exact ⟨by kernel_rfl, fun j t ht => by
        rw [Tryd.params7] at ht
        have hm : t ∈ [33, 33, 3, 3, 9] := by simpa using Array.mem_of_getElem? ht
        have hall : ([33, 33, 3, 3, 9].all fun u => !Tryd.prog.wantsStandIn u) = true := by kernel_rfl
        exact (show Tryd.prog.wantsStandIn t = false by simpa using List.all_eq_true.1 hall t hm)⟩)
    (by kernel_rfl)
#print axioms sound_holds
end Go.Proofs.YtghpcgagijhlaaaDoor

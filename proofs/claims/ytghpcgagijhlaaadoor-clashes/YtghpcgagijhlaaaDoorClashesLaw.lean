/- P5, the statement Clashes, as a contract: for every root, width, index and two proofs of at most 2^47 - 4096 bytes thicketlaw.Clashes returns true and touches nothing that was in memory; the two tables lie in memory as the program's text lays them. -/
import Derived.Test.YtghpcgagijhlaaaDoorRefClash
import Derived.Test.YtghpcgagijhlaaaDoorProofsLaw
namespace Go.Proofs.YtghpcgagijhlaaaDoor
open Go.RowKit Sha

theorem shown_clash (idx : List UInt8) (h : idx.length = 32) : clashed [110, 52] idx [0, 0, 0] [0, 0, 0] = ([], [], 1) := by
  have hr : (PW.mk 0 [] [] [] []).root ([110, 52] : List UInt8).length idx = [110, 52] := by show dg 2 [0] = _; exact dg_zero2
  have h2 : parse ([110, 52] : List UInt8).length idx [0, 0, 0] = some ⟨0, [], [], [], []⟩ := shown_parse idx
  have he : lookErr [110, 52] idx [0, 0, 0] = 0 := lookErr_ok (by simp [h]) h2 hr
  exact clashed_same he he h2 h2 rfl

set_option maxRecDepth 100000 in
set_option maxHeartbeats 2000000 in
theorem Clashes_any (root : ByteArray) (k : Int) (idx s t : ByteArray) (w : World) (hs : s.size ≤ 140737488351232) (ht : t.size ≤ 140737488351232) (hr : root.size ≤ 140737488351232) (hT : Tabs w) :
    Calls Tryd.prog 6 #[.string root, .int .i64 k, .string idx, .string s, .string t] w fun e w' => e = .returned (.bool true) ∧ Below w.heap.size w w' := by
  have HT : Hid (Tabs w) := hT
  clear hT
  go_enter Tryd.func6, Tryd.ntmps6
  go_wp2_with fail
  refine (looked_any w HT.out).mono ?_
  rintro e w1 ⟨rfl, hb1⟩
  have B1 : Hid (Below w.heap.size w w1) := hb1
  clear hb1
  go_wp2_with fail
  refine (pClash_any ⟨#[110, 52]⟩ zeros32 ⟨#[0, 0, 0]⟩ ⟨#[0, 0, 0]⟩ w1 (by decide) (by decide) (by decide) (HT.out.below B1.out (Nat.le_refl _))).mono ?_
  rintro e w2 ⟨hb2, rfl⟩
  have B2 : Hid (Below w.heap.size w w2) := below_then' B1.out hb2 B1.out.size
  rw [show clashed (⟨#[110, 52]⟩ : ByteArray).data.toList zeros32.data.toList (⟨#[0, 0, 0]⟩ : ByteArray).data.toList (⟨#[0, 0, 0]⟩ : ByteArray).data.toList = ([], [], 1) from shown_clash _ rfl]
  clear hb2 B1
  go_wp2_with (go_at_call 11; refine (num_any _ _).mono ?_; rintro e w' ⟨rfl, hw'⟩; obtain rfl := hw'.symm; clear hw')
  refine (pClash_any root idx s t w2 hs ht hr (HT.out.below B2.out (Nat.le_refl _))).mono ?_
  rintro e w3 ⟨hb3, rfl⟩
  have B3 : Hid (Below w.heap.size w w3) := below_then' B2.out hb3 B2.out.size
  clear hb3 B2
  go_wp2_with fail
  refine (Clash_any root idx s t w3 hs ht hr).mono ?_
  rintro e w4 ⟨hb4, rfl⟩
  have B4 : Hid (Below w.heap.size w w4) := below_then' B3.out hb4 B3.out.size
  clear hb4 B3
  generalize clashed root.data.toList idx.data.toList s.data.toList t.data.toList = c at *
  obtain ⟨x, y, n⟩ := c
  dsimp only
  by_cases h : (1 ≤ k ∧ k ≤ 32) ∧ idx.size = 32
  · obtain ⟨⟨h1, h2⟩, h3⟩ := h
    obtain ⟨m, rfl⟩ := Int.eq_ofNat_of_zero_le (show 0 ≤ k from by omega)
    have hn1 : 1 ≤ m := by omega
    have hn2 : m ≤ 32 := by omega
    go_wp2_with (go_at_call 11; refine (num_any _ _).mono ?_; rintro e w' ⟨rfl, hw'⟩; obtain rfl := hw'.symm; clear hw')
    refine (Root_any m idx s w4 hs hn1 hn2 h3).mono ?_
    rintro e w5 ⟨hb5, rfl⟩
    have B5 : Hid (Below w.heap.size w w5) := below_then' B4.out hb5 B4.out.size
    have hrl : (rootOf m idx.data.toList s.data.toList).length ≤ 32 := by
      unfold rootOf
      split
      · simp
      · rw [PW.root, dg_length _ _ hn2]; exact hn2
    clear hb5 B4
    generalize rootOf m idx.data.toList s.data.toList = R at *
    go_wp2_with fail
    refine (pClash_any ⟨R.toArray⟩ idx s t w5 hs ht (by show R.length ≤ _; omega) (HT.out.below B5.out (Nat.le_refl _))).mono ?_
    rintro e w6 ⟨hb6, rfl⟩
    have B6 : Hid (Below w.heap.size w w6) := below_then' B5.out hb6 B5.out.size
    clear hb6 B5
    go_wp2_with fail
    refine (Clash_any ⟨R.toArray⟩ idx s t w6 hs ht (by show R.length ≤ _; omega)).mono ?_
    rintro e w7 ⟨hb7, rfl⟩
    have B7 : Hid (Below w.heap.size w w7) := below_then' B6.out hb7 B6.out.size
    clear hb7 B6
    generalize clashed (⟨R.toArray⟩ : ByteArray).data.toList idx.data.toList s.data.toList t.data.toList = c at *
    obtain ⟨x2, y2, n2⟩ := c
    dsimp only
    go_wp2_with (go_at_call 11; refine (num_any _ _).mono ?_; rintro e w' ⟨rfl, hw'⟩; obtain rfl := hw'.symm; clear hw')
    go_ret
    exact ⟨rfl, B7.out⟩
  · by_cases h1 : 1 ≤ k
    · by_cases h2 : k ≤ 32
      · have h3 : ((idx.size : Int) == 32) = false := by rw [beq_eq_false_iff_ne]; omega
        have h3' : ((idx.size : Int) != 32) = true := by rw [bne_iff_ne]; omega
        clear h
        go_wp2_with (go_at_call 11; refine (num_any _ _).mono ?_; rintro e w' ⟨rfl, hw'⟩; obtain rfl := hw'.symm; clear hw')
        go_ret
        exact ⟨rfl, B4.out⟩
      · clear h
        go_wp2_with (go_at_call 11; refine (num_any _ _).mono ?_; rintro e w' ⟨rfl, hw'⟩; obtain rfl := hw'.symm; clear hw')
        go_ret
        exact ⟨rfl, B4.out⟩
    · clear h
      go_wp2_with (go_at_call 11; refine (num_any _ _).mono ?_; rintro e w' ⟨rfl, hw'⟩; obtain rfl := hw'.symm; clear hw')
      go_ret
      exact ⟨rfl, B4.out⟩
end Go.Proofs.YtghpcgagijhlaaaDoor

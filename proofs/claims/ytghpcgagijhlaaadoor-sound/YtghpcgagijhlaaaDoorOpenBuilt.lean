/- A built proof among the arguments, opened: its numbers and its slice of raw numbers, as they lie in memory. Facts on the form's readings; no condition. -/
import Derived.Test.YtghpcgagijhlaaaDoorKText
import Derived.Test.YtghpcgagijhlaaaDoorRows
import Derived.OpenShut
import Derived.ChangeSlices
import Derived.WideShapes
namespace Go.Proofs.YtghpcgagijhlaaaDoor
open Go.ChangeShapes Go.WideShapes Go.RowKit

theorem wf64 {n : Int} (h : (Lit.int .i64 n).wf = true) : -9223372036854775808 ≤ n ∧ n ≤ 9223372036854775807 := by
  simpa [Lit.wf, IntKind.min, IntKind.max, IntKind.signed, IntKind.bits] using h

set_option maxRecDepth 20000 in
theorem open_built {H : Type} {enc : TypeId × Value → H} {W : World} {b0 : Nat} {v : Value} {d : DataW H} {ps : List MemPlace} (hval : Value.okWide Tryd.prog W .any b0 33 v)
    (hd : DataW.Trod enc Tryd.prog W 0 (fun _ => true) true 33 v d ps) :
    ∃ (kd val oth : Int) (u : Value) (xs : List Int), v = .agg (builtCells kd u val oth) ∧ (-9223372036854775808 ≤ kd ∧ kd ≤ 9223372036854775807) ∧ (-9223372036854775808 ≤ val ∧ val ≤ 9223372036854775807) ∧ (-9223372036854775808 ≤ oth ∧ oth ≤ 9223372036854775807) ∧ RawAt W u xs ∧ ∀ x ∈ ps, x.block < W.heap.size := by
  have hv : ∃ cs, v = .agg cs := by
    simp only [Value.okWide, Tryd.underlying33] at hval
    obtain ⟨cs, h, _⟩ := hval
    exact ⟨cs, h⟩
  obtain ⟨cs, rfl⟩ := hv
  obtain ⟨fuel, hf⟩ := hd
  obtain ⟨ys, m, _, hx, hl, hy, hfs⟩ := DataW.trod_struct Tryd.underlying33 hf
  have hc : Tryd.prog.cellsOf 33 = 4 := by kernel_rfl
  have hc1 : Tryd.prog.cellsOf 3 = 1 := by kernel_rfl
  have hc2 : Tryd.prog.cellsOf 31 = 1 := by kernel_rfl
  rw [hc] at hl
  have hcs : (Value.agg cs).cells.toList = cs.toList := by simp [Value.cells]
  rw [hcs] at hl hfs
  obtain ⟨l⟩ := cs
  simp only at hl hfs
  obtain ⟨x0, x1, x2, x3, rfl⟩ : ∃ x0 x1 x2 x3, l = [x0, x1, x2, x3] := by
    match l, hl with
    | [x0, x1, x2, x3], _ => exact ⟨x0, x1, x2, x3, rfl⟩
  obtain ⟨y0, y1, y2, y3, rfl⟩ : ∃ y0 y1 y2 y3, ys = [y0, y1, y2, y3] := by
    have hy4 : ys.length = 4 := hy
    clear hfs hx hf
    match ys, hy4 with
    | [y0, y1, y2, y3], _ => exact ⟨y0, y1, y2, y3, rfl⟩
  have f0 : DataW.trod enc Tryd.prog W 0 (fun _ => true) true m 3 [x0] = some y0 := by have h : DataW.trod enc Tryd.prog W 0 (fun _ => true) true m 3 (List.take (Tryd.prog.cellsOf 3) (List.drop 0 [x0, x1, x2, x3])) = some y0 := hfs 0 _ rfl; rw [hc1] at h; exact h
  have f1 : DataW.trod enc Tryd.prog W 0 (fun _ => true) true m 31 [x1] = some y1 := by have h : DataW.trod enc Tryd.prog W 0 (fun _ => true) true m 31 (List.take (Tryd.prog.cellsOf 31) (List.drop 1 [x0, x1, x2, x3])) = some y1 := hfs 1 _ rfl; rw [hc2] at h; exact h
  have f2 : DataW.trod enc Tryd.prog W 0 (fun _ => true) true m 3 [x2] = some y2 := by have h : DataW.trod enc Tryd.prog W 0 (fun _ => true) true m 3 (List.take (Tryd.prog.cellsOf 3) (List.drop 2 [x0, x1, x2, x3])) = some y2 := hfs 2 _ rfl; rw [hc1] at h; exact h
  have f3 : DataW.trod enc Tryd.prog W 0 (fun _ => true) true m 3 [x3] = some y3 := by have h : DataW.trod enc Tryd.prog W 0 (fun _ => true) true m 3 (List.take (Tryd.prog.cellsOf 3) (List.drop 3 [x0, x1, x2, x3])) = some y3 := hfs 3 _ rfl; rw [hc1] at h; exact h
  clear hfs hval hf
  obtain ⟨n0, g0, h0, w0⟩ := DataW.trod_int Tryd.underlying3 f0
  obtain ⟨n2, g2, h2, w2⟩ := DataW.trod_int Tryd.underlying3 f2
  obtain ⟨n3, g3, h3, w3⟩ := DataW.trod_int Tryd.underlying3 f3
  obtain rfl : x0 = .int .i64 n0 := (List.cons.inj g0).1
  obtain rfl : x2 = .int .i64 n2 := (List.cons.inj g2).1
  obtain rfl : x3 = .int .i64 n3 := (List.cons.inj g3).1
  have hps : ps = y1.2 := by
    have := congrArg Prod.snd hx
    simp only [List.flatMap_cons, List.flatMap_nil, h0, h2, h3] at this
    simpa using this
  rcases open_ints Tryd.underlying31 Tryd.underlying3 hc1 f1 with ⟨g1, h1⟩ | ⟨a, len, cap, zs, g1, _, hlc, hcm, hzl, h1, hcell, hwf⟩
  · obtain rfl : x1 = .slice none 0 0 := (List.cons.inj g1).1
    refine ⟨n0, n2, n3, .slice none 0 0, [], rfl, wf64 w0, wf64 w2, wf64 w3, ⟨by simp, by simp, none, 0, rfl, .inl rfl⟩, ?_⟩
    rw [hps, h1]
    simp
  · obtain rfl : x1 = .slice (some a) len cap := (List.cons.inj g1).1
    have hzl' : zs.length = cap := by simpa using hzl
    have hml : cap ≤ 9223372036854775807 := by simpa [maxLen] using hcm
    have hlen : (zs.take len).length = len := by rw [List.length_take]; omega
    have hbl : 0 < zs.length → a.block < W.heap.size := fun hp => by
      obtain ⟨b, off, rfl, hcc⟩ := ints_at hcell hp
      exact World.block_lt_of_cell? W ⟨_, _, none⟩ (hcc 0 hp)
    refine ⟨n0, n2, n3, .slice (some a) len cap, zs.take len, rfl, wf64 w0, wf64 w2, wf64 w3, ⟨fun x hx' => wf64 (hwf x (List.mem_of_mem_take hx')), by omega, some a, cap, by rw [hlen], ?_⟩, ?_⟩
    · by_cases hp : 0 < len
      · obtain ⟨b, off, rfl, hcc⟩ := ints_at hcell (by omega)
        refine .inr ⟨b, off, rfl, by omega, hbl (by omega), fun i hi => ?_⟩
        rw [hcc i (by omega), List.getD_eq_getElem?_getD, List.getD_eq_getElem?_getD, List.getElem?_take, if_pos (by omega)]
      · refine .inl ?_
        rw [show len = 0 by omega]; rfl
    · rw [hps, h1]
      intro x hx'
      obtain ⟨i, hi, rfl⟩ := MemPlace.mem_row.1 hx'
      exact hbl (by omega)
end Go.Proofs.YtghpcgagijhlaaaDoor

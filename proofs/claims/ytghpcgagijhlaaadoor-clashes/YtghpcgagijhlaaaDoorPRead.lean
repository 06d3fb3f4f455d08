/- The program's reading of a proof: proof.read answers what the plain functions say (the way, or ErrForm, or ErrRoot), for every proof of at most 2^47 - 4096 bytes, every index of 32 bytes and every root of 1 to 32; nothing that was in memory turns. -/
import Derived.Test.YtghpcgagijhlaaaDoorPRoot
import Derived.Test.YtghpcgagijhlaaaDoorRefVerify
import Derived.WalkMore
import Derived.ScopeJumps
namespace Go.Proofs.YtghpcgagijhlaaaDoor
open Go.RowKit Sha

def zeroPw : Array Value := #[.int .i64 0, .int .i64 0, .slice none 0 0, .string ⟨#[]⟩, .string ⟨#[]⟩, .string ⟨#[]⟩]
/-- what the program's read hands back -/
def PReadPost (root idx s : List UInt8) (w : World) (e : Ending) (w' : World) : Prop :=
  Below w.heap.size w w' ∧
  ((lookErr root idx s ≠ 0 ∧ e = .returned (.tuple #[.agg zeroPw, .int .i64 (lookErr root idx s : Nat)])) ∨
   ∃ p v, lookErr root idx s = 0 ∧ parse root.length idx s = some p ∧ p.root root.length idx = root ∧ e = .returned (.tuple #[.agg (pwCells root.length p.kind v p.value p.other p.digest), .int .i64 0]) ∧ Own w' w.heap.size 9 v p.sibs.length (p.sibs.map fun x => .string ⟨x.toArray⟩))
theorem pread_fail {root idx s : List UInt8} {w w' : World} {n : Nat} (h : lookErr root idx s = n) (hn : n ≠ 0) (hb : Below w.heap.size w w') : PReadPost root idx s w (.returned (.tuple #[.agg zeroPw, .int .i64 (n : Int)])) w' :=
  ⟨hb, .inl ⟨by rw [h]; exact hn, by rw [h]⟩⟩
theorem pw_one {w : World} {base : Nat} {e : TypeId} {v : Value} {n : Nat} {xs : List Value} (h : Own w base e v n xs) {k kd : Nat} {a b c : List UInt8} : (pwCells k kd v a b c).all (·.oneCell') = true := by
  rcases h.2 with ⟨rfl, _⟩ | ⟨g, cap, _, _, rfl, _⟩ <;> simp [pwCells, Value.oneCell']

theorem or_bytes (a b : Nat) (ha : a < 256) (hb : b < 256) : bits .or .i64 ((a : Int) * 256) (b : Int) = 256 * (a : Int) + (b : Int) := by
  have h1 : ((a : Int) * 256 % ((2 ^ 64 : Nat) : Int)).toNat = a <<< 8 := by
    rw [Nat.shiftLeft_eq]; omega
  have h2 : ((b : Int) % ((2 ^ 64 : Nat) : Int)).toNat = b := by omega
  have h3 : a <<< 8 ||| b = a * 256 + b := by rw [← Nat.shiftLeft_add_eq_or_of_lt (by omega : b < 2 ^ 8), Nat.shiftLeft_eq]
  unfold bits
  simp only [BitVec.toNat_or, BitVec.toNat_ofInt]
  rw [IntKind.wrap_i64, show IntKind.i64.bits = 64 from rfl, h1, h2, h3]
  omega
/-- what holds where the reading jumps to the place of all faults -/
def Jump (root idx s : List UInt8) (w : World) (a : Act) (w' : World) : Prop :=
  a.defers = [] ∧ a.tmps.size = 146 ∧ a.tmps[6]? = some (.pointer (some ⟨w.heap.size, 0, none⟩)) ∧ a.tmps[10]? = some (.int .i64 (lookErr root idx s : Nat)) ∧ lookErr root idx s ≠ 0 ∧ Below w.heap.size w w' ∧ Blk w' w.heap.size 61 zeroPw

set_option maxRecDepth 100000 in
set_option maxHeartbeats 4000000 in
theorem pread_any (root idx s : ByteArray) (w : World) (hs : s.size ≤ 140737488351232) (hk1 : 1 ≤ root.size) (hk2 : root.size ≤ 32) (hi : idx.size = 32) (hT : Tabs w) :
    Calls Tryd.prog 34 #[.string root, .string idx, .string s] w (PReadPost root.data.toList idx.data.toList s.data.toList w) := by
  have HT : Hid (Tabs w) := hT
  clear hT
  have hrl : Hid (root.data.toList.length = root.size) := by show _ = _; simp
  have hil : Hid (idx.data.toList.length = idx.size) := by show _ = _; simp
  have HE : Hid (¬ (root.data.toList.length < 1 ∨ 32 < root.data.toList.length ∨ idx.data.toList.length ≠ 32)) := by
    show ¬ _
    rw [hrl.out, hil.out]; omega
  generalize hk : root.size = k at *
  have Hk : Hid (root.size = k) := hk
  go_enter Tryd.func34, Tryd.ntmps34
  go_upto_region 1 with (fail)
  refine wp_scope_jumps 0 (Jump root.data.toList idx.data.toList s.data.toList w) (fun _ _ => 0) rfl ?_ ?_
  case refine_2 =>
    rintro ⟨T, df⟩ W ⟨h0, h1, h2, h3, h4, h5, h6⟩
    obtain rfl : df = [] := h0
    dsimp only at h1 h2 h3
    have hB : Hid (Below w.heap.size w W) := h5
    have hZ : Hid (Blk W w.heap.size 61 zeroPw) := h6
    have hE : Hid (lookErr root.data.toList idx.data.toList s.data.toList ≠ 0) := h4
    have g6 : T[6]'(by omega) = .pointer (some ⟨w.heap.size, 0, none⟩) := (Array.getElem?_eq_some_iff.1 h2).2
    have g10 : T[10]'(by omega) = .int .i64 (lookErr root.data.toList idx.data.toList s.data.toList : Nat) := (Array.getElem?_eq_some_iff.1 h3).2
    clear h2 h3 h4 h5 h6
    generalize hn : lookErr root.data.toList idx.data.toList s.data.toList = n at *
    have Hn : Hid (lookErr root.data.toList idx.data.toList s.data.toList = n) := hn
    clear hn
    go_wp2_with (refine wpList_store_row rfl 61 _ _ rfl w.heap.size zeroPw (by simp [Act.eval, h1, g6]) (by simp [Act.eval, h1, zeroPw]) _ _ hZ.out (by kernel_rfl) rfl (by kernel_rfl) ?_)
    change bodyPost Tryd.prog Tryd.f34 _ Exit.ret _ _
    exact bodyPost_ret (results_row_tmp Tryd.results34 _ _ w.heap.size _ _ _ _ (by simp [h1, g6]) (hZ.out.row_same _) Tryd.underlying61 rfl (by kernel_rfl) (.int .i64 (n : Int)) (by simp [h1])) rfl (pread_fail Hn.out hE.out (below_setRow hB.out (Nat.le_refl _) _))
  go_upto_region 2 with (fail)
  have b1 : Hid (Below w.heap.size w ((w.alloc (.cells zeroPw 61)).alloc (.cells (pwCells k 0 (.slice none 0 0) [] [] []) 61))) := ((Below.refl _ _).alloc (Nat.le_refl _) _).alloc (by simp) _
  have b2 : Hid (Blk ((w.alloc (.cells zeroPw 61)).alloc (.cells (pwCells k 0 (.slice none 0 0) [] [] []) 61)) w.heap.size 61 zeroPw) := (Blk.new _ _ _).alloc _
  have b3 : Hid (Blk ((w.alloc (.cells zeroPw 61)).alloc (.cells (pwCells k 0 (.slice none 0 0) [] [] []) 61)) (w.heap.size + 1) 61 (pwCells k 0 (.slice none 0 0) [] [] [])) := by
    have := Blk.new (w.alloc (.cells zeroPw 61)) 61 (pwCells k 0 (.slice none 0 0) [] [] [])
    rw [size_alloc] at this
    exact this
  have b4 : Hid (w.heap.size + 2 ≤ ((w.alloc (.cells zeroPw 61)).alloc (.cells (pwCells k 0 (.slice none 0 0) [] [] []) 61)).heap.size) := by show _ ≤ _; rw [size_alloc, size_alloc]; omega
  rw [show ((w.alloc (.cells #[.int .i64 0, .int .i64 0, .slice none 0 0, .string ⟨#[]⟩, .string ⟨#[]⟩, .string ⟨#[]⟩] 61)).alloc (.cells #[.int .i64 (k : Int), .int .i64 0, .slice none 0 0, .string ⟨#[]⟩, .string ⟨#[]⟩, .string ⟨#[]⟩] 61)) = ((w.alloc (.cells zeroPw 61)).alloc (.cells (pwCells k 0 (.slice none 0 0) [] [] []) 61)) from rfl]
  generalize (w.alloc (.cells zeroPw 61)).alloc (.cells (pwCells k 0 (.slice none 0 0) [] [] []) 61) = w0 at *
  have e0 : w0.cell? ⟨w.heap.size + 1, 0, none⟩ = some (.int .i64 (k : Int)) := by rw [b3.out.cell]; rfl
  go_wp2_with fail
  refine (Empty_any k w0 hk1 hk2 (HT.out.below b1.out (Nat.le_refl _))).mono ?_
  rintro e w1 ⟨rfl, hb1⟩
  have c1 := below_then' b1.out hb1 b1.out.size
  have c2 : Hid (Blk w1 w.heap.size 61 zeroPw) := b2.out.below hb1 b2.out.lt
  have c3 : Hid (Blk w1 (w.heap.size + 1) 61 (pwCells k 0 (.slice none 0 0) [] [] [])) := b3.out.below hb1 b3.out.lt
  have c4 : Hid (w.heap.size + 2 ≤ w1.heap.size) := Nat.le_trans b4.out hb1.size
  clear b1 b2 b3 b4 e0 hb1
  have hDl : (dg k [0]).length = k := dg_length k _ hk2
  generalize hD : dg k [0] = D at *
  have HD : Hid (dg k [0] = D) := hD
  have hLs : Hid (s.data.toList.length = s.size) := by show _ = _; simp
  clear hD
  by_cases h3 : s.size < 3
  · have hE : Hid (lookErr root.data.toList idx.data.toList s.data.toList = 2) := lookErr_form HE.out (parse_short (.inl (by rw [hLs.out]; exact h3)))
    go_wp2
    go_step3
    show 0 = 0 ∧ Jump root.data.toList idx.data.toList s.data.toList w _ _
    exact ⟨rfl, rfl, rfl, rfl, by rw [hE.out]; rfl, by rw [hE.out]; decide, c1.out, c2.out⟩
  have h3' : 3 ≤ s.size := by omega
  have hx0 : ∀ W, (Instr.index 9 (.string s) (.int .i64 0)).run Tryd.prog W = .ok (.int .u8 ((kindOf s.data.toList : Nat) : Int)) W := index_at s 0 (by omega)
  have hx1 : ∀ W, (Instr.index 9 (.string s) (.int .i64 1)).run Tryd.prog W = .ok (.int .u8 ((s.data.toList.getD 1 0).toNat : Int)) W := index_at s 1 (by omega)
  have hx2 : ∀ W, (Instr.index 9 (.string s) (.int .i64 2)).run Tryd.prog W = .ok (.int .u8 ((s.data.toList.getD 2 0).toNat : Int)) W := index_at s 2 (by omega)
  have i3 : (3 : Int) ≤ (s.size : Int) := by omega
  have hd : bits .or .i64 (((s.data.toList.getD 1 0).toNat : Int) * 256) ((s.data.toList.getD 2 0).toNat : Int) = ((depthOf s.data.toList : Nat) : Int) := by
    rw [or_bytes _ _ (s.data.toList.getD 1 0).toNat_lt (s.data.toList.getD 2 0).toNat_lt]; unfold depthOf; omega
  have hn : (((depthOf s.data.toList : Nat) : Int) + 7) / 8 = ((markBytes s.data.toList : Nat) : Int) := by unfold markBytes; omega
  have hdl := depth_lt s.data.toList
  have hnl : markBytes s.data.toList < 8193 := by unfold markBytes; omega
  have hkl : kindOf s.data.toList < 256 := (s.data.toList.getD 0 0).toNat_lt
  have hb1 : ((s.data.toList.getD 1 0).toNat : Int) < 256 := by have := (s.data.toList.getD 1 0).toNat_lt; omega
  have hb2 : ((s.data.toList.getD 2 0).toNat : Int) < 256 := by have := (s.data.toList.getD 2 0).toNat_lt; omega
  have hc1 : 0 ≤ ((s.data.toList.getD 1 0).toNat : Int) := Int.natCast_nonneg _
  have hc2 : 0 ≤ ((s.data.toList.getD 2 0).toNat : Int) := Int.natCast_nonneg _
  generalize ((s.data.toList.getD 1 0).toNat : Int) = y1 at *
  generalize ((s.data.toList.getD 2 0).toNat : Int) = y2 at *
  generalize hL : s.data.toList = L at *
  have HL : Hid (s.data.toList = L) := hL
  clear hL
  generalize hI : idx.data.toList = I at *
  have HI : Hid (idx.data.toList = I) := hI
  clear hI
  generalize hR : root.data.toList = Rt at *
  have HR : Hid (root.data.toList = Rt) := hR
  clear hR
  generalize hkd : kindOf L = kd at *
  have Hkd : Hid (kindOf L = kd) := hkd
  generalize hdd : depthOf L = d at *
  have Hdd : Hid (depthOf L = d) := hdd
  generalize hnn : markBytes L = n at *
  have Hnn : Hid (markBytes L = n) := hnn
  clear hkd hdd hnn
  have e1 : w1.cell? ⟨w.heap.size + 1, 1, none⟩ = some (.int .i64 0) := by rw [c3.out.cell]; rfl
  have f1 : w1.frozen? ⟨w.heap.size + 1, 1, none⟩ = false := c3.out.frozen 1
  have e0 : w1.cell? ⟨w.heap.size + 1, 0, none⟩ = some (.int .i64 (k : Int)) := by rw [c3.out.cell]; rfl
  go_wp2
  have v0 : IntKind.i64.wrap (kd : Int) = (kd : Int) := by rw [IntKind.wrap_i64]; omega
  have v1 : IntKind.i64.wrap y1 = y1 := by rw [IntKind.wrap_i64]; omega
  have v2 : IntKind.i64.wrap (y1 * 256) = y1 * 256 := by rw [IntKind.wrap_i64]; omega
  have v3 : IntKind.i64.wrap y2 = y2 := by rw [IntKind.wrap_i64]; omega
  refine wp_region_any (by kernel_rfl) ?_
  change wpAny _ _ _ _ _ _ _ (World.drew _)
  refine wpAny_take (i := 0) (v := .string s) rfl (by kernel_rfl) (by kernel_rfl) (by kernel_rfl) (fun _ _ _ h => h) (Or.inl ⟨by rfl, fun W => by go_simp⟩) ?_
  simp only [Act.put]
  refine wpAny_take (i := 1) (v := .int .u8 (kd : Int)) rfl (by kernel_rfl) (by kernel_rfl) (by kernel_rfl) (fun _ _ _ h => h) (Or.inl ⟨by rfl, fun W => by go_simp⟩) ?_
  simp only [Act.put]
  refine wpAny_take (i := 2) (v := .int .i64 (kd : Int)) rfl (by kernel_rfl) (by kernel_rfl) (by kernel_rfl) (fun _ _ _ h => h) (Or.inl ⟨by rfl, fun W => by go_simp⟩) ?_
  simp only [Act.put]
  refine wpAny_take (i := 3) (v := .string s) rfl (by kernel_rfl) (by kernel_rfl) (by kernel_rfl) (fun _ _ _ h => h) (Or.inl ⟨by rfl, fun W => by go_simp⟩) ?_
  simp only [Act.put]
  refine wpAny_take (i := 4) (v := .int .u8 y1) rfl (by kernel_rfl) (by kernel_rfl) (by kernel_rfl) (fun _ _ _ h => h) (Or.inl ⟨by rfl, fun W => by go_simp⟩) ?_
  simp only [Act.put]
  refine wpAny_take (i := 5) (v := .int .i64 y1) rfl (by kernel_rfl) (by kernel_rfl) (by kernel_rfl) (fun _ _ _ h => h) (Or.inl ⟨by rfl, fun W => by go_simp⟩) ?_
  simp only [Act.put]
  refine wpAny_take (i := 6) (v := .int .i64 (y1 * 256)) rfl (by kernel_rfl) (by kernel_rfl) (by kernel_rfl) (fun _ _ _ h => h) (Or.inl ⟨by rfl, fun W => by go_simp⟩) ?_
  simp only [Act.put]
  refine wpAny_take (i := 7) (v := .string s) rfl (by kernel_rfl) (by kernel_rfl) (by kernel_rfl) (fun _ _ _ h => h) (Or.inl ⟨by rfl, fun W => by go_simp⟩) ?_
  simp only [Act.put]
  refine wpAny_take (i := 8) (v := .int .u8 y2) rfl (by kernel_rfl) (by kernel_rfl) (by kernel_rfl) (fun _ _ _ h => h) (Or.inl ⟨by rfl, fun W => by go_simp⟩) ?_
  simp only [Act.put]
  refine wpAny_take (i := 9) (v := .int .i64 y2) rfl (by kernel_rfl) (by kernel_rfl) (by kernel_rfl) (fun _ _ _ h => h) (Or.inl ⟨by rfl, fun W => by go_simp⟩) ?_
  simp only [Act.put]
  refine wpAny_take (i := 10) (v := .int .i64 (d : Int)) rfl (by kernel_rfl) (by kernel_rfl) (by kernel_rfl) (fun _ _ _ h => h) (Or.inl ⟨by rfl, fun W => by go_simp⟩) ?_
  simp only [Act.put]
  refine wpAny_take (i := 11) (v := .string s) rfl (by kernel_rfl) (by kernel_rfl) (by kernel_rfl) (fun _ _ _ h => h) (Or.inl ⟨by rfl, fun W => by go_simp⟩) ?_
  simp only [Act.put]
  refine wpAny_take (i := 12) (v := .string (s.extract 3 s.size)) rfl (by kernel_rfl) (by kernel_rfl) (by kernel_rfl) (fun _ _ _ h => h) (Or.inl ⟨by rfl, fun W => by go_simp⟩) ?_
  simp only [Act.put]
  refine wpAny_take (i := 13) (v := .pointer (some ⟨w.heap.size + 1, 1, none⟩)) rfl (by kernel_rfl) (by kernel_rfl) (by kernel_rfl) (fun _ _ _ h => h) (Or.inl ⟨by rfl, fun W => by go_simp⟩) ?_
  simp only [Act.put]
  refine wpAny_ready (rs := [14]) (by kernel_rfl) (by simp) ?_
  refine AllReady.cons rfl (fun K hK => ?_) AllReady.nil
  go_simp
  refine hK _ _ ?_
  clear hK K
  refine wpAny_ready (rs := [15]) (by kernel_rfl) (by simp) ?_
  refine AllReady.cons rfl (fun K hK => ?_) AllReady.nil
  go_simp
  refine hK _ _ ?_
  clear hK K
  refine wpAny_ready (rs := [16]) (by kernel_rfl) (by simp) ?_
  refine AllReady.cons rfl (fun K hK => ?_) AllReady.nil
  go_simp
  refine hK _ _ ?_
  clear hK K
  refine wpAny_done (by kernel_rfl) ?_ _
  have d1 : Hid (Below w.heap.size w (w1.setCell ⟨w.heap.size + 1, 1, none⟩ (.int .i64 (kd : Int))).drew) := (c1.out.setCell (by simp) _).drew
  have d2 : Hid (Blk (w1.setCell ⟨w.heap.size + 1, 1, none⟩ (.int .i64 (kd : Int))).drew w.heap.size 61 zeroPw) := c2.out.set_other _ _ (by simp)
  have d3 : Hid (Blk (w1.setCell ⟨w.heap.size + 1, 1, none⟩ (.int .i64 (kd : Int))).drew (w.heap.size + 1) 61 (pwCells k kd (.slice none 0 0) [] [] [])) := c3.out.set_same 1 _
  have d4 : Hid (w.heap.size + 2 ≤ (w1.setCell ⟨w.heap.size + 1, 1, none⟩ (.int .i64 (kd : Int))).drew.heap.size) := by show _ ≤ (w1.setCell _ _).heap.size; rw [size_setCell]; exact c4.out
  clear c1 c2 c3 c4 e1 f1 e0 v0 v1 v2 v3 hx0 hx1 hx2 hd hb1 hb2 hc1 hc2
  generalize (w1.setCell ⟨w.heap.size + 1, 1, none⟩ (.int .i64 (kd : Int))).drew = w2 at *
  have hxs : Hid (s.extract 3 s.size = ⟨(L.drop 3).toArray⟩) := by
    show _ = _
    rw [← HL.out]
    apply ByteArray.ext
    apply Array.toList_inj.1
    simp
    rw [List.take_of_length_le (by simp)]
  rw [hxs.out]
  have hT3 : ((⟨(L.drop 3).toArray⟩ : ByteArray)).size = s.size - 3 := by show (L.drop 3).length = _; rw [List.length_drop, hLs.out]
  generalize hT0 : (⟨(L.drop 3).toArray⟩ : ByteArray) = t0 at *
  have HT0 : Hid (t0 = ⟨(L.drop 3).toArray⟩) := hT0.symm
  clear hT0 hxs
  have HT3 : Hid (t0.size = s.size - 3) := hT3
  clear hT3
  have e1 : w2.cell? ⟨w.heap.size + 1, 1, none⟩ = some (.int .i64 (kd : Int)) := by rw [d3.out.cell]; rfl
  by_cases hk2' : 2 < kd
  · have hE : Hid (lookErr Rt I L = 2) := lookErr_form HE.out (parse_short (.inr (.inl (by rw [Hkd.out]; exact hk2'))))
    go_wp2
    go_step3
    show 0 = 0 ∧ Jump Rt I L w _ _
    exact ⟨rfl, rfl, rfl, rfl, by rw [hE.out]; rfl, by rw [hE.out]; decide, d1.out, d2.out⟩
  by_cases h256 : 256 < d
  · have hE : Hid (lookErr Rt I L = 2) := lookErr_form HE.out (parse_short (.inr (.inr (.inl (by rw [Hdd.out]; exact h256)))))
    go_wp2
    go_step3
    show 0 = 0 ∧ Jump Rt I L w _ _
    exact ⟨rfl, rfl, rfl, rfl, by rw [hE.out]; rfl, by rw [hE.out]; decide, d1.out, d2.out⟩
  have hnd : Hid ((d + 7) / 8 = n) := by show _ = _; omega
  go_wp2_with fail
  refine (bytesOf_any d w2 (by omega)).mono ?_
  rw [hnd.out]
  rintro e w3 ⟨rfl, hw3⟩
  obtain rfl : w2 = w3 := hw3.symm
  clear hw3
  by_cases hsn : t0.size < n
  · have hE : Hid (lookErr Rt I L = 2) := lookErr_form HE.out (parse_short (.inr (.inr (.inr (by rw [Hnn.out, hLs.out]; have := HT3.out; omega)))))
    go_wp2
    go_step3
    show 0 = 0 ∧ Jump Rt I L w _ _
    exact ⟨rfl, rfl, rfl, rfl, by rw [hE.out]; rfl, by rw [hE.out]; decide, d1.out, d2.out⟩
  have hsn' : Hid (3 + n ≤ s.size) := by show _ ≤ _; have := HT3.out; omega
  have HB : Hid (∀ W : World, Calls Tryd.prog 46 #[.int .i64 d] W fun e w' => e = .returned (.int .i64 (n : Int)) ∧ w' = W) := fun W => by
    have := bytesOf_any d W (by omega)
    rw [hnd.out] at this
    exact this
  have i1 : (0 : Int) ≤ (n : Int) := Int.natCast_nonneg _
  have i2 : (n : Int) ≤ (t0.size : Int) := by omega
  go_wp2
  go_quiet ((exact Calls.quiet_of_same (HB.out _)))
  have g1 : Hid (Below w.heap.size w (w2.drewN nq)) := below_drewN d1.out nq
  have g2 : Hid (Blk (w2.drewN nq) w.heap.size 61 zeroPw) := d2.out.drewN nq
  have g3 : Hid (Blk (w2.drewN nq) (w.heap.size + 1) 61 (pwCells k kd (.slice none 0 0) [] [] [])) := d3.out.drewN nq
  have g4 : Hid (w.heap.size + 2 ≤ (w2.drewN nq).heap.size) := d4.out
  clear d1 d2 d3 d4 e1 HB
  generalize w2.drewN nq = w3 at *
  have hmk : Hid (t0.extract 0 n = ⟨(marksOf L).toArray⟩) := by
    show _ = _
    rw [HT0.out, marksOf, Hnn.out]
    apply ByteArray.ext
    apply Array.toList_inj.1
    simp
  have htx : Hid (t0.extract n t0.size = ⟨(L.drop (3 + n)).toArray⟩) := by
    show _ = _
    have h1 := HT3.out
    rw [HT0.out]
    apply ByteArray.ext
    apply Array.toList_inj.1
    simp [ByteArray.size]
    rw [List.take_of_length_le (by simp; omega)]
  rw [hmk.out, htx.out]
  have hms : ((⟨(marksOf L).toArray⟩ : ByteArray)).size = n := by show (marksOf L).length = n; rw [marksOf, Hnn.out, List.length_take, List.length_drop, hLs.out]; have := hsn'.out; omega
  generalize hM : (⟨(marksOf L).toArray⟩ : ByteArray) = M at *
  have HM : Hid (M.data.toList = marksOf L) := by show _ = _; rw [← hM]
  clear hM hmk htx
  go_wp2_with fail
  refine (marked_any M d w3 (by omega)).mono ?_
  rw [HM.out]
  rintro e w4 ⟨hw4, b, rfl, hbt, hbf⟩
  obtain rfl : w3 = w4 := hw4.symm
  clear hw4
  have Hbt : Hid (b = true → ∃ i, d ≤ i ∧ i < 8 * M.size ∧ bitN (marksOf L) i = 1) := hbt
  have Hbf : Hid (b = false → ∀ i, d ≤ i → i < 8 * M.size → bitN (marksOf L) i = 0) := hbf
  clear hbt hbf
  cases b with
  | true =>
    have hE : Hid (lookErr Rt I L = 2) := by
      obtain ⟨i, q1, q2, q3⟩ := Hbt.out rfl
      exact lookErr_form HE.out (parse_dirty i (by rw [Hdd.out]; exact q1) (by rw [Hnn.out, ← hms]; exact q2) q3)
    go_wp2
    go_step3
    show 0 = 0 ∧ Jump Rt I L w _ _
    exact ⟨rfl, rfl, rfl, rfl, by rw [hE.out]; rfl, by rw [hE.out]; decide, g1.out, g2.out⟩
  | false =>
  have HC : Hid (cleanTo L (8 * n)) := fun i q1 q2 => Hbf.out rfl i (by rw [Hdd.out] at q1; exact q1) (by rw [hms]; exact q2)
  clear Hbt Hbf
  go_wp2
  go_loopg [2, 64] d (fun q x i wr => ∃ (j at_ : Nat) (S : List (List UInt8)) (v : Value), j + q = d ∧ i = .int .i64 (j : Int) ∧ x = .string ⟨(L.drop at_).toArray⟩ ∧ sibsTo k L j = some (S, at_) ∧ Below w.heap.size w wr ∧ Blk wr w.heap.size 61 zeroPw ∧ Blk wr (w.heap.size + 1) 61 (pwCells k kd v [] [] []) ∧ Own wr (w.heap.size + 2) 9 v j (S.map fun x => .string ⟨x.toArray⟩) ∧ w.heap.size + 2 ≤ wr.heap.size)
  case atStart => exact ⟨0, 3 + n, [], .slice none 0 0, by omega, rfl, rfl, by rw [sibsTo, Hnn.out], g1.out, g2.out, g3.out, Own.nil _ _ _, g4.out⟩
  case round =>
    obtain ⟨j, at_, S, v, hj, rfl, rfl, c0, c1, c2, c3, c4, c5⟩ := hrel
    have C0 : Hid (sibsTo k L j = some (S, at_)) := c0
    have C1 : Hid (Below w.heap.size w wr) := c1
    have C2 : Hid (Blk wr w.heap.size 61 zeroPw) := c2
    have C3 : Hid (Blk wr (w.heap.size + 1) 61 (pwCells k kd v [] [] [])) := c3
    have C4 : Hid (Own wr (w.heap.size + 2) 9 v j (S.map fun x => .string ⟨x.toArray⟩)) := c4
    have C5 : Hid (w.heap.size + 2 ≤ wr.heap.size) := c5
    clear c0 c1 c2 c3 c4 c5 g1 g2 g3 g4
    obtain ⟨q1, q2, q3⟩ := sibs_at (by rw [Hnn.out, hLs.out]; exact hsn'.out) C0.out
    rw [hLs.out] at q2
    have hTs : Hid (((⟨(L.drop at_).toArray⟩ : ByteArray)).size = s.size - at_) := by show (L.drop at_).length = _; rw [List.length_drop, hLs.out]
    generalize hTT : (⟨(L.drop at_).toArray⟩ : ByteArray) = T at *
    have HTT : Hid (T = ⟨(L.drop at_).toArray⟩) := hTT.symm
    clear hTT
    by_cases hlt : j < d
    · go_wp2_with fail
      refine (pbit_any M j wr (by rw [hms]; omega) (by rw [hms]; omega) (by omega)).mono ?_
      rw [HM.out]
      rintro e w5 ⟨rfl, hw5⟩
      obtain rfl : wr = w5 := hw5.symm
      clear hw5
      have hbn := bitN_lt (marksOf L) j
      generalize hbv : bitN (marksOf L) j = b at *
      have Hbv : Hid (bitN (marksOf L) j = b) := hbv
      clear hbv
      rcases hbn with rfl | rfl
      · have hbq : decide ((0 : Nat) = 1) = false := by decide
        have e0 : wr.cell? ⟨w.heap.size + 1, 2, none⟩ = some v := by rw [C3.out.cell]; rfl
        have hne : some (w.heap.size + 1) ≠ v.ownBlock := grown_row C4.out _ (by omega)
        have hj1 : j + 1 ≤ 1000000 := by omega
        go_wp2_with (at_builtin; refine append_strs rfl _ _ rfl (w.heap.size + 2) _ _ _ rfl C4.out [_] 1 rfl (by simp) (by simp [Value.oneCell']) hj1 C5.out ?_; intro v' w' hown hgr; obtain ⟨g', cap', rfl⟩ := hown.form (by simp); have p3 : Hid (Blk w' (w.heap.size + 1) 61 (pwCells k kd v [] [] [])) := C3.out.grown hgr hne; have e1 : w'.cell? ⟨w.heap.size + 1, 2, none⟩ = some v := (p3.out.cell 2).trans rfl; have e2 : w'.frozen? ⟨w.heap.size + 1, 2, none⟩ = false := p3.out.frozen 2)
        go_roundg (d - (j + 1))
        case measure => omega
        case rel =>
          go_light
          refine ⟨j + 1, at_, S ++ [dg k [0]], _, by omega, by go_num, by rw [HTT.out], sibs_step0 C0.out Hbv.out, (below_grown C1.out C4.out hgr (by omega) C1.out.size).setCell (by simp) _, (C2.out.grown hgr (grown_row C4.out _ (by omega))).set_other _ _ (by simp), p3.out.set_same 2 _, ?_, by rw [size_setCell]; exact Nat.le_trans C5.out hgr.size⟩
          have hq := hown.kept (w' := w'.setCell ⟨w.heap.size + 1, 2, none⟩ (.slice (some ⟨g', 0, none⟩) (j + 1) cap')) fun g hg => Below.heap_setCell _ _ _ _ (by have := (hown.lt g hg).1; simp only; omega)
          rw [List.map_append]
          rw [HD.out]
          exact hq
      · have hbq : decide ((1 : Nat) = 1) = true := by decide
        have ek : wr.cell? ⟨w.heap.size + 1, 0, none⟩ = some (.int .i64 (k : Int)) := by rw [C3.out.cell]; rfl
        by_cases hfit : T.size < k
        · have hE : Hid (lookErr Rt I L = 2) := lookErr_form HE.out (by
            rw [hrl.out]
            have := sibs_none (sibs_fail C0.out Hbv.out (by rw [hLs.out]; have := hTs.out; omega)) (d - (j + 1))
            rw [show j + 1 + (d - (j + 1)) = d from by omega] at this
            exact parse_sibs (by rw [Hdd.out]; exact this))
          go_wp2
          go_step3
          show 0 = 0 ∧ Jump Rt I L w _ _
          exact ⟨rfl, rfl, rfl, rfl, by rw [hE.out]; rfl, by rw [hE.out]; decide, C1.out, C2.out⟩
        · have hxc : Hid (T.extract 0 k = ⟨((L.drop at_).take k).toArray⟩) := by
            show _ = _
            rw [HTT.out]
            apply ByteArray.ext
            apply Array.toList_inj.1
            simp
          have hxd : Hid (T.extract k T.size = ⟨(L.drop (at_ + k)).toArray⟩) := by
            show _ = _
            rw [HTT.out]
            apply ByteArray.ext
            apply Array.toList_inj.1
            simp [ByteArray.size]
            rw [List.take_of_length_le (by simp; omega)]
          have i1 : (0 : Int) ≤ (k : Int) := Int.natCast_nonneg _
          have i2 : (k : Int) ≤ (T.size : Int) := by omega
          by_cases hsame : T.extract 0 k = ⟨D.toArray⟩
          · have hE : Hid (lookErr Rt I L = 2) := lookErr_form HE.out (by
              rw [hrl.out]
              have hl : (L.drop at_).take k = dg k [0] := by
                have := congrArg (fun b => b.data.toList) (hxc.out.symm.trans hsame)
                rw [HD.out]
                simpa using this
              have := sibs_none (sibs_fail C0.out Hbv.out (by rw [hl]; simp)) (d - (j + 1))
              rw [show j + 1 + (d - (j + 1)) = d from by omega] at this
              exact parse_sibs (by rw [Hdd.out]; exact this))
            have hse : ((T.extract 0 k).toList == D) = true := by rw [hsame, ByteArray.toList_mk]; simp
            clear hsame
            go_wp2
            go_step3
            show 0 = 0 ∧ Jump Rt I L w _ _
            exact ⟨rfl, rfl, rfl, rfl, by rw [hE.out]; rfl, by rw [hE.out]; decide, C1.out, C2.out⟩
          · have hl : Hid ((L.drop at_).take k ≠ dg k [0]) := fun h => hsame (by rw [hxc.out, h, HD.out])
            have hse : ((T.extract 0 k).toList == D) = false := ne_toList hsame
            clear hsame
            go_wp2
            go_quiet (fail)
            have E1 : Hid (Below w.heap.size w (wr.drewN nq)) := below_drewN C1.out nq
            have E2 : Hid (Blk (wr.drewN nq) w.heap.size 61 zeroPw) := C2.out.drewN nq
            have E3 : Hid (Blk (wr.drewN nq) (w.heap.size + 1) 61 (pwCells k kd v [] [] [])) := C3.out.drewN nq
            have E4 : Hid (Own (wr.drewN nq) (w.heap.size + 2) 9 v j (S.map fun x => .string ⟨x.toArray⟩)) := C4.out.kept fun _ _ => rfl
            have E5 : Hid (w.heap.size + 2 ≤ (wr.drewN nq).heap.size) := C5.out
            clear C1 C2 C3 C4 C5 ek
            generalize wr.drewN nq = w6 at *
            have e0 : w6.cell? ⟨w.heap.size + 1, 2, none⟩ = some v := by rw [E3.out.cell]; rfl
            have hne : some (w.heap.size + 1) ≠ v.ownBlock := grown_row E4.out _ (by omega)
            have hj1 : j + 1 ≤ 1000000 := by omega
            go_wp2_with (at_builtin; refine append_strs rfl _ _ rfl (w.heap.size + 2) _ _ _ rfl E4.out [_] 1 rfl (by simp) (by simp [Value.oneCell']) hj1 E5.out ?_; intro v' w' hown hgr; obtain ⟨g', cap', rfl⟩ := hown.form (by simp); have p3 : Hid (Blk w' (w.heap.size + 1) 61 (pwCells k kd v [] [] [])) := E3.out.grown hgr hne; have e1 : w'.cell? ⟨w.heap.size + 1, 2, none⟩ = some v := (p3.out.cell 2).trans rfl; have e2 : w'.frozen? ⟨w.heap.size + 1, 2, none⟩ = false := p3.out.frozen 2)
            go_roundg (d - (j + 1))
            case measure => omega
            case rel =>
              go_light
              refine ⟨j + 1, at_ + k, S ++ [(L.drop at_).take k], _, by omega, by go_num, by rw [hxd.out], sibs_step1 C0.out Hbv.out (by rw [hLs.out]; have := hTs.out; omega) hl.out, (below_grown E1.out E4.out hgr (by omega) E1.out.size).setCell (by simp) _, (E2.out.grown hgr (grown_row E4.out _ (by omega))).set_other _ _ (by simp), p3.out.set_same 2 _, ?_, by rw [size_setCell]; exact Nat.le_trans E5.out hgr.size⟩
              have hq := hown.kept (w' := w'.setCell ⟨w.heap.size + 1, 2, none⟩ (.slice (some ⟨g', 0, none⟩) (j + 1) cap')) fun g hg => Below.heap_setCell _ _ _ _ (by have := (hown.lt g hg).1; simp only; omega)
              rw [List.map_append]
              simp only [hxc.out] at hq
              exact hq
    · obtain rfl : j = d := by omega
      have hP : Hid (parse k I L = endOf k I L S (L.drop at_)) := parse_whole (by rw [hLs.out]; exact h3') (by rw [Hkd.out]; omega) (by rw [Hdd.out]; omega) (by rw [Hnn.out, hLs.out]; exact hsn'.out) (by rw [Hnn.out]; exact HC.out) (by rw [Hdd.out]; exact C0.out)
      have hRl : Hid ((L.drop at_).length = T.size) := by show _ = _; rw [HTT.out]; rfl
      have hTl : Hid (T.toList = L.drop at_) := by show _ = _; rw [HTT.out, ByteArray.toList_mk]
      generalize hR : L.drop at_ = R at *
      clear hR C0
      have e1 : wr.cell? ⟨w.heap.size + 1, 1, none⟩ = some (.int .i64 (kd : Int)) := by rw [C3.out.cell]; rfl
      have ek : wr.cell? ⟨w.heap.size + 1, 0, none⟩ = some (.int .i64 (k : Int)) := by rw [C3.out.cell]; rfl
      obtain hk0 | hk1' | hk2'' : kd = 0 ∨ kd = 1 ∨ kd = 2 := by omega
      · subst hk0
        by_cases hemp : R = []
        · have HP : Hid (parse k I L = some ⟨0, S, [], [], []⟩) := by show _ = _; rw [hP.out, endOf, Hkd.out, if_pos rfl, if_pos hemp]
          have hq0 : T.toList.isEmpty = true := by rw [hTl.out, hemp]; rfl
          clear hemp
          have HOk : Hid (PW.Ok k ⟨0, S, [], [], []⟩) := parse_ok hk2 HP.out
          have HTb : Hid (Tabs wr) := HT.out.below C1.out (Nat.le_refl _)
          have hO' : Hid (Own wr (w.heap.size + 2) 9 v S.length (S.map fun x => .string ⟨x.toArray⟩)) := by rw [q1]; exact C4.out
          go_wp2_with (first
            | refine wpList_load_row rfl 61 _ rfl (w.heap.size + 1) rfl _ _ _ _ C3.out Tryd.underlying61 rfl (by kernel_rfl) ?_)
          refine (proot_any k idx ⟨0, S, [], [], []⟩ v (w.heap.size + 2) wr hk1 hk2 hi HOk.out HTb.out hO'.out).mono ?_
          rw [HI.out]
          rintro e w8 ⟨rfl, hb8⟩
          have F1 := below_then' C1.out hb8 C1.out.size
          have F2 : Hid (Blk w8 w.heap.size 61 zeroPw) := C2.out.below hb8 C2.out.lt
          have F3 : Hid (Blk w8 (w.heap.size + 1) 61 (pwCells k 0 v [] [] [])) := C3.out.below hb8 C3.out.lt
          have F4 : Hid (Own w8 (w.heap.size + 2) 9 v S.length (S.map fun x => .string ⟨x.toArray⟩)) := hO'.out.below hb8 (Nat.le_refl _)
          clear hb8 hO' HTb
          have HPr : Hid (parse Rt.length I L = some ⟨0, S, [], [], []⟩) := by show _ = _; rw [hrl.out]; exact HP.out
          have HRr : Hid (PW.root Rt.length I ⟨0, S, [], [], []⟩ = PW.root k I ⟨0, S, [], [], []⟩) := by show _ = _; rw [hrl.out]
          by_cases hroot : PW.root k I ⟨0, S, [], [], []⟩ = Rt
          · have hE : Hid (lookErr Rt I L = 0) := lookErr_ok HE.out HPr.out (HRr.out.trans hroot)
            have hq : (PW.root k I ⟨0, S, [], [], []⟩ == root.toList) = true := by rw [beq_iff_eq, ByteArray.toList_eq, HR.out]; exact hroot
            have HRo : Hid (PW.root k I ⟨0, S, [], [], []⟩ = Rt) := hroot
            clear hroot
            go_wp2_with (first
              | refine wpList_load_row rfl 61 _ rfl (w.heap.size + 1) rfl _ _ _ _ F3.out Tryd.underlying61 rfl (by kernel_rfl) ?_
              | refine wpList_store_row rfl 61 _ _ rfl w.heap.size (pwCells _ _ _ _ _ _) rfl rfl _ _ F2.out (by kernel_rfl) rfl (pw_one F4.out) ?_)
            change bodyPost Tryd.prog Tryd.f34 _ Exit.ret _ _
            refine bodyPost_ret (results_row_tmp Tryd.results34 _ _ w.heap.size _ _ _ _ rfl (F2.out.row_same _) Tryd.underlying61 rfl (by kernel_rfl) _ rfl) rfl ?_
            exact ⟨below_setRow F1.out (Nat.le_refl _) _, .inr ⟨⟨0, S, [], [], []⟩, v, hE.out, HPr.out, HRr.out.trans HRo.out, by rw [hrl.out]; rfl, (F4.out.setRow _ _ (by omega)).lower (by omega)⟩⟩
          · have hE : Hid (lookErr Rt I L = 3) := lookErr_root HE.out HPr.out (fun h => hroot (HRr.out.symm.trans h))
            have hq : (PW.root k I ⟨0, S, [], [], []⟩ == root.toList) = false := by rw [beq_eq_false_iff_ne, ByteArray.toList_eq, HR.out]; exact hroot
            clear hroot
            go_wp2
            go_step3
            show 0 = 0 ∧ Jump Rt I L w _ _
            exact ⟨rfl, rfl, rfl, rfl, by rw [hE.out]; rfl, by rw [hE.out]; decide, F1.out, F2.out⟩
        · have hE : Hid (lookErr Rt I L = 2) := lookErr_form HE.out (by rw [hrl.out, hP.out, endOf, Hkd.out, if_pos rfl, if_neg hemp])
          have hq0 : T.toList.isEmpty = false := by rw [hTl.out]; cases hR2 : R with | nil => exact absurd hR2 hemp | cons _ _ => rfl
          clear hemp
          go_wp2
          go_step3
          show 0 = 0 ∧ Jump Rt I L w _ _
          exact ⟨rfl, rfl, rfl, rfl, by rw [hE.out]; rfl, by rw [hE.out]; decide, C1.out, C2.out⟩
      · subst hk1'
        by_cases h100 : 100 < T.size
        · have hE : Hid (lookErr Rt I L = 2) := lookErr_form HE.out (by rw [hrl.out, hP.out, endOf, Hkd.out, if_neg (by decide), if_pos rfl, if_neg (by rw [hRl.out]; omega)])
          go_wp2
          go_step3
          show 0 = 0 ∧ Jump Rt I L w _ _
          exact ⟨rfl, rfl, rfl, rfl, by rw [hE.out]; rfl, by rw [hE.out]; decide, C1.out, C2.out⟩
        · have HP : Hid (parse k I L = some ⟨1, S, R, [], []⟩) := by show _ = _; rw [hP.out, endOf, Hkd.out, if_neg (by decide), if_pos rfl, if_pos (by rw [hRl.out]; omega)]
          have e2 : wr.cell? ⟨w.heap.size + 1, 3, none⟩ = some (.string ⟨#[]⟩) := by rw [C3.out.cell]; rfl
          have f2 : wr.frozen? ⟨w.heap.size + 1, 3, none⟩ = false := C3.out.frozen 3
          have D3 : Hid (Blk (wr.setCell ⟨w.heap.size + 1, 3, none⟩ (.string T)) (w.heap.size + 1) 61 (pwCells k 1 v R [] [])) := by
            have := C3.out.set_same 3 (.string T)
            rw [HTT.out] at this ⊢
            exact this
          have D2 : Hid (Blk (wr.setCell ⟨w.heap.size + 1, 3, none⟩ (.string T)) w.heap.size 61 zeroPw) := C2.out.set_other _ _ (by simp)
          have D4 : Hid (Own (wr.setCell ⟨w.heap.size + 1, 3, none⟩ (.string T)) (w.heap.size + 2) 9 v j (S.map fun x => .string ⟨x.toArray⟩)) := C4.out.kept fun g hg => Below.heap_setCell _ _ _ _ (by have := (C4.out.lt g hg).1; simp only; omega)
          have D1 : Hid (Below w.heap.size w (wr.setCell ⟨w.heap.size + 1, 3, none⟩ (.string T))) := C1.out.setCell (by simp) _
          have HOk : Hid (PW.Ok k ⟨1, S, R, [], []⟩) := parse_ok hk2 HP.out
          have HTb : Hid (Tabs (wr.setCell ⟨w.heap.size + 1, 3, none⟩ (.string T))) := HT.out.below D1.out (Nat.le_refl _)
          have hO' : Hid (Own (wr.setCell ⟨w.heap.size + 1, 3, none⟩ (.string T)) (w.heap.size + 2) 9 v S.length (S.map fun x => .string ⟨x.toArray⟩)) := by rw [q1]; exact D4.out
          go_wp2_with (first
            | refine wpList_load_row rfl 61 _ rfl (w.heap.size + 1) rfl _ _ _ _ D3.out Tryd.underlying61 rfl (by kernel_rfl) ?_)
          refine (proot_any k idx ⟨1, S, R, [], []⟩ v (w.heap.size + 2) (wr.setCell ⟨w.heap.size + 1, 3, none⟩ (.string T)) hk1 hk2 hi HOk.out HTb.out hO'.out).mono ?_
          rw [HI.out]
          rintro e w8 ⟨rfl, hb8⟩
          have F1 := below_then' D1.out hb8 D1.out.size
          have F2 : Hid (Blk w8 w.heap.size 61 zeroPw) := D2.out.below hb8 D2.out.lt
          have F3 : Hid (Blk w8 (w.heap.size + 1) 61 (pwCells k 1 v R [] [])) := D3.out.below hb8 D3.out.lt
          have F4 : Hid (Own w8 (w.heap.size + 2) 9 v S.length (S.map fun x => .string ⟨x.toArray⟩)) := hO'.out.below hb8 (Nat.le_refl _)
          clear hb8 hO' HTb
          have HPr : Hid (parse Rt.length I L = some ⟨1, S, R, [], []⟩) := by show _ = _; rw [hrl.out]; exact HP.out
          have HRr : Hid (PW.root Rt.length I ⟨1, S, R, [], []⟩ = PW.root k I ⟨1, S, R, [], []⟩) := by show _ = _; rw [hrl.out]
          by_cases hroot : PW.root k I ⟨1, S, R, [], []⟩ = Rt
          · have hE : Hid (lookErr Rt I L = 0) := lookErr_ok HE.out HPr.out (HRr.out.trans hroot)
            have hq : (PW.root k I ⟨1, S, R, [], []⟩ == root.toList) = true := by rw [beq_iff_eq, ByteArray.toList_eq, HR.out]; exact hroot
            have HRo : Hid (PW.root k I ⟨1, S, R, [], []⟩ = Rt) := hroot
            clear hroot
            go_wp2_with (first
              | refine wpList_load_row rfl 61 _ rfl (w.heap.size + 1) rfl _ _ _ _ F3.out Tryd.underlying61 rfl (by kernel_rfl) ?_
              | refine wpList_store_row rfl 61 _ _ rfl w.heap.size (pwCells _ _ _ _ _ _) rfl rfl _ _ F2.out (by kernel_rfl) rfl (pw_one F4.out) ?_)
            change bodyPost Tryd.prog Tryd.f34 _ Exit.ret _ _
            refine bodyPost_ret (results_row_tmp Tryd.results34 _ _ w.heap.size _ _ _ _ rfl (F2.out.row_same _) Tryd.underlying61 rfl (by kernel_rfl) _ rfl) rfl ?_
            exact ⟨below_setRow F1.out (Nat.le_refl _) _, .inr ⟨⟨1, S, R, [], []⟩, v, hE.out, HPr.out, HRr.out.trans HRo.out, by rw [hrl.out]; rfl, (F4.out.setRow _ _ (by omega)).lower (by omega)⟩⟩
          · have hE : Hid (lookErr Rt I L = 3) := lookErr_root HE.out HPr.out (fun h => hroot (HRr.out.symm.trans h))
            have hq : (PW.root k I ⟨1, S, R, [], []⟩ == root.toList) = false := by rw [beq_eq_false_iff_ne, ByteArray.toList_eq, HR.out]; exact hroot
            clear hroot
            go_wp2
            go_step3
            show 0 = 0 ∧ Jump Rt I L w _ _
            exact ⟨rfl, rfl, rfl, rfl, by rw [hE.out]; rfl, by rw [hE.out]; decide, F1.out, F2.out⟩
      · subst hk2''
        by_cases hlen : T.size = 32 + k
        · have hO : Hid (T.extract 0 32 = ⟨(R.take 32).toArray⟩) := by
            show _ = _
            rw [HTT.out]
            apply ByteArray.ext
            apply Array.toList_inj.1
            simp
          have hD' : Hid (T.extract 32 (32 + k) = ⟨(R.drop 32).toArray⟩) := by
            show _ = _
            have := hRl.out
            rw [HTT.out]
            apply ByteArray.ext
            apply Array.toList_inj.1
            simp
            rw [List.take_of_length_le (by simp; omega)]
          have h32 : (T.extract 0 32).size = 32 := by rw [hO.out]; show (R.take 32).length = 32; rw [List.length_take, hRl.out]; omega
          have e3 : wr.cell? ⟨w.heap.size + 1, 4, none⟩ = some (.string ⟨#[]⟩) := by rw [C3.out.cell]; rfl
          have f3 : wr.frozen? ⟨w.heap.size + 1, 4, none⟩ = false := C3.out.frozen 4
          have e4 : wr.cell? ⟨w.heap.size + 1, 5, none⟩ = some (.string ⟨#[]⟩) := by rw [C3.out.cell]; rfl
          have f4 : wr.frozen? ⟨w.heap.size + 1, 5, none⟩ = false := C3.out.frozen 5
          have D3' : Hid (Blk (wr.setCell ⟨w.heap.size + 1, 4, none⟩ (.string (T.extract 0 32))) (w.heap.size + 1) 61 (pwCells k 2 v [] (R.take 32) [])) := by
            have := C3.out.set_same 4 (.string (T.extract 0 32))
            rw [hO.out] at this ⊢
            exact this
          have e5 : (wr.setCell ⟨w.heap.size + 1, 4, none⟩ (.string (T.extract 0 32))).cell? ⟨w.heap.size + 1, 5, none⟩ = some (.string ⟨#[]⟩) := by rw [D3'.out.cell]; rfl
          have f5 : (wr.setCell ⟨w.heap.size + 1, 4, none⟩ (.string (T.extract 0 32))).frozen? ⟨w.heap.size + 1, 5, none⟩ = false := D3'.out.frozen 5
          have i1 : (32 : Int) ≤ (T.size : Int) := by omega
          have i2 : (32 : Int) ≤ 32 + (k : Int) := by omega
          go_wp2
          go_region_law ((fail))
          have D4 : Hid (Own ((wr.setCell ⟨w.heap.size + 1, 4, none⟩ (.string (T.extract 0 32))).setCell ⟨w.heap.size + 1, 5, none⟩ (.string (T.extract 32 (32 + k)))).drew (w.heap.size + 2) 9 v j (S.map fun x => .string ⟨x.toArray⟩)) :=
            (C4.out.kept fun g hg => Below.heap_setCell _ _ _ _ (by have := (C4.out.lt g hg).1; simp only; omega)).kept fun g hg => Below.heap_setCell _ _ _ _ (by have := (C4.out.lt g hg).1; simp only; omega)
          have D3 : Hid (Blk ((wr.setCell ⟨w.heap.size + 1, 4, none⟩ (.string (T.extract 0 32))).setCell ⟨w.heap.size + 1, 5, none⟩ (.string (T.extract 32 (32 + k)))).drew (w.heap.size + 1) 61 (pwCells k 2 v [] (R.take 32) (R.drop 32))) := by
            have := D3'.out.set_same 5 (.string (T.extract 32 (32 + k)))
            rw [hD'.out] at this ⊢
            exact this
          have D2 : Hid (Blk ((wr.setCell ⟨w.heap.size + 1, 4, none⟩ (.string (T.extract 0 32))).setCell ⟨w.heap.size + 1, 5, none⟩ (.string (T.extract 32 (32 + k)))).drew w.heap.size 61 zeroPw) := (C2.out.set_other _ _ (by simp)).set_other _ _ (by simp)
          have D1 : Hid (Below w.heap.size w ((wr.setCell ⟨w.heap.size + 1, 4, none⟩ (.string (T.extract 0 32))).setCell ⟨w.heap.size + 1, 5, none⟩ (.string (T.extract 32 (32 + k)))).drew) := ((C1.out.setCell (by simp) _).setCell (by simp) _).drew
          clear C1 C2 C3 C4 C5 e3 f3 e4 f4 e5 f5 e1 ek D3' hD'
          generalize ((wr.setCell ⟨w.heap.size + 1, 4, none⟩ (.string (T.extract 0 32))).setCell ⟨w.heap.size + 1, 5, none⟩ (.string (T.extract 32 (32 + k)))).drew = w7 at *
          obtain ⟨ob, hob⟩ : ∃ ob : ByteArray, Hid (ob = ⟨(R.take 32).toArray⟩) := ⟨_, rfl⟩
          have e6 : w7.cell? ⟨w.heap.size + 1, 4, none⟩ = some (.string ob) := by rw [D3.out.cell, hob.out]; rfl
          have ho32 : ob.size = 32 := by rw [hob.out, ← hO.out]; exact h32
          have Hlen : Hid (R.length = 32 + k) := hRl.out.trans hlen
          clear h32 hO
          by_cases hsame : R.take 32 = I
          · have hE : Hid (lookErr Rt I L = 2) := lookErr_form HE.out (by rw [hrl.out, hP.out, endOf, Hkd.out, if_neg (by decide), if_neg (by decide), if_neg (fun h => h.2.1 hsame)])
            have hq : (ob.toList == idx.toList) = true := by rw [beq_iff_eq, ByteArray.toList_eq, ByteArray.toList_eq, HI.out, hob.out]; exact hsame
            clear hsame
            go_wp2
            go_step3
            show 0 = 0 ∧ Jump Rt I L w _ _
            exact ⟨rfl, rfl, rfl, rfl, by rw [hE.out]; rfl, by rw [hE.out]; decide, D1.out, D2.out⟩
          · have hq : (ob.toList == idx.toList) = false := by rw [beq_eq_false_iff_ne, ByteArray.toList_eq, ByteArray.toList_eq, HI.out, hob.out]; exact hsame
            have Hne : Hid (R.take 32 ≠ I) := hsame
            clear hsame
            go_wp2_with fail
            refine (sameStart_any ob idx j w7 ho32 hi (by omega)).mono ?_
            rw [HI.out]
            rintro e w9 ⟨hw9, b, rfl, hb⟩
            obtain rfl : w7 = w9 := hw9.symm
            clear hw9
            have Hb : Hid (b = true ↔ sameBits I (R.take 32) (depthOf L)) := by
              show _ ↔ _
              rw [hb, Hdd.out, hob.out]
              exact ⟨fun h i hi => (h i hi).symm, fun h i hi => (h i hi).symm⟩
            clear hb
            cases b with
            | true =>
              have HP : Hid (parse k I L = some ⟨2, S, [], R.take 32, R.drop 32⟩) := by
                show _ = _
                rw [hP.out, endOf, Hkd.out, if_neg (by decide), if_neg (by decide), if_pos ⟨Hlen.out, Hne.out, by rw [same_all]; exact Hb.out.1 rfl⟩]
              have HOk : Hid (PW.Ok k ⟨2, S, [], (R.take 32), (R.drop 32)⟩) := parse_ok hk2 HP.out
              have HTb : Hid (Tabs w7) := HT.out.below D1.out (Nat.le_refl _)
              have hO' : Hid (Own w7 (w.heap.size + 2) 9 v S.length (S.map fun x => .string ⟨x.toArray⟩)) := by rw [q1]; exact D4.out
              go_wp2_with (first
                | refine wpList_load_row rfl 61 _ rfl (w.heap.size + 1) rfl _ _ _ _ D3.out Tryd.underlying61 rfl (by kernel_rfl) ?_)
              refine (proot_any k idx ⟨2, S, [], (R.take 32), (R.drop 32)⟩ v (w.heap.size + 2) w7 hk1 hk2 hi HOk.out HTb.out hO'.out).mono ?_
              rw [HI.out]
              rintro e w8 ⟨rfl, hb8⟩
              have F1 := below_then' D1.out hb8 D1.out.size
              have F2 : Hid (Blk w8 w.heap.size 61 zeroPw) := D2.out.below hb8 D2.out.lt
              have F3 : Hid (Blk w8 (w.heap.size + 1) 61 (pwCells k 2 v [] (R.take 32) (R.drop 32))) := D3.out.below hb8 D3.out.lt
              have F4 : Hid (Own w8 (w.heap.size + 2) 9 v S.length (S.map fun x => .string ⟨x.toArray⟩)) := hO'.out.below hb8 (Nat.le_refl _)
              clear hb8 hO' HTb
              have HPr : Hid (parse Rt.length I L = some ⟨2, S, [], (R.take 32), (R.drop 32)⟩) := by show _ = _; rw [hrl.out]; exact HP.out
              have HRr : Hid (PW.root Rt.length I ⟨2, S, [], (R.take 32), (R.drop 32)⟩ = PW.root k I ⟨2, S, [], (R.take 32), (R.drop 32)⟩) := by show _ = _; rw [hrl.out]
              by_cases hroot : PW.root k I ⟨2, S, [], (R.take 32), (R.drop 32)⟩ = Rt
              · have hE : Hid (lookErr Rt I L = 0) := lookErr_ok HE.out HPr.out (HRr.out.trans hroot)
                have hq : (PW.root k I ⟨2, S, [], (R.take 32), (R.drop 32)⟩ == root.toList) = true := by rw [beq_iff_eq, ByteArray.toList_eq, HR.out]; exact hroot
                have HRo : Hid (PW.root k I ⟨2, S, [], (R.take 32), (R.drop 32)⟩ = Rt) := hroot
                clear hroot
                go_wp2_with (first
                  | refine wpList_load_row rfl 61 _ rfl (w.heap.size + 1) rfl _ _ _ _ F3.out Tryd.underlying61 rfl (by kernel_rfl) ?_
                  | refine wpList_store_row rfl 61 _ _ rfl w.heap.size (pwCells _ _ _ _ _ _) rfl rfl _ _ F2.out (by kernel_rfl) rfl (pw_one F4.out) ?_)
                change bodyPost Tryd.prog Tryd.f34 _ Exit.ret _ _
                refine bodyPost_ret (results_row_tmp Tryd.results34 _ _ w.heap.size _ _ _ _ rfl (F2.out.row_same _) Tryd.underlying61 rfl (by kernel_rfl) _ rfl) rfl ?_
                exact ⟨below_setRow F1.out (Nat.le_refl _) _, .inr ⟨⟨2, S, [], (R.take 32), (R.drop 32)⟩, v, hE.out, HPr.out, HRr.out.trans HRo.out, by rw [hrl.out]; rfl, (F4.out.setRow _ _ (by omega)).lower (by omega)⟩⟩
              · have hE : Hid (lookErr Rt I L = 3) := lookErr_root HE.out HPr.out (fun h => hroot (HRr.out.symm.trans h))
                have hq : (PW.root k I ⟨2, S, [], (R.take 32), (R.drop 32)⟩ == root.toList) = false := by rw [beq_eq_false_iff_ne, ByteArray.toList_eq, HR.out]; exact hroot
                clear hroot
                go_wp2
                go_step3
                show 0 = 0 ∧ Jump Rt I L w _ _
                exact ⟨rfl, rfl, rfl, rfl, by rw [hE.out]; rfl, by rw [hE.out]; decide, F1.out, F2.out⟩
            | false =>
              have hE : Hid (lookErr Rt I L = 2) := lookErr_form HE.out (by
                rw [hrl.out, hP.out, endOf, Hkd.out, if_neg (by decide), if_neg (by decide), if_neg]
                rw [same_all]
                intro h
                have := Hb.out.2 h.2.2
                cases this)
              go_wp2
              go_step3
              show 0 = 0 ∧ Jump Rt I L w _ _
              exact ⟨rfl, rfl, rfl, rfl, by rw [hE.out]; rfl, by rw [hE.out]; decide, D1.out, D2.out⟩
        · have hE : Hid (lookErr Rt I L = 2) := lookErr_form HE.out (by rw [hrl.out, hP.out, endOf, Hkd.out, if_neg (by decide), if_neg (by decide), if_neg (by rw [hRl.out]; exact fun h => hlen h.1)])
          have hq1 : ((T.size : Int) != 32 + (k : Int)) = true := by rw [bne_iff_ne]; omega
          go_wp2
          go_step3
          show 0 = 0 ∧ Jump Rt I L w _ _
          exact ⟨rfl, rfl, rfl, rfl, by rw [hE.out]; rfl, by rw [hE.out]; decide, C1.out, C2.out⟩
end Go.Proofs.YtghpcgagijhlaaaDoor

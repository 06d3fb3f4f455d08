/- A proof that is made as the document says reads as what it was made of: plain facts on bytes, no condition but the lengths. -/
import Derived.Test.YtghpcgagijhlaaaDoorWay
namespace Go.Proofs.YtghpcgagijhlaaaDoor
open Go.RowKit Sha

def orBit (x : UInt8) (r : Nat) : UInt8 := UInt8.ofNat (x.toNat ||| 128 / 2 ^ r)
def xorBit (x : UInt8) (r : Nat) : UInt8 := UInt8.ofNat (x.toNat ^^^ 128 / 2 ^ r)
theorem orBit_bit (x : UInt8) (r s : Nat) (hr : r < 8) (hs : s < 8) : (orBit x r).toNat / 2 ^ (7 - s) % 2 = if r = s then 1 else x.toNat / 2 ^ (7 - s) % 2 := by
  have H : ∀ x : Fin 256, ∀ r s : Fin 8, ((x.val ||| 128 / 2 ^ r.val) % 256) / 2 ^ (7 - s.val) % 2 = if r.val = s.val then 1 else x.val / 2 ^ (7 - s.val) % 2 := by decide +kernel
  have := H ⟨x.toNat, x.toNat_lt⟩ ⟨r, hr⟩ ⟨s, hs⟩
  rw [orBit, UInt8.toNat_ofNat']
  exact this
theorem xorBit_bit (x : UInt8) (r s : Nat) (hr : r < 8) (hs : s < 8) : (xorBit x r).toNat / 2 ^ (7 - s) % 2 = if r = s then 1 - x.toNat / 2 ^ (7 - s) % 2 else x.toNat / 2 ^ (7 - s) % 2 := by
  have H : ∀ x : Fin 256, ∀ r s : Fin 8, ((x.val ^^^ 128 / 2 ^ r.val) % 256) / 2 ^ (7 - s.val) % 2 = if r.val = s.val then 1 - x.val / 2 ^ (7 - s.val) % 2 else x.val / 2 ^ (7 - s.val) % 2 := by decide +kernel
  have := H ⟨x.toNat, x.toNat_lt⟩ ⟨r, hr⟩ ⟨s, hs⟩
  rw [xorBit, UInt8.toNat_ofNat']
  exact this
theorem getD_set (l : List UInt8) (i j : Nat) (b : UInt8) (hi : i < l.length) : (l.set i b).getD j 0 = if i = j then b else l.getD j 0 := by
  rw [List.getD_eq_getElem?_getD, List.getElem?_set, List.getD_eq_getElem?_getD]
  by_cases h : i = j
  · subst h; simp [hi]
  · simp [h]
theorem bit_or (l : List UInt8) (t i : Nat) (ht : t / 8 < l.length) : bitN (l.set (t / 8) (orBit (l.getD (t / 8) 0) (t % 8))) i = if t = i then 1 else bitN l i := by
  unfold bitN
  rw [getD_set _ _ _ _ ht]
  by_cases h : t / 8 = i / 8
  · rw [if_pos h, orBit_bit _ _ _ (Nat.mod_lt _ (by omega)) (Nat.mod_lt _ (by omega)), ← h]
    by_cases h2 : t = i
    · rw [if_pos h2, if_pos (by omega)]
    · rw [if_neg h2, if_neg (by omega)]
  · rw [if_neg h, if_neg (by intro h2; exact h (by rw [h2]))]
theorem bit_xor (l : List UInt8) (t i : Nat) (ht : t / 8 < l.length) : bitN (l.set (t / 8) (xorBit (l.getD (t / 8) 0) (t % 8))) i = if t = i then 1 - bitN l i else bitN l i := by
  unfold bitN
  rw [getD_set _ _ _ _ ht]
  by_cases h : t / 8 = i / 8
  · rw [if_pos h, xorBit_bit _ _ _ (Nat.mod_lt _ (by omega)) (Nat.mod_lt _ (by omega)), ← h]
    by_cases h2 : t = i
    · rw [if_pos h2, if_pos (by omega)]
    · rw [if_neg h2, if_neg (by omega)]
  · rw [if_neg h, if_neg (by intro h2; exact h (by rw [h2]))]
theorem bitN_zero (n i : Nat) : bitN (List.replicate n 0) i = 0 := by
  unfold bitN
  have : ((List.replicate n (0 : UInt8)).getD (i / 8) 0) = 0 := by
    rw [List.getD_eq_getElem?_getD, List.getElem?_replicate]
    split <;> rfl
  rw [this]; simp

/-- the marks of the first j siblings -/
def marksTo (D : List UInt8) (S : List (List UInt8)) : Nat → List UInt8
  | 0 => List.replicate ((S.length + 7) / 8) 0
  | j + 1 => if S.getD j [] = D then marksTo D S j else (marksTo D S j).set (j / 8) (orBit ((marksTo D S j).getD (j / 8) 0) (j % 8))
theorem marksTo_length (D : List UInt8) (S : List (List UInt8)) (j : Nat) : (marksTo D S j).length = (S.length + 7) / 8 := by
  induction j with
  | zero => simp [marksTo]
  | succ j ih =>
    unfold marksTo
    split
    · exact ih
    · rw [List.length_set]; exact ih
theorem marksTo_bit (D : List UInt8) (S : List (List UInt8)) (j : Nat) (hj : j ≤ S.length) (i : Nat) : bitN (marksTo D S j) i = if i < j ∧ S.getD i [] ≠ D then 1 else 0 := by
  induction j with
  | zero => rw [marksTo, bitN_zero, if_neg (by omega)]
  | succ j ih =>
    have ih := ih (by omega)
    unfold marksTo
    by_cases h : S.getD j [] = D
    · rw [if_pos h, ih]
      by_cases hi : i = j
      · subst hi; rw [if_neg (by omega), if_neg (fun h2 => h2.2 h)]
      · by_cases h2 : i < j ∧ S.getD i [] ≠ D
        · rw [if_pos h2, if_pos ⟨by omega, h2.2⟩]
        · rw [if_neg h2, if_neg (fun h3 => h2 ⟨by omega, h3.2⟩)]
    · rw [if_neg h, bit_or _ _ _ (by rw [marksTo_length]; omega), ih]
      by_cases hi : j = i
      · subst hi; rw [if_pos rfl, if_pos ⟨by omega, h⟩]
      · rw [if_neg hi]
        by_cases h2 : i < j ∧ S.getD i [] ≠ D
        · rw [if_pos h2, if_pos ⟨by omega, h2.2⟩]
        · rw [if_neg h2, if_neg (fun h3 => h2 ⟨by omega, h3.2⟩)]
/-- the siblings that are told -/
def toldL (D : List UInt8) : List (List UInt8) → List UInt8
  | [] => []
  | s :: r => (if s = D then [] else s) ++ toldL D r
theorem toldL_append (D : List UInt8) (a b : List (List UInt8)) : toldL D (a ++ b) = toldL D a ++ toldL D b := by
  induction a with
  | nil => rfl
  | cons s r ih => rw [List.cons_append, toldL, toldL, ih, List.append_assoc]

def restOf (p : PW) : List UInt8 := if p.kind = 1 then p.value else if p.kind = 2 then p.other ++ p.digest else []
/-- a proof's bytes -/
def encode (k : Nat) (p : PW) : List UInt8 := [UInt8.ofNat p.kind, 0, UInt8.ofNat p.sibs.length] ++ (marksTo (dg k [0]) p.sibs p.sibs.length ++ (toldL (dg k [0]) p.sibs ++ restOf p))
/-- what is asked of what a proof is made of -/
structure Made (k : Nat) (I : List UInt8) (p : PW) : Prop where
  kind : p.kind ≤ 2
  depth : p.sibs.length ≤ 20
  sib : ∀ x ∈ p.sibs, x.length = k
  zero : p.kind = 0 → p.value = [] ∧ p.other = [] ∧ p.digest = []
  one : p.kind = 1 → p.value.length ≤ 100 ∧ p.other = [] ∧ p.digest = []
  two : p.kind = 2 → p.value = [] ∧ p.other.length = 32 ∧ p.digest.length = k ∧ p.other ≠ I ∧ sameBits I p.other p.sibs.length

section
variable {k : Nat} {I X : List UInt8} {p : PW}
/-- the proof's bytes and X behind them -/
def encX (k : Nat) (p : PW) (X : List UInt8) : List UInt8 := [UInt8.ofNat p.kind, 0, UInt8.ofNat p.sibs.length] ++ (marksTo (dg k [0]) p.sibs p.sibs.length ++ (toldL (dg k [0]) p.sibs ++ X))
theorem encX_kind (h : p.kind ≤ 2) : kindOf (encX k p X) = p.kind := by
  show (UInt8.ofNat p.kind).toNat = _
  rw [UInt8.toNat_ofNat']; omega
theorem encX_depth (h : p.sibs.length ≤ 20) : depthOf (encX k p X) = p.sibs.length := by
  show 256 * (0 : UInt8).toNat + (UInt8.ofNat p.sibs.length).toNat = _
  rw [UInt8.toNat_ofNat', show (0 : UInt8).toNat = 0 from rfl]; omega
theorem encX_bytes (h : p.sibs.length ≤ 20) : markBytes (encX k p X) = (p.sibs.length + 7) / 8 := by rw [markBytes, encX_depth h]
theorem encX_marks (h : p.sibs.length ≤ 20) : marksOf (encX k p X) = marksTo (dg k [0]) p.sibs p.sibs.length := by
  rw [marksOf, encX_bytes h]
  show List.take _ (marksTo (dg k [0]) p.sibs p.sibs.length ++ (toldL (dg k [0]) p.sibs ++ X)) = _
  rw [List.take_append_of_le_length (by rw [marksTo_length]; omega), List.take_of_length_le (by rw [marksTo_length]; omega)]
theorem encX_len : (encX k p X).length = 3 + (p.sibs.length + 7) / 8 + (toldL (dg k [0]) p.sibs).length + X.length := by
  simp [encX, marksTo_length]; omega
theorem encX_drop (i : Nat) : (encX k p X).drop (3 + (p.sibs.length + 7) / 8 + (toldL (dg k [0]) (p.sibs.take i)).length) = toldL (dg k [0]) (p.sibs.drop i) ++ X := by
  have h1 : toldL (dg k [0]) p.sibs = toldL (dg k [0]) (p.sibs.take i) ++ toldL (dg k [0]) (p.sibs.drop i) := by rw [← toldL_append, List.take_append_drop]
  rw [encX, h1, ← List.drop_drop, ← List.drop_drop]
  show List.drop _ (List.drop _ (marksTo (dg k [0]) p.sibs p.sibs.length ++ (toldL (dg k [0]) (p.sibs.take i) ++ toldL (dg k [0]) (p.sibs.drop i) ++ X))) = _
  have hm : List.drop ((p.sibs.length + 7) / 8) (marksTo (dg k [0]) p.sibs p.sibs.length) = [] := List.drop_of_length_le (by rw [marksTo_length]; omega)
  rw [List.drop_append_of_le_length (by rw [marksTo_length]; omega), hm, List.nil_append, List.append_assoc, List.drop_append_of_le_length (Nat.le_refl _), List.drop_length, List.nil_append]
theorem encX_sibs (hd : p.sibs.length ≤ 20) (hs : ∀ x ∈ p.sibs, x.length = k) : ∀ i, i ≤ p.sibs.length → sibsTo k (encX k p X) i = some (p.sibs.take i, 3 + (p.sibs.length + 7) / 8 + (toldL (dg k [0]) (p.sibs.take i)).length) := by
  intro i
  induction i with
  | zero => intro _; rw [sibsTo, encX_bytes hd]; rfl
  | succ i ih =>
    intro hi
    have ih := ih (by omega)
    have hg : p.sibs.getD i [] = p.sibs[i] := by rw [List.getD_eq_getElem?_getD, List.getElem?_eq_getElem (by omega)]; rfl
    have ht : p.sibs.take (i + 1) = p.sibs.take i ++ [p.sibs[i]] := by rw [List.take_succ_eq_append_getElem (by omega)]
    have hdr : p.sibs.drop i = p.sibs[i] :: p.sibs.drop (i + 1) := List.drop_eq_getElem_cons (by omega)
    have hl : p.sibs[i].length = k := hs _ (List.getElem_mem _)
    have hbit := marksTo_bit (dg k [0]) p.sibs p.sibs.length (Nat.le_refl _) i
    by_cases h : p.sibs[i] = dg k [0]
    · rw [hg, if_neg (fun h2 => h2.2 h)] at hbit
      rw [sibs_step0 ih (by rw [encX_marks hd]; exact hbit), ht, toldL_append, h]
      simp [toldL]
    · rw [hg, if_pos ⟨by omega, h⟩] at hbit
      have hx : ((encX k p X).drop (3 + (p.sibs.length + 7) / 8 + (toldL (dg k [0]) (p.sibs.take i)).length)).take k = p.sibs[i] := by
        rw [encX_drop, hdr, toldL, if_neg h, List.append_assoc, List.take_append_of_le_length (by omega), List.take_of_length_le (by omega)]
      have hlen : 3 + (p.sibs.length + 7) / 8 + (toldL (dg k [0]) (p.sibs.take i)).length + k ≤ (encX k p X).length := by
        have := congrArg List.length hx
        rw [List.length_take, List.length_drop, hl] at this
        by_cases hk : k = 0
        · have := congrArg List.length (encX_drop (k := k) (p := p) (X := X) i)
          rw [encX_len, hk, Nat.add_zero]
          have h3 : toldL (dg k [0]) p.sibs = toldL (dg k [0]) (p.sibs.take i) ++ toldL (dg k [0]) (p.sibs.drop i) := by rw [← toldL_append, List.take_append_drop]
          rw [hk] at h3
          rw [h3, List.length_append]
          omega
        · omega
      rw [sibs_step1 ih (by rw [encX_marks hd]; exact hbit) hlen (by rw [hx]; exact h), hx, ht, toldL_append]
      simp [toldL, h, hl]
      omega
theorem encX_parse (hk : p.kind ≤ 2) (hd : p.sibs.length ≤ 20) (hs : ∀ x ∈ p.sibs, x.length = k) : parse k I (encX k p X) = endOf k I (encX k p X) p.sibs X := by
  have hS := encX_sibs (X := X) hd hs p.sibs.length (Nat.le_refl _)
  rw [List.take_length] at hS
  have hD := encX_drop (k := k) (p := p) (X := X) p.sibs.length
  rw [List.take_length, List.drop_length] at hD
  have := parse_whole (k := k) (idx := I) (s := encX k p X) (by rw [encX_len]; omega) (by rw [encX_kind hk]; exact hk) (by rw [encX_depth hd]; omega) (by rw [encX_bytes hd, encX_len]; omega) (fun i h1 h2 => by
    rw [encX_marks hd, marksTo_bit _ _ _ (Nat.le_refl _), if_neg (by rw [encX_depth hd] at h1; omega)]) (by rw [encX_depth hd]; exact hS)
  rw [this, hD]
  rfl
end
theorem encode_parse {k : Nat} {I : List UInt8} {p : PW} (h : Made k I p) : parse k I (encode k p) = some p := by
  have := encX_parse (I := I) (X := restOf p) h.kind h.depth h.sib
  rw [show encode k p = encX k p (restOf p) from rfl, this, endOf, encX_kind h.kind, encX_depth h.depth]
  obtain ⟨kd, S, a, b, c⟩ := p
  have h0 := h.kind
  dsimp only at *
  obtain rfl | rfl | rfl : kd = 0 ∨ kd = 1 ∨ kd = 2 := by omega
  · obtain ⟨h1, h2, h3⟩ := h.zero rfl
    dsimp only at h1 h2 h3
    subst h1; subst h2; subst h3
    rfl
  · obtain ⟨h1, h2, h3⟩ := h.one rfl
    dsimp only at h1 h2 h3
    subst h2; subst h3
    rw [if_neg (by decide), if_pos rfl]
    exact if_pos h1
  · obtain ⟨h1, h2, h3, h4, h5⟩ := h.two rfl
    dsimp only at h1 h2 h3 h4 h5
    subst h1
    have e1 : restOf ⟨2, S, [], b, c⟩ = b ++ c := rfl
    have e2 : (b ++ c).take 32 = b := by rw [List.take_append_of_le_length (by omega), List.take_of_length_le (by omega)]
    have e3 : (b ++ c).drop 32 = c := by rw [List.drop_append_of_le_length (by omega), List.drop_of_length_le (by omega), List.nil_append]
    rw [if_neg (by decide), if_neg (by decide), e1, e2, e3, if_pos ⟨by rw [List.length_append, h2, h3], h4, by rw [same_all]; exact h5⟩]
end Go.Proofs.YtghpcgagijhlaaaDoor

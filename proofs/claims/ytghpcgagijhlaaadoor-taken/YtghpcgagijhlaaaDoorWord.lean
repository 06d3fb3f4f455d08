/- The arithmetic on words of 32 bits as the two programs carry it out (in uint32, and in uint64 below 2^32), said by plain words of 32 bits: plain facts on numbers, for every word; no condition. -/
import Derived.Laws.BitsAllLaws
import Derived.WalkKit
namespace Go.Proofs.YtghpcgagijhlaaaDoor.Sha
open Go

theorem wrap_add (a b : BitVec 32) : IntKind.u32.wrap ((a.toNat : Int) + (b.toNat : Int)) = ((a + b).toNat : Int) := by
  rw [IntKind.wrap_u32', BitVec.toNat_add]; omega
theorem ofInt32 (a : BitVec 32) : BitVec.ofInt 32 (a.toNat : Int) = a := by
  apply BitVec.eq_of_toNat_eq; simp
theorem bits_and (a b : BitVec 32) : bits .and .u32 (a.toNat : Int) (b.toNat : Int) = ((a &&& b).toNat : Int) := by
  show IntKind.u32.wrap ((BitVec.ofInt 32 (a.toNat : Int) &&& BitVec.ofInt 32 (b.toNat : Int)).toNat : Int) = _
  rw [ofInt32, ofInt32, IntKind.wrap_u32']; have := (a &&& b).isLt; omega
theorem bits_or (a b : BitVec 32) : bits .or .u32 (a.toNat : Int) (b.toNat : Int) = ((a ||| b).toNat : Int) := by
  show IntKind.u32.wrap ((BitVec.ofInt 32 (a.toNat : Int) ||| BitVec.ofInt 32 (b.toNat : Int)).toNat : Int) = _
  rw [ofInt32, ofInt32, IntKind.wrap_u32']; have := (a ||| b).isLt; omega
theorem bits_xor (a b : BitVec 32) : bits .xor .u32 (a.toNat : Int) (b.toNat : Int) = ((a ^^^ b).toNat : Int) := by
  show IntKind.u32.wrap ((BitVec.ofInt 32 (a.toNat : Int) ^^^ BitVec.ofInt 32 (b.toNat : Int)).toNat : Int) = _
  rw [ofInt32, ofInt32, IntKind.wrap_u32']; have := (a ^^^ b).isLt; omega
theorem bits_not (a : BitVec 32) : bits .xor .u32 4294967295 (a.toNat : Int) = ((~~~a).toNat : Int) := by
  have h := bits_xor (BitVec.ofNat 32 4294967295) a
  have e : ((BitVec.ofNat 32 4294967295).toNat : Int) = 4294967295 := by decide
  rw [e] at h; rw [h]
  congr 2
theorem two_pow_cast (n : Nat) : ((2 ^ n : Nat) : Int) = (2 : Int) ^ n := by
  induction n with
  | zero => rfl
  | succ n ih => rw [Nat.pow_succ, Int.natCast_mul, ih, Int.pow_succ]; rfl
theorem shl_toNat (a : BitVec 32) (n : Nat) : IntKind.u32.wrap ((a.toNat : Int) * 2 ^ n) = ((a <<< n).toNat : Int) := by
  rw [IntKind.wrap_u32', BitVec.toNat_shiftLeft, Nat.shiftLeft_eq, ← two_pow_cast, Int.natCast_emod, Int.natCast_mul]
  rfl
theorem shr_toNat (a : BitVec 32) (n : Nat) : (a.toNat : Int).fdiv (2 ^ n) = ((a >>> n).toNat : Int) := by
  rw [BitVec.toNat_ushiftRight, Nat.shiftRight_eq_div_pow, ← two_pow_cast, Int.fdiv_eq_ediv_of_nonneg _ (Int.natCast_nonneg _), Int.natCast_ediv]

/-- the word turned to the right -/
def rotr (x : BitVec 32) (n : Nat) : BitVec 32 := x >>> n ||| x <<< (32 - n)
def S0 (x : BitVec 32) : BitVec 32 := rotr x 2 ^^^ rotr x 13 ^^^ rotr x 22
def S1 (x : BitVec 32) : BitVec 32 := rotr x 6 ^^^ rotr x 11 ^^^ rotr x 25
def s0 (x : BitVec 32) : BitVec 32 := rotr x 7 ^^^ rotr x 18 ^^^ x >>> 3
def s1 (x : BitVec 32) : BitVec 32 := rotr x 17 ^^^ rotr x 19 ^^^ x >>> 10

theorem rot_u32 (x : BitVec 32) (n : Nat) : bits .or .u32 (IntKind.u32.wrap ((x.toNat : Int) * 2 ^ (32 - n))) ((x.toNat : Int).fdiv (2 ^ n)) = ((rotr x n).toNat : Int) := by
  rw [shl_toNat, shr_toNat, bits_or, rotr, BitVec.or_comm]

theorem add_mod (a b : BitVec 32) : ((a.toNat : Int) + (b.toNat : Int)) % 4294967296 = ((a + b).toNat : Int) := by
  rw [BitVec.toNat_add]; omega
theorem shl_mod (a : BitVec 32) (n : Nat) : ((a.toNat : Int) * 2 ^ n) % 4294967296 = ((a <<< n).toNat : Int) := by
  rw [← shl_toNat, IntKind.wrap_u32']
theorem shr_div (a : BitVec 32) (n : Nat) : (a.toNat : Int) / 2 ^ n = ((a >>> n).toNat : Int) := by
  rw [← shr_toNat, ← two_pow_cast, Int.fdiv_eq_ediv_of_nonneg _ (Int.natCast_nonneg _)]
theorem rot_mod (x : BitVec 32) (n : Nat) : bits .or .u32 ((x.toNat : Int) * 2 ^ (32 - n) % 4294967296) ((x.toNat : Int) / 2 ^ n) = ((rotr x n).toNat : Int) := by
  rw [shl_mod, shr_div, bits_or, rotr, BitVec.or_comm]

/- uint64: words below 2^32 -/
theorem bits64_or (a b : Nat) (ha : a < 2 ^ 64) (hb : b < 2 ^ 64) : bits .or .u64 (a : Int) (b : Int) = ((a ||| b : Nat) : Int) := by
  have hx : a ||| b < 2 ^ 64 := Nat.or_lt_two_pow ha hb
  show IntKind.u64.wrap ((BitVec.ofInt 64 (a : Int) ||| BitVec.ofInt 64 (b : Int)).toNat : Int) = _
  have e : ∀ c : Nat, c < 2 ^ 64 → (BitVec.ofInt 64 (c : Int)).toNat = c := fun c hc => by
    rw [BitVec.ofInt_natCast, BitVec.toNat_ofNat]; exact Nat.mod_eq_of_lt hc
  rw [BitVec.toNat_or, e a ha, e b hb]
  simp only [IntKind.wrap, IntKind.bits, IntKind.signed]
  simp
  omega
theorem bits64_and (a b : BitVec 32) : bits .and .u64 (a.toNat : Int) (b.toNat : Int) = ((a &&& b).toNat : Int) := by
  have h1 := a.isLt; have h2 := b.isLt
  have hx : a.toNat &&& b.toNat < 2 ^ 32 := Nat.and_lt_two_pow _ h2
  show IntKind.u64.wrap ((BitVec.ofInt 64 (a.toNat : Int) &&& BitVec.ofInt 64 (b.toNat : Int)).toNat : Int) = _
  have e : ∀ c : BitVec 32, (BitVec.ofInt 64 (c.toNat : Int)).toNat = c.toNat := fun c => by
    have := c.isLt
    rw [BitVec.ofInt_natCast, BitVec.toNat_ofNat]; exact Nat.mod_eq_of_lt (by omega)
  rw [BitVec.toNat_and, e, e, BitVec.toNat_and]
  simp only [IntKind.wrap, IntKind.bits, IntKind.signed]
  simp
  omega
theorem bits64_xor (a b : BitVec 32) : bits .xor .u64 (a.toNat : Int) (b.toNat : Int) = ((a ^^^ b).toNat : Int) := by
  have h1 := a.isLt; have h2 := b.isLt
  have hx : a.toNat ^^^ b.toNat < 2 ^ 32 := Nat.xor_lt_two_pow h1 h2
  show IntKind.u64.wrap ((BitVec.ofInt 64 (a.toNat : Int) ^^^ BitVec.ofInt 64 (b.toNat : Int)).toNat : Int) = _
  have e : ∀ c : BitVec 32, (BitVec.ofInt 64 (c.toNat : Int)).toNat = c.toNat := fun c => by
    have := c.isLt
    rw [BitVec.ofInt_natCast, BitVec.toNat_ofNat]; exact Nat.mod_eq_of_lt (by omega)
  rw [BitVec.toNat_xor, e, e, BitVec.toNat_xor]
  simp only [IntKind.wrap, IntKind.bits, IntKind.signed]
  simp
  omega
theorem not64 (a : BitVec 32) : (4294967295 : Int) - (a.toNat : Int) = ((~~~a).toNat : Int) := by
  have := a.isLt
  rw [BitVec.toNat_not]; omega
theorem rot_u64 (x : BitVec 32) (n : Nat) (hn : n ≤ 32) : (bits .or .u64 ((x.toNat : Int).fdiv (2 ^ n)) (IntKind.u64.wrap ((x.toNat : Int) * 2 ^ (32 - n)))) % 4294967296 = ((rotr x n).toNat : Int) := by
  have h1 := x.isLt
  have hlt : x.toNat * 2 ^ (32 - n) < 2 ^ 64 := by
    have : 2 ^ (32 - n) ≤ 2 ^ 32 := Nat.pow_le_pow_right (by omega) (by omega)
    calc x.toNat * 2 ^ (32 - n) ≤ x.toNat * 2 ^ 32 := Nat.mul_le_mul_left _ this
      _ < 2 ^ 32 * 2 ^ 32 := by omega
      _ = 2 ^ 64 := by decide
  have e1 : (x.toNat : Int).fdiv (2 ^ n) = ((x.toNat / 2 ^ n : Nat) : Int) := by
    rw [← two_pow_cast, Int.fdiv_eq_ediv_of_nonneg _ (Int.natCast_nonneg _), Int.natCast_ediv]
  have e2 : IntKind.u64.wrap ((x.toNat : Int) * 2 ^ (32 - n)) = ((x.toNat * 2 ^ (32 - n) : Nat) : Int) := by
    rw [← two_pow_cast, ← Int.natCast_mul]
    generalize x.toNat * 2 ^ (32 - n) = y at hlt
    simp only [IntKind.wrap, IntKind.bits, IntKind.signed]
    simp
    omega
  have hd : x.toNat / 2 ^ n < 2 ^ 64 := by
    have := Nat.div_le_self x.toNat (2 ^ n)
    omega
  rw [e1, e2, bits64_or _ _ hd hlt]
  rw [show (4294967296 : Int) = ((2 ^ 32 : Nat) : Int) from by decide, ← Int.natCast_emod, Nat.or_mod_two_pow]
  rw [rotr, BitVec.toNat_or, BitVec.toNat_ushiftRight, BitVec.toNat_shiftLeft, Nat.shiftRight_eq_div_pow, Nat.shiftLeft_eq]
  have : x.toNat / 2 ^ n % 2 ^ 32 = x.toNat / 2 ^ n := Nat.mod_eq_of_lt (by have := Nat.div_le_self x.toNat (2 ^ n); omega)
  rw [this]

/-- the number that a word stands for: a name that the walk does not open -/
def V (x : BitVec 32) : Int := (x.toNat : Int)
theorem V_nonneg (x : BitVec 32) : 0 ≤ V x := Int.natCast_nonneg _
theorem V_lt (x : BitVec 32) : V x < 4294967296 := by have := x.isLt; unfold V; omega
theorem V_inj {x y : BitVec 32} (h : V x = V y) : x = y := BitVec.eq_of_toNat_eq (by unfold V at h; omega)
theorem V_add (a b : BitVec 32) : (V a + V b) % 4294967296 = V (a + b) := add_mod a b
theorem V_and (a b : BitVec 32) : bits .and .u32 (V a) (V b) = V (a &&& b) := bits_and a b
theorem V_or (a b : BitVec 32) : bits .or .u32 (V a) (V b) = V (a ||| b) := bits_or a b
theorem V_xor (a b : BitVec 32) : bits .xor .u32 (V a) (V b) = V (a ^^^ b) := bits_xor a b
theorem V_not (a : BitVec 32) : bits .xor .u32 IntKind.u32.max (V a) = V (~~~a) := bits_not a
theorem V_shr (a : BitVec 32) (n : Nat) : V a / 2 ^ n = V (a >>> n) := shr_div a n
theorem V_shl (a : BitVec 32) (n : Nat) : (V a * 2 ^ n) % 4294967296 = V (a <<< n) := shl_mod a n
theorem V_rot (x : BitVec 32) (n : Nat) : bits .or .u32 (V x * 2 ^ (32 - n) % 4294967296) (V x / 2 ^ n) = V (rotr x n) := rot_mod x n
theorem V64_and (a b : BitVec 32) : bits .and .u64 (V a) (V b) = V (a &&& b) := bits64_and a b
theorem V64_xor (a b : BitVec 32) : bits .xor .u64 (V a) (V b) = V (a ^^^ b) := bits64_xor a b
theorem V64_not (a : BitVec 32) : 4294967295 - V a = V (~~~a) := not64 a
theorem V64_rot (x : BitVec 32) (n : Nat) (hn : n ≤ 32) : bits .or .u64 ((V x).fdiv (2 ^ n)) (IntKind.u64.wrap (V x * 2 ^ (32 - n))) % 4294967296 = V (rotr x n) := rot_u64 x n hn
theorem V64_wrap (a : BitVec 32) : IntKind.u64.wrap (V a) = V a := by
  have h0 := V_nonneg a; have h1 := V_lt a
  simp only [IntKind.wrap, IntKind.bits, IntKind.signed]
  simp
  omega
theorem V_shr3 (a : BitVec 32) : V a / (8 : Int) = V (a >>> 3) := V_shr a 3
theorem V_shr10 (a : BitVec 32) : V a / (1024 : Int) = V (a >>> 10) := V_shr a 10
theorem V64_rot' (x : BitVec 32) (n : Nat) (hn : n ≤ 32) : (bits .or .u64 (V (x >>> n)) (IntKind.u64.wrap (V x * 2 ^ (32 - n)))).tmod 4294967296 = V (rotr x n) := by
  have h := V64_rot x n hn
  have e : (V x).fdiv (2 ^ n) = V (x >>> n) := shr_toNat x n
  rw [e] at h
  rw [Int.tmod_eq_emod_of_nonneg]
  · exact h
  · show 0 ≤ IntKind.u64.wrap ((BitVec.ofInt 64 _ ||| BitVec.ofInt 64 _).toNat : Int)
    simp only [IntKind.wrap, IntKind.bits, IntKind.signed]
    simp
    omega
end Go.Proofs.YtghpcgagijhlaaaDoor.Sha

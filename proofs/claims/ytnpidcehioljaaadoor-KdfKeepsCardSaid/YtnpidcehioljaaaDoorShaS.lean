/- SHA-256 on lists of bytes and words of 32 bits: the plain functions; how blocks, padding and the state go together. No program is named here. -/
import Derived.Test.YtnpidcehioljaaaDoorBlk
namespace Go.Proofs.YtnpidcehioljaaaDoor.Sha
open Go Go.RowKit Kit

/-- A word turned to the right by k. -/
def rotr (x : UInt32) (k : Nat) : UInt32 := (x >>> UInt32.ofNat k) ||| (x <<< UInt32.ofNat (32 - k))
def three (x : UInt32) (i j k : Nat) : UInt32 := rotr x i ^^^ rotr x j ^^^ rotr x k
def sml (x : UInt32) (i j k : Nat) : UInt32 := rotr x i ^^^ rotr x j ^^^ (x >>> UInt32.ofNat k)

structure St where
  a : UInt32
  b : UInt32
  c : UInt32
  d : UInt32
  e : UInt32
  f : UInt32
  g : UInt32
  h : UInt32
deriving DecidableEq

def St.list (s : St) : List UInt32 := [s.a, s.b, s.c, s.d, s.e, s.f, s.g, s.h]
def H0 : St := ⟨1779033703, 3144134277, 1013904242, 2773480762, 1359893119, 2600822924, 528734635, 1541459225⟩
def Ks : List UInt32 := [1116352408, 1899447441, 3049323471, 3921009573, 961987163, 1508970993, 2453635748, 2870763221, 3624381080, 310598401, 607225278, 1426881987, 1925078388, 2162078206, 2614888103, 3248222580, 3835390401, 4022224774, 264347078, 604807628, 770255983, 1249150122, 1555081692, 1996064986, 2554220882, 2821834349, 2952996808, 3210313671, 3336571891, 3584528711, 113926993, 338241895, 666307205, 773529912, 1294757372, 1396182291, 1695183700, 1986661051, 2177026350, 2456956037, 2730485921, 2820302411, 3259730800, 3345764771, 3516065817, 3600352804, 4094571909, 275423344, 430227734, 506948616, 659060556, 883997877, 958139571, 1322822218, 1537002063, 1747873779, 1955562222, 2024104815, 2227730452, 2361852424, 2428436474, 2756734187, 3204031479, 3329325298]
theorem Ks_length : Ks.length = 64 := rfl

/-- Four bytes as a word, the highest first. -/
def word (a b c d : UInt8) : UInt32 := ((((a.toUInt32 <<< 8) ||| b.toUInt32) <<< 8 ||| c.toUInt32) <<< 8) ||| d.toUInt32
/-- A block's first k words. -/
def words (l : List UInt8) (k : Nat) : List UInt32 := (List.range k).map fun i => word (l.getD (4 * i) 0) (l.getD (4 * i + 1) 0) (l.getD (4 * i + 2) 0) (l.getD (4 * i + 3) 0)
theorem words_length (l : List UInt8) (k : Nat) : (words l k).length = k := by simp [words]
theorem words_snoc (l : List UInt8) (k : Nat) : words l (k + 1) = words l k ++ [word (l.getD (4 * k) 0) (l.getD (4 * k + 1) 0) (l.getD (4 * k + 2) 0) (l.getD (4 * k + 3) 0)] := by
  simp [words, List.range_succ]
/-- The next word, out of those that are there. -/
def ext (w : List UInt32) : UInt32 := w.getD (w.length - 16) 0 + sml (w.getD (w.length - 15) 0) 7 18 3 + w.getD (w.length - 7) 0 + sml (w.getD (w.length - 2) 0) 17 19 10
def sch (l : List UInt8) : Nat → List UInt32
  | 0 => words l 16
  | k + 1 => sch l k ++ [ext (sch l k)]
theorem sch_length (l : List UInt8) (k : Nat) : (sch l k).length = 16 + k := by
  induction k with
  | zero => simp [sch, words_length]
  | succ k ih => simp [sch, ih]; omega

def rnd (s : St) (k w : UInt32) : St :=
  let p := s.h + three s.e 6 11 25 + ((s.e &&& s.f) ^^^ (~~~s.e &&& s.g)) + k + w
  let q := three s.a 2 13 22 + ((s.a &&& s.b) ^^^ (s.a &&& s.c) ^^^ (s.b &&& s.c))
  ⟨p + q, s.a, s.b, s.c, s.d + p, s.e, s.f, s.g⟩
def rnds (s : St) (ws : List UInt32) : Nat → St
  | 0 => s
  | i + 1 => rnd (rnds s ws i) (Ks.getD i 0) (ws.getD i 0)
theorem rnds_zero (s : St) (ws : List UInt32) : rnds s ws 0 = s := rfl
theorem rnds_succ (s : St) (ws : List UInt32) (i : Nat) : rnds s ws (i + 1) = rnd (rnds s ws i) (Ks.getD i 0) (ws.getD i 0) := rfl
theorem sch_zero (l : List UInt8) : sch l 0 = words l 16 := rfl
theorem sch_succ (l : List UInt8) (k : Nat) : sch l (k + 1) = sch l k ++ [ext (sch l k)] := rfl
theorem zip_step (S T : List UInt32) (i : Nat) (h1 : i < S.length) (h2 : i < T.length) :
    ((List.zipWith (· + ·) S T).take i ++ S.drop i).set i (S[i] + T[i]) = (List.zipWith (· + ·) S T).take (i + 1) ++ S.drop (i + 1) := by
  have hz : ((List.zipWith (· + ·) S T).take i).length = i := by simp; omega
  rw [List.set_append_right _ _ (by omega), hz, Nat.sub_self, List.drop_eq_getElem_cons h1, List.set_cons_zero, List.take_succ_eq_append_getElem (by simp; omega)]
  simp
def St.add (s t : St) : St := ⟨s.a + t.a, s.b + t.b, s.c + t.c, s.d + t.d, s.e + t.e, s.f + t.f, s.g + t.g, s.h + t.h⟩
theorem St.add_list (s t : St) : (s.add t).list = List.zipWith (· + ·) s.list t.list := rfl
/-- The state behind a block. -/
def next (s : St) (l : List UInt8) : St := s.add (rnds s (sch l 48) 64)

/-- The state behind n blocks. -/
def run (s : St) (l : List UInt8) : Nat → St
  | 0 => s
  | n + 1 => run (next s (l.take 64)) (l.drop 64) n
theorem run_zero (s : St) (l : List UInt8) : run s l 0 = s := rfl
theorem run_snoc (s : St) (l : List UInt8) (n : Nat) : run s l (n + 1) = next (run s l n) ((l.drop (64 * n)).take 64) := by
  induction n generalizing s l with
  | zero => simp [run]
  | succ n ih => rw [run, ih, run, List.drop_drop, show 64 + 64 * n = 64 * (n + 1) by omega]
theorem run_app (s : St) (l m : List UInt8) (n : Nat) (h : 64 * n ≤ l.length) : run s (l ++ m) n = run s l n := by
  induction n generalizing s l with
  | zero => rfl
  | succ n ih =>
    rw [run, run, List.take_append_of_le_length (by omega), List.drop_append_of_le_length (by omega), ih _ _ (by simp; omega)]

/-- s, and the block, are those of the bytes l. -/
structure Taken (l : List UInt8) (s : St) (blk : List UInt8) : Prop where
  state : s = run H0 l (l.length / 64)
  size : blk.length = 64
  block : blk.take (l.length % 64) = l.drop (64 * (l.length / 64))
theorem Taken.none (blk : List UInt8) (h : blk.length = 64) : Taken [] H0 blk := ⟨rfl, h, by simp⟩
theorem Taken.more {l : List UInt8} {s : St} {blk cs : List UInt8} (h : Taken l s blk) (hc : l.length % 64 + cs.length < 64) : Taken (l ++ cs) s (splice blk (l.length % 64) cs) := by
  have e1 : (l ++ cs).length / 64 = l.length / 64 := by simp; omega
  have e2 : (l ++ cs).length % 64 = l.length % 64 + cs.length := by simp; omega
  have hb := h.size
  refine ⟨?_, by rw [length_splice _ _ _ (by omega), hb], ?_⟩
  · rw [e1, run_app _ _ _ _ (by omega)]; exact h.state
  · rw [e1, e2, splice, ← List.append_assoc, List.take_append_of_le_length (by simp; omega), List.take_of_length_le (by simp; omega), List.drop_append_of_le_length (by omega), h.block]
theorem Taken.full {l : List UInt8} {s : St} {blk cs : List UInt8} (h : Taken l s blk) (hc : l.length % 64 + cs.length = 64) : Taken (l ++ cs) (next s (splice blk (l.length % 64) cs)) (splice blk (l.length % 64) cs) := by
  have e1 : (l ++ cs).length / 64 = l.length / 64 + 1 := by simp; omega
  have e2 : (l ++ cs).length % 64 = 0 := by simp; omega
  have hb := h.size
  have e3 : splice blk (l.length % 64) cs = l.drop (64 * (l.length / 64)) ++ cs := by
    rw [splice, h.block, List.drop_eq_nil_of_le (as := blk) (by omega), List.append_nil]
  refine ⟨?_, by rw [length_splice _ _ _ (by omega), hb], ?_⟩
  · rw [e1, run_snoc, run_app _ _ _ _ (by omega), ← h.state, e3, List.drop_append_of_le_length (by omega), List.take_of_length_le (by simp; omega)]
  · rw [e1, e2, List.drop_eq_nil_of_le (by simp; omega)]; rfl

/-- The state's words as bytes, the highest first. -/
def digest (s : St) : List UInt8 := (List.range 32).map fun i => UInt8.ofNat ((s.list.getD (i / 4) 0).toNat / 2 ^ (24 - 8 * (i % 4)))
theorem digest_length (s : St) : (digest s).length = 32 := by simp [digest]
/-- What stands behind n bytes. -/
def tail (n : Nat) : List UInt8 := 128 :: List.replicate ((119 - n % 64) % 64) 0 ++ (le 8 (8 * n)).reverse
theorem tail_length (n : Nat) : (n + (tail n).length) % 64 = 0 := by simp [tail]; omega
def padded (l : List UInt8) : List UInt8 := l ++ tail l.length
/-- A block that has room for the count, and one that has not. -/
theorem Taken.last {l : List UInt8} {s : St} {blk : List UInt8} (h : Taken l s blk) (hu : l.length % 64 ≤ 55) :
    run H0 (padded l) ((padded l).length / 64) = next s (blk.take (l.length % 64) ++ 128 :: List.replicate (55 - l.length % 64) 0 ++ (le 8 (8 * l.length)).reverse) := by
  have hl : (padded l).length = l.length + 1 + (55 - l.length % 64) + 8 := by simp [padded, tail]; omega
  rw [show (padded l).length / 64 = l.length / 64 + 1 by omega, run_snoc, padded, run_app _ _ _ _ (by omega), ← h.state, h.block, List.drop_append_of_le_length (by omega), tail, show (119 - l.length % 64) % 64 = 55 - l.length % 64 by omega,
    List.take_of_length_le (by simp; omega)]
  simp
theorem Taken.last2 {l : List UInt8} {s : St} {blk : List UInt8} (h : Taken l s blk) (hu : 56 ≤ l.length % 64) :
    run H0 (padded l) ((padded l).length / 64) = next (next s (blk.take (l.length % 64) ++ 128 :: List.replicate (63 - l.length % 64) 0)) (List.replicate 56 0 ++ (le 8 (8 * l.length)).reverse) := by
  have hl : (padded l).length = l.length + 1 + (119 - l.length % 64) + 8 := by simp [padded, tail]; omega
  have e : padded l = l ++ (128 :: List.replicate (63 - l.length % 64) 0) ++ (List.replicate 56 0 ++ (le 8 (8 * l.length)).reverse) := by
    rw [padded, tail, show (119 - l.length % 64) % 64 = (63 - l.length % 64) + 56 by omega, ← List.replicate_append_replicate]; simp
  have hq : (l.drop (64 * (l.length / 64))).length = l.length % 64 := by simp; omega
  have hA : ((l ++ 128 :: List.replicate (63 - l.length % 64) 0 ++ (List.replicate 56 0 ++ (le 8 (8 * l.length)).reverse)).drop (64 * (l.length / 64))).take 64 = l.drop (64 * (l.length / 64)) ++ 128 :: List.replicate (63 - l.length % 64) 0 := by
    rw [List.append_assoc, List.drop_append_of_le_length (by omega), ← List.append_assoc, List.take_append_of_le_length (by simp; omega), List.take_of_length_le (by simp; omega)]
  have hB : ((l ++ 128 :: List.replicate (63 - l.length % 64) 0 ++ (List.replicate 56 0 ++ (le 8 (8 * l.length)).reverse)).drop (64 * (l.length / 64 + 1))).take 64 = List.replicate 56 0 ++ (le 8 (8 * l.length)).reverse := by
    have : (l ++ 128 :: List.replicate (63 - l.length % 64) 0).length = 64 * (l.length / 64 + 1) := by simp; omega
    rw [← this, List.drop_left, List.take_of_length_le (by simp)]
  rw [show (padded l).length / 64 = l.length / 64 + 1 + 1 by omega, run_snoc, run_snoc, e, hA, hB, run_app _ _ _ _ (by simp; omega), run_app _ _ _ _ (by omega), ← h.state, h.block]
/-- THE DIGEST. -/
def of (l : List UInt8) : List UInt8 := digest (run H0 (padded l) ((padded l).length / 64))
theorem padded_eq (l : List UInt8) : padded l = l ++ tail l.length := rfl
theorem of_eq (l : List UInt8) : of l = digest (run H0 (padded l) ((padded l).length / 64)) := rfl
theorem of_length (l : List UInt8) : (of l).length = 32 := digest_length _

example : of [97, 98, 99] = [186, 120, 22, 191, 143, 1, 207, 234, 65, 65, 64, 222, 93, 174, 34, 35, 176, 3, 97, 163, 150, 23, 122, 156, 180, 16, 255, 97, 242, 0, 21, 173] := by decide +kernel

theorem next_eq (s : St) (l : List UInt8) : next s l = s.add (rnds s (sch l 48) 64) := rfl
attribute [irreducible] sch rnds run next of padded words

/- Words of 32 bits as integers. -/
def cw (x : UInt32) : Int := (x.toNat : Int)
def uv (x : UInt32) : Value := .int .u32 (cw x)
def uvs (l : List UInt32) : List Value := l.map uv
@[simp] theorem uvs_length (l : List UInt32) : (uvs l).length = l.length := by simp [uvs]
theorem cw_lt (x : UInt32) : 0 ≤ cw x ∧ cw x < 4294967296 := by have := x.toNat_lt; unfold cw; omega
theorem cw_wrap (n : Nat) : IntKind.u32.wrap (n : Int) = cw (UInt32.ofNat n) := by
  rw [IntKind.wrap_u32, cw]; simp
theorem cw_int (n : Nat) (h : n < 4294967296) : cw (UInt32.ofNat n) = n := by simp [cw, UInt32.toNat_ofNat']; omega
theorem cw_ofNat (n : Nat) (x : UInt32) (h : x.toNat = n) : cw x = n := by rw [cw, h]

theorem bits_u32 (o : BinOp) (f : Nat → Nat → Nat) (a b : UInt32) (h : bits o .u32 (cw a) (cw b) = IntKind.u32.wrap ((f a.toNat b.toNat : Nat) : Int)) (_ : f a.toNat b.toNat < 4294967296) : bits o .u32 (cw a) (cw b) = cw (UInt32.ofNat (f a.toNat b.toNat)) := by
  rw [h, cw_wrap]
theorem ofInt_cw (a : UInt32) : (BitVec.ofInt 32 (cw a)).toNat = a.toNat := by
  rw [cw, BitVec.ofInt_natCast, BitVec.toNat_ofNat]; exact Nat.mod_eq_of_lt a.toNat_lt
@[go_sem] theorem cw_add (a b : UInt32) : IntKind.u32.wrap (cw a + cw b) = cw (a + b) := by
  rw [IntKind.wrap_u32]; simp [cw]
@[go_sem] theorem cw_and (a b : UInt32) : bits .and .u32 (cw a) (cw b) = cw (a &&& b) := by
  show IntKind.u32.wrap ((BitVec.ofInt 32 (cw a) &&& BitVec.ofInt 32 (cw b)).toNat : Int) = _
  rw [BitVec.toNat_and, ofInt_cw, ofInt_cw, cw_wrap, ← UInt32.toNat_and, UInt32.ofNat_toNat]
@[go_sem] theorem cw_or (a b : UInt32) : bits .or .u32 (cw a) (cw b) = cw (a ||| b) := by
  show IntKind.u32.wrap ((BitVec.ofInt 32 (cw a) ||| BitVec.ofInt 32 (cw b)).toNat : Int) = _
  rw [BitVec.toNat_or, ofInt_cw, ofInt_cw, cw_wrap, ← UInt32.toNat_or, UInt32.ofNat_toNat]
@[go_sem] theorem cw_xor (a b : UInt32) : bits .xor .u32 (cw a) (cw b) = cw (a ^^^ b) := by
  show IntKind.u32.wrap ((BitVec.ofInt 32 (cw a) ^^^ BitVec.ofInt 32 (cw b)).toNat : Int) = _
  rw [BitVec.toNat_xor, ofInt_cw, ofInt_cw, cw_wrap, ← UInt32.toNat_xor, UInt32.ofNat_toNat]
theorem cw_shl (a : UInt32) (k : Nat) (h : k < 32) : IntKind.u32.wrap (cw a * 2 ^ k) = cw (a <<< UInt32.ofNat k) := by
  have e : cw a * 2 ^ k = ((a.toNat * 2 ^ k : Nat) : Int) := by simp [cw]
  rw [e, IntKind.wrap_u32, cw, UInt32.toNat_shiftLeft, UInt32.toNat_ofNat', Nat.shiftLeft_eq, Nat.mod_eq_of_lt (a := k) (by omega), Nat.mod_eq_of_lt h]; simp
theorem cw_shr (a : UInt32) (k : Nat) (h : k < 32) : cw a / 2 ^ k = cw (a >>> UInt32.ofNat k) := by
  have e : cw a / 2 ^ k = ((a.toNat / 2 ^ k : Nat) : Int) := by simp [cw]
  rw [e, cw, UInt32.toNat_shiftRight, UInt32.toNat_ofNat', Nat.shiftRight_eq_div_pow, Nat.mod_eq_of_lt (a := k) (by omega), Nat.mod_eq_of_lt h]
@[go_sem] theorem cw_shl8 (a : UInt32) : IntKind.u32.wrap (cw a * (256 : Int)) = cw (a <<< 8) := cw_shl a 8 (by omega)
@[go_sem] theorem cw_shr3 (a : UInt32) : cw a / (8 : Int) = cw (a >>> 3) := cw_shr a 3 (by omega)
@[go_sem] theorem cw_shr10 (a : UInt32) : cw a / (1024 : Int) = cw (a >>> 10) := cw_shr a 10 (by omega)
theorem cw_mod (a : UInt32) (n : Int) : (cw a + n) % 4294967296 = (cw a + n % 4294967296) % 4294967296 := by omega
theorem uvs_one (l : List UInt32) : ∀ u ∈ uvs l, u.oneCell' = true := by
  intro u hu; simp only [uvs, List.mem_map] at hu; obtain ⟨b, _, rfl⟩ := hu; rfl
@[go_sem] theorem cw_sum2 (a b : UInt32) : (cw a + cw b) % 4294967296 = cw (a + b) := by rw [← cw_add, IntKind.wrap_u32]
@[go_sem] theorem cw_sum3 (a b c : UInt32) : (cw a + cw b + cw c) % 4294967296 = cw (a + b + c) := by rw [← cw_sum2, ← cw_sum2]; omega
@[go_sem] theorem cw_sum4 (a b c d : UInt32) : (cw a + cw b + cw c + cw d) % 4294967296 = cw (a + b + c + d) := by rw [← cw_sum2, ← cw_sum3]; omega
@[go_sem] theorem cw_sum5 (a b c d e : UInt32) : (cw a + cw b + cw c + cw d + cw e) % 4294967296 = cw (a + b + c + d + e) := by rw [← cw_sum2, ← cw_sum4]; omega
@[go_sem] theorem cw_not (a : UInt32) : bits .xor .u32 IntKind.u32.max (cw a) = cw (~~~a) := by
  have e : IntKind.u32.max = cw 4294967295 := by decide
  rw [e, cw_xor]
  congr 1
@[go_sem] theorem cw_u8 (x : UInt8) : (x.toNat : Int) % 4294967296 = cw x.toUInt32 := by have := x.toNat_lt; simp [cw]; omega
@[go_sem] theorem cw_shl24 (a : UInt32) : IntKind.u32.wrap (cw a * (16777216 : Int)) = cw (a <<< 24) := cw_shl a 24 (by omega)
@[go_sem] theorem cw_shl16 (a : UInt32) : IntKind.u32.wrap (cw a * (65536 : Int)) = cw (a <<< 16) := cw_shl a 16 (by omega)
theorem u8_u32 (b : UInt8) : b.toUInt32.toNat = b.toNat := by simp
theorem shl8_or (x : UInt32) (b : UInt8) (h : x.toNat < 16777216) : (x <<< 8 ||| b.toUInt32).toNat = x.toNat * 256 + b.toNat := by
  have hb := b.toNat_lt
  rw [UInt32.toNat_or, UInt32.toNat_shiftLeft, u8_u32, Nat.shiftLeft_eq]
  have e : x.toNat * 2 ^ ((8 : UInt32).toNat % 32) % 2 ^ 32 = 2 ^ 8 * x.toNat := by
    have : (8 : UInt32).toNat % 32 = 8 := rfl
    rw [this]; omega
  rw [e, ← Nat.two_pow_add_eq_or_of_lt (by omega)]; omega
theorem shl_nat (b : UInt8) (k : Nat) (hk : k ≤ 24) : (b.toUInt32 <<< UInt32.ofNat k).toNat = b.toNat * 2 ^ k := by
  have hb := b.toNat_lt
  rw [UInt32.toNat_shiftLeft, u8_u32, Nat.shiftLeft_eq, UInt32.toNat_ofNat', Nat.mod_eq_of_lt (a := k) (by omega), Nat.mod_eq_of_lt (a := k) (b := 32) (by omega)]
  have : 2 ^ k ≤ 2 ^ 24 := Nat.pow_le_pow_right (by omega) hk
  have h2 : b.toNat * 2 ^ k ≤ 255 * 2 ^ 24 := Nat.mul_le_mul (by omega) this
  omega
theorem word_sum (a b c d : UInt8) : (a.toUInt32 <<< 24) + (b.toUInt32 <<< 16) + (c.toUInt32 <<< 8) + d.toUInt32 = word a b c d := by
  have ha := a.toNat_lt; have hb := b.toNat_lt; have hc := c.toNat_lt; have hd := d.toNat_lt
  apply UInt32.toNat_inj.1
  unfold word
  have h1 := shl8_or a.toUInt32 b (by rw [u8_u32]; omega)
  rw [u8_u32] at h1
  have h2 := shl8_or _ c (show (a.toUInt32 <<< 8 ||| b.toUInt32).toNat < 16777216 by omega)
  have h3 := shl8_or _ d (show ((a.toUInt32 <<< 8 ||| b.toUInt32) <<< 8 ||| c.toUInt32).toNat < 16777216 by omega)
  have g1 := shl_nat a 24 (by omega)
  have g2 := shl_nat b 16 (by omega)
  have g3 := shl_nat c 8 (by omega)
  rw [h3, h2, h1, UInt32.toNat_add, UInt32.toNat_add, UInt32.toNat_add, u8_u32]
  have e1 : (a.toUInt32 <<< (24 : UInt32)).toNat = a.toNat * 2 ^ 24 := g1
  have e2 : (b.toUInt32 <<< (16 : UInt32)).toNat = b.toNat * 2 ^ 16 := g2
  have e3 : (c.toUInt32 <<< (8 : UInt32)).toNat = c.toNat * 2 ^ 8 := g3
  rw [e1, e2, e3]
  omega
end Go.Proofs.YtnpidcehioljaaaDoor.Sha

/- What package field reckons over any table of squares: a square, an inverse, a box. No program is named here. · Blocks of 16 bytes under a key's words, on lists of bytes: sealing, the way back, the words of a key. No program is named here. · The field of 2^128 elements of GHASH: x comes back behind 128 squares, what finds an element out of its square and itself: so no product is none but of none. No program is named here. -/
import Derived.Test.YtmmpmncioifeoaaZG22
namespace Go.Proofs.Ytmmpmncioifeoaa.Field
set_option linter.unusedVariables false
set_option linter.unusedSimpArgs false
open Go Go.RowKit Kit Gf

/-- Eight bytes. -/
structure SqTab where
  l : List UInt8
  len : l.length = 8
def gSQ [Inhabited SqTab] : List UInt8 := (default : SqTab).l
theorem gSQ_length [Inhabited SqTab] : gSQ.length = 8 := (default : SqTab).len
def gsum [Inhabited SqTab] (a : UInt8) : Nat → UInt8
  | 0 => 0
  | i + 1 => gsum a i ^^^ keep (gSQ.getD i 0) (bitOf a i)
theorem gsum_zero [Inhabited SqTab] (a : UInt8) : gsum a 0 = 0 := rfl
theorem gsum_succ [Inhabited SqTab] (a : UInt8) (i : Nat) : gsum a (i + 1) = gsum a i ^^^ keep (gSQ.getD i 0) (bitOf a i) := rfl
def gsq [Inhabited SqTab] (a : UInt8) : UInt8 := gsum a 8
theorem gsum_all [Inhabited SqTab] (a : UInt8) : gsum a 8 = gsq a := rfl
def gpow [Inhabited SqTab] (a : UInt8) : Nat → UInt8 × UInt8
  | 0 => (a, 1)
  | i + 1 => (gsq (gpow a i).1, tm (gpow a i).2 (gsq (gpow a i).1))
theorem gpow_zero [Inhabited SqTab] (a : UInt8) : gpow a 0 = (a, 1) := rfl
theorem gpow_fst [Inhabited SqTab] (a : UInt8) (i : Nat) : (gpow a (i + 1)).1 = gsq (gpow a i).1 := rfl
theorem gpow_snd [Inhabited SqTab] (a : UInt8) (i : Nat) : (gpow a (i + 1)).2 = tm (gpow a i).2 (gpow a (i + 1)).1 := rfl
def ginv [Inhabited SqTab] (a : UInt8) : UInt8 := (gpow a 7).2
theorem gpow_all [Inhabited SqTab] (a : UInt8) : (gpow a 7).2 = ginv a := rfl
def gbox [Inhabited SqTab] (a : UInt8) : UInt8 := bend (ginv a)
theorem gbox_eq [Inhabited SqTab] (a : UInt8) : gbox a = bend (ginv a) := rfl
attribute [irreducible] gSQ gsum gsq gpow ginv gbox
end Go.Proofs.Ytmmpmncioifeoaa.Field
namespace Go.Proofs.Ytmmpmncioifeoaa.Aes
set_option linter.unusedVariables false
set_option linter.unusedSimpArgs false
open _root_.Go.Proofs.Ytmmpmncioifeoaa.Field

/-- The byte at a place, or nought; sixteen bytes by their places. -/
def gb (b : List UInt8) (i : Nat) : UInt8 := b.getD i 0
def tb (f : Nat → UInt8) : List UInt8 := (List.range 16).map f
theorem tb_length (f : Nat → UInt8) : (tb f).length = 16 := by simp [tb]
theorem gb_tb (f : Nat → UInt8) (i : Nat) (h : i < 16) : gb (tb f) i = f i := by
  rw [gb, tb, List.getD, List.getElem?_map, List.getElem?_range h]; rfl
theorem tb_gb (b : List UInt8) (h : b.length = 16) : tb (gb b) = b := by
  apply List.ext_getElem (by rw [tb_length, h])
  intro i h1 h2
  have := gb_tb (gb b) i (by rw [tb_length] at h1; exact h1)
  rw [gb, List.getD, List.getElem?_eq_getElem h1, gb, List.getD, List.getElem?_eq_getElem h2] at this
  simpa using this
theorem tb_ext {f g : Nat → UInt8} (h : ∀ i, i < 16 → f i = g i) : tb f = tb g := by
  apply List.map_congr_left
  intro i hi
  exact h i (List.mem_range.1 hi)
theorem tb_eq {f : Nat → UInt8} {b : List UInt8} (hb : b.length = 16) (h : ∀ i, i < 16 → f i = gb b i) : tb f = b := by
  rw [← tb_gb b hb]; exact tb_ext h

/-- The steps of a round, and their ways back. -/
def sub [Inhabited Field.SqTab] (b : List UInt8) : List UInt8 := tb fun i => gbox (gb b i)
def rows (b : List UInt8) : List UInt8 := tb fun i => gb b (4 * ((i / 4 + i % 4) % 4) + i % 4)
def unrows (b : List UInt8) : List UInt8 := tb fun i => gb b (4 * ((i / 4 + 4 - i % 4) % 4) + i % 4)
/-- The factor of byte j of a column in byte k, and on the way back. -/
def fac (j k : Nat) : UInt8 := ([2, 3, 1, 1] : List UInt8).getD ((j + 4 - k) % 4) 0
def unfac (j k : Nat) : UInt8 := ([14, 11, 13, 9] : List UInt8).getD ((j + 4 - k) % 4) 0
def col (f : Nat → Nat → UInt8) (b : List UInt8) (c k : Nat) : UInt8 :=
  tm (gb b (4 * c)) (f 0 k) ^^^ tm (gb b (4 * c + 1)) (f 1 k) ^^^ tm (gb b (4 * c + 2)) (f 2 k) ^^^ tm (gb b (4 * c + 3)) (f 3 k)
def mix (b : List UInt8) : List UInt8 := tb fun i => col fac b (i / 4) (i % 4)
def unmix (b : List UInt8) : List UInt8 := tb fun i => col unfac b (i / 4) (i % 4)
def add (w b : List UInt8) : List UInt8 := tb fun i => gb b i ^^^ gb w i

theorem unrows_rows (b : List UInt8) (h : b.length = 16) : unrows (rows b) = b := tb_eq h fun i hi => by
  rw [rows, gb_tb _ _ (by omega)]
  congr 1
  omega
theorem rows_unrows (b : List UInt8) (h : b.length = 16) : rows (unrows b) = b := tb_eq h fun i hi => by
  rw [unrows, gb_tb _ _ (by omega)]
  congr 1
  omega
theorem add_add (w b : List UInt8) (h : b.length = 16) : add w (add w b) = b := tb_eq h fun i hi => by
  rw [add, gb_tb _ i hi, UInt8.xor_assoc, UInt8.xor_self, UInt8.xor_zero]

theorem xor_tm (a b c : UInt8) : tm (a ^^^ b) c = tm a c ^^^ tm b c := by rw [tm_comm, tm_xor, tm_comm c, tm_comm c]
theorem xor4 (a b c d e f g h i j k l m n o p : UInt8) : (a ^^^ b ^^^ c ^^^ d) ^^^ (e ^^^ f ^^^ g ^^^ h) ^^^ (i ^^^ j ^^^ k ^^^ l) ^^^ (m ^^^ n ^^^ o ^^^ p) = (a ^^^ e ^^^ i ^^^ m) ^^^ (b ^^^ f ^^^ j ^^^ n) ^^^ (c ^^^ g ^^^ k ^^^ o) ^^^ (d ^^^ h ^^^ l ^^^ p) := by
  ac_rfl
theorem tm4 (x a b c d : UInt8) : tm x a ^^^ tm x b ^^^ tm x c ^^^ tm x d = tm x (a ^^^ b ^^^ c ^^^ d) := by rw [tm_xor, tm_xor, tm_xor]
/-- Two such steps, one behind the other, of a column. -/
theorem col_col (f g : Nat → Nat → UInt8) (b : List UInt8) (c k : Nat) (hc : c < 4) :
    col g (tb fun i => col f b (i / 4) (i % 4)) c k =
      tm (gb b (4 * c)) (tm (f 0 0) (g 0 k) ^^^ tm (f 0 1) (g 1 k) ^^^ tm (f 0 2) (g 2 k) ^^^ tm (f 0 3) (g 3 k)) ^^^
      tm (gb b (4 * c + 1)) (tm (f 1 0) (g 0 k) ^^^ tm (f 1 1) (g 1 k) ^^^ tm (f 1 2) (g 2 k) ^^^ tm (f 1 3) (g 3 k)) ^^^
      tm (gb b (4 * c + 2)) (tm (f 2 0) (g 0 k) ^^^ tm (f 2 1) (g 1 k) ^^^ tm (f 2 2) (g 2 k) ^^^ tm (f 2 3) (g 3 k)) ^^^
      tm (gb b (4 * c + 3)) (tm (f 3 0) (g 0 k) ^^^ tm (f 3 1) (g 1 k) ^^^ tm (f 3 2) (g 2 k) ^^^ tm (f 3 3) (g 3 k)) := by
  have e0 : (4 * c) / 4 = c := by omega
  have e1 : (4 * c + 1) / 4 = c := by omega
  have e2 : (4 * c + 2) / 4 = c := by omega
  have e3 : (4 * c + 3) / 4 = c := by omega
  have m0 : (4 * c) % 4 = 0 := by omega
  have m1 : (4 * c + 1) % 4 = 1 := by omega
  have m2 : (4 * c + 2) % 4 = 2 := by omega
  have m3 : (4 * c + 3) % 4 = 3 := by omega
  rw [col, gb_tb _ _ (by omega), gb_tb _ _ (by omega), gb_tb _ _ (by omega), gb_tb _ _ (by omega), e0, e1, e2, e3, m0, m1, m2, m3]
  simp only [col, xor_tm, tm_assoc]
  rw [xor4, tm4, tm4, tm4, tm4]
theorem fac_back : (List.range 4).all (fun k => (List.range 4).all fun j =>
    (tm (fac j 0) (unfac 0 k) ^^^ tm (fac j 1) (unfac 1 k) ^^^ tm (fac j 2) (unfac 2 k) ^^^ tm (fac j 3) (unfac 3 k) == if j = k then 1 else 0) &&
    (tm (unfac j 0) (fac 0 k) ^^^ tm (unfac j 1) (fac 1 k) ^^^ tm (unfac j 2) (fac 2 k) ^^^ tm (unfac j 3) (fac 3 k) == if j = k then 1 else 0)) = true := by decide +kernel
theorem fac_unfac (j k : Nat) (hj : j < 4) (hk : k < 4) : tm (fac j 0) (unfac 0 k) ^^^ tm (fac j 1) (unfac 1 k) ^^^ tm (fac j 2) (unfac 2 k) ^^^ tm (fac j 3) (unfac 3 k) = if j = k then 1 else 0 := by
  have := List.all_eq_true.1 (List.all_eq_true.1 fac_back k (List.mem_range.2 hk)) j (List.mem_range.2 hj)
  rw [Bool.and_eq_true, beq_iff_eq] at this
  exact this.1
theorem unfac_fac (j k : Nat) (hj : j < 4) (hk : k < 4) : tm (unfac j 0) (fac 0 k) ^^^ tm (unfac j 1) (fac 1 k) ^^^ tm (unfac j 2) (fac 2 k) ^^^ tm (unfac j 3) (fac 3 k) = if j = k then 1 else 0 := by
  have := List.all_eq_true.1 (List.all_eq_true.1 fac_back k (List.mem_range.2 hk)) j (List.mem_range.2 hj)
  rw [Bool.and_eq_true, beq_iff_eq, beq_iff_eq] at this
  exact this.2
theorem one_of_four (b : List UInt8) (c k : Nat) (hk : k < 4) :
    tm (gb b (4 * c)) (if 0 = k then 1 else 0) ^^^ tm (gb b (4 * c + 1)) (if 1 = k then 1 else 0) ^^^ tm (gb b (4 * c + 2)) (if 2 = k then 1 else 0) ^^^ tm (gb b (4 * c + 3)) (if 3 = k then 1 else 0) = gb b (4 * c + k) := by
  have : k = 0 ∨ k = 1 ∨ k = 2 ∨ k = 3 := by omega
  rcases this with rfl | rfl | rfl | rfl <;> simp [tm_one, tm_zero]
theorem unmix_mix (b : List UInt8) (h : b.length = 16) : unmix (mix b) = b := tb_eq h fun i hi => by
  rw [mix, col_col _ _ _ _ _ (by omega), fac_unfac 0 _ (by omega) (by omega), fac_unfac 1 _ (by omega) (by omega), fac_unfac 2 _ (by omega) (by omega), fac_unfac 3 _ (by omega) (by omega), one_of_four _ _ _ (by omega)]
  congr 1
  omega
theorem mix_unmix (b : List UInt8) (h : b.length = 16) : mix (unmix b) = b := tb_eq h fun i hi => by
  rw [unmix, col_col _ _ _ _ _ (by omega), unfac_fac 0 _ (by omega) (by omega), unfac_fac 1 _ (by omega) (by omega), unfac_fac 2 _ (by omega) (by omega), unfac_fac 3 _ (by omega) (by omega), one_of_four _ _ _ (by omega)]
  congr 1
  omega

/-- A round's key out of all words' bytes. -/
def rk (W : List UInt8) (r : Nat) : List UInt8 := tb fun i => gb W (16 * r + i)
/-- Behind r rounds, none of them the last. -/
def going [Inhabited Field.SqTab] (W b : List UInt8) : Nat → List UInt8
  | 0 => add (rk W 0) b
  | r + 1 => add (rk W (r + 1)) (mix (rows (sub (going W b r))))
/-- WHAT A BLOCK IS SEALED AS, in R + 1 rounds. -/
def enc [Inhabited Field.SqTab] (W : List UInt8) (R : Nat) (b : List UInt8) : List UInt8 := add (rk W (R + 1)) (rows (sub (going W b R)))
theorem add_length (w b : List UInt8) : (add w b).length = 16 := tb_length _
theorem mix_length (b : List UInt8) : (mix b).length = 16 := tb_length _
theorem unmix_length (b : List UInt8) : (unmix b).length = 16 := tb_length _
theorem rows_length (b : List UInt8) : (rows b).length = 16 := tb_length _
theorem unrows_length (b : List UInt8) : (unrows b).length = 16 := tb_length _
theorem sub_length [Inhabited Field.SqTab] (b : List UInt8) : (sub b).length = 16 := tb_length _
theorem rk_length (W : List UInt8) (r : Nat) : (rk W r).length = 16 := tb_length _
theorem going_length [Inhabited Field.SqTab] (W b : List UInt8) (r : Nat) : (going W b r).length = 16 := by cases r <;> exact add_length _ _
theorem enc_length [Inhabited Field.SqTab] (W : List UInt8) (R : Nat) (b : List UInt8) : (enc W R b).length = 16 := add_length _ _
/-- A power of 02. -/
def rc : Nat → UInt8
  | 0 => 1
  | k + 1 => tm (rc k) 2
/-- The i-th word, out of those ahead of it, four bytes each, one behind the other. -/
def turned [Inhabited Field.SqTab] (n i : Nat) (t : Nat → UInt8) (k : Nat) : UInt8 :=
  if i % n = 0 then gbox (t ((k + 1) % 4)) ^^^ (if k = 0 then rc (i / n - 1) else 0)
  else if n = 8 ∧ i % 8 = 4 then gbox (t k) else t k
def nextB [Inhabited Field.SqTab] (key : List UInt8) (n : Nat) (W : List UInt8) (i k : Nat) : UInt8 :=
  if i < n then gb key (4 * i + k) else gb W (4 * (i - n) + k) ^^^ turned n i (fun k => gb W (4 * (i - 1) + k)) k
def next [Inhabited Field.SqTab] (key : List UInt8) (n : Nat) (W : List UInt8) (i : Nat) : List UInt8 := [nextB key n W i 0, nextB key n W i 1, nextB key n W i 2, nextB key n W i 3]
/-- The bytes of the first i words. -/
def words [Inhabited Field.SqTab] (key : List UInt8) (n : Nat) : Nat → List UInt8
  | 0 => []
  | i + 1 => words key n i ++ next key n (words key n i) i
theorem words_zero [Inhabited Field.SqTab] (key : List UInt8) (n : Nat) : words key n 0 = [] := rfl
theorem words_succ [Inhabited Field.SqTab] (key : List UInt8) (n i : Nat) : words key n (i + 1) = words key n i ++ next key n (words key n i) i := rfl
theorem words_length [Inhabited Field.SqTab] (key : List UInt8) (n i : Nat) : (words key n i).length = 4 * i := by
  induction i with
  | zero => rfl
  | succ i ih => rw [words_succ, List.length_append, ih]; rfl
/-- What stands once stays. -/
theorem words_at [Inhabited Field.SqTab] (key : List UInt8) (n i d j : Nat) (h : j < 4 * i) : gb (words key n (i + d)) j = gb (words key n i) j := by
  induction d with
  | zero => rfl
  | succ d ih =>
    rw [← Nat.add_assoc, words_succ, gb, List.getD, List.getElem?_append_left (by rw [words_length]; omega)]
    exact ih
/-- ALL WORDS of a key of n. -/
def allW [Inhabited Field.SqTab] (key : List UInt8) : List UInt8 := words key (key.length / 4) (4 * (key.length / 4 + 7))
theorem allW_length [Inhabited Field.SqTab] (key : List UInt8) : (allW key).length = 16 * (key.length / 4 + 7) := by rw [allW, words_length]; omega
def noughts : List UInt8 := List.replicate 16 0
theorem rc_zero : rc 0 = 1 := rfl
theorem rc_succ (k : Nat) : rc (k + 1) = tm (rc k) 2 := rfl
theorem sub_eq [Inhabited Field.SqTab] (b : List UInt8) : sub b = tb fun i => gbox (gb b i) := rfl
theorem rows_eq (b : List UInt8) : rows b = tb fun i => gb b (4 * ((i / 4 + i % 4) % 4) + i % 4) := rfl
theorem unrows_eq (b : List UInt8) : unrows b = tb fun i => gb b (4 * ((i / 4 + 4 - i % 4) % 4) + i % 4) := rfl
theorem mix_eq (b : List UInt8) : mix b = tb fun i => col fac b (i / 4) (i % 4) := rfl
theorem unmix_eq (b : List UInt8) : unmix b = tb fun i => col unfac b (i / 4) (i % 4) := rfl
theorem add_eq (w b : List UInt8) : add w b = tb fun i => gb b i ^^^ gb w i := rfl
theorem rk_eq (W : List UInt8) (r : Nat) : rk W r = tb fun i => gb W (16 * r + i) := rfl
theorem going_zero [Inhabited Field.SqTab] (W b : List UInt8) : going W b 0 = add (rk W 0) b := rfl
theorem going_succ [Inhabited Field.SqTab] (W b : List UInt8) (r : Nat) : going W b (r + 1) = add (rk W (r + 1)) (mix (rows (sub (going W b r)))) := rfl
theorem enc_eq [Inhabited Field.SqTab] (W : List UInt8) (R : Nat) (b : List UInt8) : enc W R b = add (rk W (R + 1)) (rows (sub (going W b R))) := rfl
theorem allW_eq [Inhabited Field.SqTab] (key : List UInt8) : allW key = words key (key.length / 4) (4 * (key.length / 4 + 7)) := rfl
attribute [irreducible] rc sub rows unrows mix unmix add rk going enc words allW
end Go.Proofs.Ytmmpmncioifeoaa.Aes
namespace Go.Proofs.Ytmmpmncioifeoaa.Gf
set_option linter.unusedVariables false
set_option linter.unusedSimpArgs false

/-- An additive function by the values at the single bits. -/
def tab : List Nat → Nat → Nat
  | [], _ => 0
  | c :: cs, y => (if y % 2 = 1 then c else 0) ^^^ tab cs (y / 2)
theorem half_xor (a b : Nat) : (a ^^^ b) / 2 = a / 2 ^^^ b / 2 := by
  have := Nat.shiftRight_xor_distrib (a := a) (b := b) (i := 1)
  simpa [Nat.shiftRight_eq_div_pow] using this
theorem tab_add (cs : List Nat) : Add (tab cs) := by
  induction cs with
  | nil => exact Add.none
  | cons c cs ih =>
    intro a b
    rw [tab, tab, tab, half_xor, ih, low_xor]
    rcases Nat.mod_two_eq_zero_or_one a with ha | ha <;> rcases Nat.mod_two_eq_zero_or_one b with hb | hb <;> rw [ha, hb] <;> simp [Nat.xor_assoc, xor_lc, xor_twice]

def back128 : List Nat := [54969562866131847669016652494142573320, 305526867633558886955404559995676324868, 305526867633558886955404559995676324870, 104469799312523126935073530960423461388, 305526867633558886955404559995676324866, 56734434906695435454005472259553578602, 104469799312523126935073530960423461380, 271830150077582418345900040240152313368, 305526867633558886955404559995676324882, 104470118804432205535668098632526617412, 56734434906695435454005472259553578570, 227145695117876428321601179286510436182, 104469799312523126935073530960423461444, 305967500991204419130524647600360013666, 271830150077582418345900040240152313496, 227728627380917811012951187023350445606, 305526867633558886955404559995676325138, 56815181714465587187729576693626853178, 104470118804432205535668098632526616900, 2537993204061707162883588357039153916, 56734434906695435454005472259553577546, 3012428575888700110705650160495551628, 227145695117876428321601179286510434134, 275671395948664093117384310641479295528, 104469799312523126935073530960423465540, 271915852323952067842399232303023203416, 305967500991204419130524647600360005474, 102998777379450204286412735627287799860, 271830150077582418345900040240152297112, 272209106874770544727132909282711537316, 227728627380917811012951187023350412838, 135325830696997074197434372310186257282, 305526867633558886955404559995676390674, 57232084741685004684866676497372669754, 56815181714465587187729576693626984250, 135411474552265958872087683058005180738, 104470118804432205535668098632526879044, 275757512462385460142162890854388625828, 2537993204061707162883588357039678204, 274842411402277094064293402576501149528, 56734434906695435454005472259554626122, 175382474467339210118195525752143821788, 3012428575888700110705650160497648780, 5261797816253387317062014170447638976, 227145695117876428321601179286514628438, 272210066766835802062006483639670336468, 275671395948664093117384310641470906920, 225136856268418471551472419225175749014, 104469799312523126935073530960440242756, 102164174349821125137969924442995585924, 271915852323952067842399232302989648984, 226936647763116174786496543602468507498, 305967500991204419130524647600427114338, 305532029585887981283514747020026657774, 102998777379450204286412735627422017588, 133211003395652039953403666705387164366, 271830150077582418345900040239883861656, 102148097239065330920971689869502701364, 272209106874770544727132909283248408228, 173139448164521758332819425568250980204, 227728627380917811012951187022276671014, 305961988162602755697098987302884752222, 135325830696997074197434372312333740930, 175397880387343143921058595535091746080, 305526867633558886955404559991381423378, 329634352286836299080082914081100, 57232084741685004684866676505962604346, 172705286512742171128536335012890908524, 56815181714465587187729576710806853434, 303614986222712004812458293485509624930, 135411474552265958872087683023645442370, 170536380025231687221712635462198253856, 104470118804432205535668098701246355780, 225051247907070202050589524227723711914, 275757512462385460142162890991827579300, 308170559265311564786252692292247708062, 2537993204061707162883588082161771260, 102169133813289299704984590013427707636, 274842411402277094064293402026745335640, 303326766809063102477989677003176958226, 56734434906695435454005473359066253898, 172841837191359616877872241477191677152, 175382474467339210118195523553120566236, 54888141419452711199816878900948880442, 3012428575888700110705654558544159884, 307799342647640341558117533281787318686, 5261797816253387317062022966540661184, 273119276677551945356669168913118222868, 227145695117876428321601196878700672854, 272311600527812781647585363233504111460, 272210066766835802062006518824042425300, 5181299727675599870287693023180209980, 275671395948664093117384240272726729256, 305525142620375929691910208574098026146, 225136856268418471551472278487687393686, 307772801086609188417528170053220769746, 104469799312523126935073249485463532100, 54596111748351997025280216654447342278, 102164174349821125137970487392949007236, 308164931596625094656266467235253809106, 271915852323952067842398106403082806360, 227647953955287367714133036452945544742, 226936647763116174786494291802654822250, 308170555145571807541189819739699809694, 305967500991204419130520144000799743842, 133105130754254600986622393405343152142, 305532029585887981283523754219281398766, 172410759080424577518324870893406614048, 102998777379450204286394721228912535604, 54969320214588899006126198736319185926, 133211003395652039953439695502406128334, 227375442280390979429973553919662004774, 271830150077582418345827982645845933720, 4955917326648230773508684280683823104, 102148097239065330921115805057578557236, 172885700256406002458384310923462859152, 272209106874770544726844678907096696484, 56538291399058816093646072645906817530, 173139448164521758332242964815947556716, 55418003596362017635628740176384579466, 227728627380917811014104108526883517990, 0, 305961988162602755699404830312098446174, 178356100567250831900639352525185366892, 135325830696997074202046058330761128834, 189481146061086134017106552491789565356, 175397880387343143911835223498236970272, 75361565302940573017734093940626417402]
set_option maxRecDepth 100000 in
theorem x_back : sqs 128 135 128 2 = 2 := by decide +kernel
set_option maxRecDepth 100000 in
theorem back_ok : (List.range 128).all (fun i => tab back128 (sq 128 135 (2 ^ i) ^^^ 2 ^ i) == 2 ^ i / 2 * 2) = true := by decide +kernel
/-- NO PRODUCT IS NONE BUT OF NONE. -/
theorem entire128 (a b : Nat) (ha : a < 2 ^ 128) (hb : b < 2 ^ 128) (h : mul 128 135 a b = 0) : a = 0 ∨ b = 0 := by
  by_cases h0 : a = 0
  · exact .inl h0
  · refine .inr (entire 128 135 (by decide) (by decide) x_back (tab back128) (tab_add _) (fun i hi => ?_) a b ha hb h h0)
    have := List.all_eq_true.1 back_ok i (List.mem_range.2 hi)
    exact beq_iff_eq.1 this
end Go.Proofs.Ytmmpmncioifeoaa.Gf

/- Lemmas: IdealS IdealP Fm RecD0 SegR SegS. -/
import Derived.Test.YtigdlnfgdjfdoaaGreatZK00
set_option maxHeartbeats 4000000
set_option maxRecDepth 100000
set_option linter.unusedVariables false
set_option linter.unusedSimpArgs false
namespace Go.Proofs.YtigdlnfgdjfdoaaGreat
namespace Ideal
open Kit (le le_length)
structure Thing where
 kind : UInt8
 a : List UInt8
 b : List UInt8
 c : List UInt8
 d : List UInt8
 deriving DecidableEq
def numT (w : List Thing) (t : Thing) : Nat → Nat
 | 0 => 0
 | i + 1 => if w[i]? = some t then i + 1 else numT w t i
def num (w : List Thing) (t : Thing) : Nat := numT w t w.length
theorem numT_succ (w : List Thing) (t : Thing) (i : Nat) : numT w t (i + 1) = if w[i]? = some t then i + 1 else numT w t i := rfl
theorem numT_le (w : List Thing) (t : Thing) (i : Nat) : numT w t i ≤ i := by
 induction i with
 | zero => exact Nat.le_refl _
 | succ i ih => rw [numT_succ]; split <;> omega
theorem numT_at (w : List Thing) (t : Thing) (i : Nat) (h : numT w t i ≠ 0) : w[numT w t i - 1]? = some t := by
 induction i with
 | zero => exact absurd rfl h
 | succ i ih =>
   rw [numT_succ] at h ⊢
   by_cases h1 : w[i]? = some t
   · rw [if_pos h1, Nat.add_sub_cancel]; exact h1
   · rw [if_neg h1] at h ⊢; exact ih h
theorem numT_ge (w : List Thing) (t : Thing) (i j : Nat) (hj : j < i) (h : w[j]? = some t) : j + 1 ≤ numT w t i := by
 induction i with
 | zero => omega
 | succ i ih =>
   rw [numT_succ]
   split
   · omega
   · rename_i h1
     have : j ≠ i := fun e => h1 (by rw [← e]; exact h)
     exact ih (by omega)
theorem num_le (w : List Thing) (t : Thing) : num w t ≤ w.length := numT_le _ _ _
theorem num_at (w : List Thing) (t : Thing) (h : num w t ≠ 0) : w[num w t - 1]? = some t := numT_at _ _ _ h
theorem num_none (w : List Thing) (t : Thing) : num w t = 0 ↔ t ∉ w := by
 constructor
 · intro h hm
   obtain ⟨j, hj, e⟩ := List.mem_iff_getElem.1 hm
   have := numT_ge w t w.length j hj (by rw [List.getElem?_eq_getElem hj, e])
   unfold num at h; omega
 · intro h
   apply Decidable.byContradiction
   intro h1
   exact h (List.mem_of_getElem? (num_at w t h1))
theorem num_inj (w : List Thing) {t u : Thing} (h : num w t = num w u) (ht : t ∈ w) : t = u := by
 have h1 : num w t ≠ 0 := fun e => (num_none w t).1 e ht
 have h2 := num_at w t h1
 have h3 := num_at w u (by rw [← h]; exact h1)
 rw [← h, h2] at h3
 exact Option.some.inj h3
def mk (w : List Thing) (t : Thing) : List Thing := if num w t = 0 then w ++ [t] else w
theorem mk_new (w : List Thing) (t : Thing) (h : t ∉ w) : mk w t = w ++ [t] := if_pos ((num_none w t).2 h)
theorem mk_old (w : List Thing) (t : Thing) (h : t ∈ w) : mk w t = w := if_neg (fun e => (num_none w t).1 e h)
theorem mk_mem (w : List Thing) (t : Thing) : t ∈ mk w t := by
 by_cases h : t ∈ w
 · rw [mk_old w t h]; exact h
 · rw [mk_new w t h]; simp
theorem mk_sub (w : List Thing) (t : Thing) {u : Thing} (h : u ∈ w) : u ∈ mk w t := by
 unfold mk; split
 · exact List.mem_append_left _ h
 · exact h
theorem mem_mk (w : List Thing) (t u : Thing) : u ∈ mk w t ↔ u = t ∨ u ∈ w := by
 constructor
 · intro h
   by_cases ht : t ∈ w
   · rw [mk_old w t ht] at h; exact .inr h
   · rw [mk_new w t ht] at h
     rcases List.mem_append.1 h with h | h
     · exact .inr h
     · exact .inl (List.mem_singleton.1 h)
 · rintro (rfl | h)
   · exact mk_mem _ _
   · exact mk_sub _ _ h
theorem mk_length_le (w : List Thing) (t : Thing) : (mk w t).length ≤ w.length + 1 := by
 unfold mk; split
 · simp
 · omega
theorem numT_append (w v : List Thing) (t : Thing) (i : Nat) (h : i ≤ w.length) : numT (w ++ v) t i = numT w t i := by
 induction i with
 | zero => rfl
 | succ i ih => rw [numT_succ, numT_succ, List.getElem?_append_left (by omega), ih (by omega)]
theorem num_new (w : List Thing) (t : Thing) (h : t ∉ w) : num (mk w t) t = w.length + 1 := by
 rw [mk_new w t h, num, List.length_append]
 show numT (w ++ [t]) t (w.length + 1) = _
 rw [numT_succ, if_pos (by simp)]
theorem num_stays (w : List Thing) (t u : Thing) (h : u ∈ w) : num (mk w t) u = num w u := by
 by_cases ht : t ∈ w
 · rw [mk_old w t ht]
 · have hne : u ≠ t := fun e => ht (e ▸ h)
   rw [mk_new w t ht, num, List.length_append]
   show numT (w ++ [t]) u (w.length + 1) = _
   rw [numT_succ, if_neg (by simp; exact fun e => hne e.symm), numT_append w [t] u w.length (Nat.le_refl _), num]
theorem num_pos (w : List Thing) (t : Thing) : num (mk w t) t ≠ 0 := fun e => (num_none _ _).1 e (mk_mem w t)
def tok (k : UInt8) (number n : Nat) : List UInt8 := le 8 number ++ [k] ++ List.replicate (n - 9) 0xee
theorem tok_length (k : UInt8) (number n : Nat) (h : 9 ≤ n) : (tok k number n).length = n := by
 simp only [tok, List.length_append, le_length, List.length_replicate, List.length_singleton]; omega
theorem tok_inj {k k' : UInt8} {x y n m : Nat} (hx : x < 256 ^ 8) (hy : y < 256 ^ 8) (h : tok k x n = tok k' y m) : k = k' ∧ x = y := by
 simp only [tok, List.append_assoc] at h
 obtain ⟨h1, h2⟩ := List.append_inj h (by rw [le_length, le_length])
 refine ⟨by simpa using (List.cons.inj h2).1, ?_⟩
 have := congrArg Kit.lowN h1
 rw [Kit.lowN_le, Kit.lowN_le, Nat.mod_eq_of_lt hx, Nat.mod_eq_of_lt hy] at this
 exact this
def out (w : List Thing) (t : Thing) (n : Nat) : List UInt8 := tok t.kind (num (mk w t) t) n
end Ideal
namespace Ideal
open Go Go.RowKit Kit
def sealT (key nonce aad text : List UInt8) : Thing := ⟨83, key, nonce, aad, text⟩
def fits (ts : List Thing) (key nonce aad b : List UInt8) (t : Thing) : Bool := t.kind == 83 && (t.a == key && (t.b == nonce && (t.c == aad && out ts t (t.d.length + 16) == b)))
def opn (ts : List Thing) (key nonce aad b : List UInt8) : Option (List UInt8) := (ts.find? (fits ts key nonce aad b)).map (·.d)
theorem fits_iff (ts : List Thing) (key nonce aad b : List UInt8) (t : Thing) : fits ts key nonce aad b t = true ↔ t = sealT key nonce aad t.d ∧ out ts t (t.d.length + 16) = b := by
 obtain ⟨k, x, y, z, d⟩ := t
 simp only [fits, sealT, Bool.and_eq_true, beq_iff_eq, Thing.mk.injEq, and_true]
 constructor
 · rintro ⟨rfl, rfl, rfl, rfl, h⟩; exact ⟨⟨rfl, rfl, rfl, rfl⟩, h⟩
 · rintro ⟨⟨rfl, rfl, rfl, rfl⟩, h⟩; exact ⟨rfl, rfl, rfl, rfl, h⟩
theorem out_old (ts : List Thing) (t : Thing) (n : Nat) (h : t ∈ ts) : out ts t n = tok t.kind (num ts t) n := by rw [out, mk_old ts t h]
theorem opn_iff (ts : List Thing) (key nonce aad b d : List UInt8) (hw : ts.length < 1000000) : opn ts key nonce aad b = some d ↔ sealT key nonce aad d ∈ ts ∧ out ts (sealT key nonce aad d) (d.length + 16) = b := by
 have key1 : ∀ t, ts.find? (fits ts key nonce aad b) = some t → t ∈ ts ∧ t = sealT key nonce aad t.d ∧ out ts t (t.d.length + 16) = b := fun t h => ⟨List.mem_of_find?_eq_some h, (fits_iff ts key nonce aad b t).1 (List.find?_some h)⟩
 constructor
 · intro h
   simp only [opn, Option.map_eq_some_iff] at h
   obtain ⟨t, ht, rfl⟩ := h
   obtain ⟨h1, h2, h3⟩ := key1 t ht
   rw [← h2]; exact ⟨h1, h3⟩
 · rintro ⟨h1, h2⟩
   cases hq : ts.find? (fits ts key nonce aad b) with
   | none => exact absurd ((fits_iff ts key nonce aad b _).2 ⟨rfl, h2⟩) (by simpa using List.find?_eq_none.1 hq _ h1)
   | some t =>
     obtain ⟨h3, h4, h5⟩ := key1 t hq
     rw [out_old _ _ _ h3] at h5
     rw [out_old _ _ _ h1] at h2
     have l1 := num_le ts t; have l2 := num_le ts (sealT key nonce aad d)
     have := (tok_inj (by omega) (by omega) (h5.trans h2.symm)).2
     have e := num_inj ts this h3
     rw [opn, hq, e]; rfl
theorem out_length (ts : List Thing) (t : Thing) (n : Nat) (h : 9 ≤ n) : (out ts t n).length = n := tok_length _ _ _ h
end Ideal
namespace Kit
open Go Go.RowKit
section
variable {α : Type} {f : α → List Value} {k : Nat}
theorem fm_length (xs : List α) (h : ∀ a ∈ xs, (f a).length = k) : (xs.flatMap f).length = xs.length * k := by
 induction xs with
 | nil => simp
 | cons x xs ih =>
   rw [List.flatMap_cons, List.length_append, h x (by simp), ih (fun a ha => h a (by simp [ha])), List.length_cons, Nat.add_mul, Nat.one_mul, Nat.add_comm]
theorem fm_at (xs : List α) (h : ∀ a ∈ xs, (f a).length = k) (i j : Nat) (x : α) (hx : xs[i]? = some x) (hj : j < k) : (xs.flatMap f)[i * k + j]? = (f x)[j]? := by
 induction xs generalizing i with
 | nil => cases hx
 | cons a xs ih =>
   have ha : (f a).length = k := h a (by simp)
   rw [List.flatMap_cons]
   cases i with
   | zero =>
     simp only [List.getElem?_cons_zero, Option.some.injEq] at hx
     subst hx
     rw [List.getElem?_append_left (by omega)]; congr 1; omega
   | succ i =>
     rw [List.getElem?_append_right (by rw [ha, Nat.succ_mul]; omega), ha]
     rw [List.getElem?_cons_succ] at hx
     rw [show (i + 1) * k + j - k = i * k + j by rw [Nat.succ_mul]; omega]
     exact ih (fun a ha => h a (by simp [ha])) i hx
theorem fm_part (xs : List α) (h : ∀ a ∈ xs, (f a).length = k) (i : Nat) (x : α) (hx : xs[i]? = some x) (j : Nat) (v : Value) (hv : (f x)[j]? = some v) : (xs.flatMap f)[i * k + j]? = some v := by
 have hj : j < k := by
  have := (List.getElem?_eq_some_iff.1 hv).1
  rwa [h x (List.mem_of_getElem? hx)] at this
 rw [fm_at xs h i j x hx hj]; exact hv
theorem fm_take (xs : List α) (h : ∀ a ∈ xs, (f a).length = k) (i : Nat) : (xs.flatMap f).take (i * k) = (xs.take i).flatMap f := by
 induction xs generalizing i with
 | nil => simp
 | cons a xs ih =>
   have ha : (f a).length = k := h a (by simp)
   cases i with
   | zero => simp
   | succ i =>
     rw [List.flatMap_cons, List.take_succ_cons, List.flatMap_cons, List.take_append, ha, show (i + 1) * k - k = i * k by rw [Nat.succ_mul]; omega, ih (fun a ha => h a (by simp [ha])), List.take_of_length_le (by rw [ha, Nat.succ_mul]; omega)]
theorem fm_drop (xs : List α) (h : ∀ a ∈ xs, (f a).length = k) (i : Nat) : (xs.flatMap f).drop (i * k) = (xs.drop i).flatMap f := by
 induction xs generalizing i with
 | nil => simp
 | cons a xs ih =>
   have ha : (f a).length = k := h a (by simp)
   cases i with
   | zero => simp
   | succ i =>
     rw [List.flatMap_cons, List.drop_succ_cons, List.drop_append, ha, show (i + 1) * k - k = i * k by rw [Nat.succ_mul]; omega, ih (fun a ha => h a (by simp [ha])), List.drop_of_length_le (by rw [ha, Nat.succ_mul]; omega), List.nil_append]
theorem fm_set (xs : List α) (h : ∀ a ∈ xs, (f a).length = k) (i : Nat) (y : α) (hi : i < xs.length) (hy : (f y).length = k) : splice (xs.flatMap f) (i * k) (f y) = (xs.set i y).flatMap f := by
 rw [splice, fm_take xs h, hy, show i * k + k = (i + 1) * k by rw [Nat.succ_mul], fm_drop xs h, List.set_eq_take_append_cons_drop, if_pos hi, List.flatMap_append, List.flatMap_cons]
end
end Kit
namespace Rec
open Go Go.RowKit Kit
def rcells (r : Rec) : List Value := [.int .i64 r.kind, .int .i64 r.queue, .int .i64 r.id, .int .i64 r.num, .int .i64 r.wait, .string (str r.body)]
def Rrow (w : World) (A : Option Addr) (rs : List Rec) : Prop := Row w A (rs.flatMap rcells)
theorem rcells_length (r : Rec) : (rcells r).length = 6 := rfl
theorem rcells_one (r : Rec) : ∀ u ∈ rcells r, u.oneCell' = true := by
 intro u hu
 simp only [rcells, List.mem_cons, List.not_mem_nil, or_false] at hu
 rcases hu with rfl | rfl | rfl | rfl | rfl | rfl <;> rfl
theorem rec_size (r : Rec) : (Tryz.prog.info? 67).map (·.size) = some (rcells r).length := by rw [rcells_length]; kernel_rfl
theorem Rrow.at_ {w : World} {A : Option Addr} {rs : List Rec} (h : Rrow w A rs) {i : Nat} (hi : i < rs.length) : ∃ b o, A = some ⟨b, o, none⟩ ∧ b < w.heap.size ∧
    w.cell? ⟨b, o + i * 6, none⟩ = some (.int .i64 rs[i].kind) ∧ w.cell? ⟨b, o + i * 6 + 1, none⟩ = some (.int .i64 rs[i].queue) ∧ w.cell? ⟨b, o + i * 6 + 2, none⟩ = some (.int .i64 rs[i].id) ∧
    w.cell? ⟨b, o + i * 6 + 3, none⟩ = some (.int .i64 rs[i].num) ∧ w.cell? ⟨b, o + i * 6 + 4, none⟩ = some (.int .i64 rs[i].wait) ∧ w.cell? ⟨b, o + i * 6 + 5, none⟩ = some (.string (str rs[i].body)) := by
 rcases h with h | ⟨b, o, rfl, hb, hc⟩
 · have := congrArg List.length h
   rw [fm_length (k := 6) rs (fun a _ => rcells_length a)] at this
   simp only [List.length_nil] at this; omega
 · have H : ∀ j, j < 6 → w.cell? ⟨b, o + i * 6 + j, none⟩ = (rcells rs[i])[j]? := by
     intro j hj
     have e := fm_at (k := 6) rs (fun a _ => rcells_length a) i j rs[i] (List.getElem?_eq_getElem hi) hj
     rw [Nat.add_assoc]
     cases hu : (rcells rs[i])[j]? with
     | none => rw [List.getElem?_eq_none_iff] at hu; rw [rcells_length] at hu; omega
     | some u => rw [hu] at e; exact hc _ _ e
   exact ⟨b, o, rfl, hb, H 0 (by omega), H 1 (by omega), H 2 (by omega), H 3 (by omega), H 4 (by omega), H 5 (by omega)⟩
theorem Rrow.keep0 {w w' : World} {A : Option Addr} {rs : List Rec} (h : Rrow w A rs) (k : Kp nob w w') : Rrow w' A rs := Row.keep0 h k
def total (rs : List Rec) : Nat := (rs.map fun r => 36 + r.body.length).sum
theorem total_snoc (rs : List Rec) (k : Nat) (h : k < rs.length) : total (rs.take (k + 1)) = total (rs.take k) + (36 + rs[k].body.length) := by
 rw [List.take_add_one, List.getElem?_eq_getElem h]
 simp only [total, Option.toList_some, List.map_append, List.map_cons, List.map_nil, List.sum_append, List.sum_cons, List.sum_nil, Nat.add_zero]
theorem total_take (rs : List Rec) (k : Nat) : total (rs.take k) ≤ total rs := by
 conv => rhs; rw [← List.take_append_drop k rs]
 simp only [total, List.map_append, List.sum_append]
 omega
def greatR (rs : List Rec) (most : Int) : Bool := rs.any (fun r => decide (4096 < r.body.length)) || decide (most < (rs.length : Int))
theorem great_any (A : Option Addr) (m d : Nat) (rs : List Rec) (most : Int) (w : World) (hm : rs.length = m) (hp : Rrow w A rs) (hd : m ≤ maxLen) :
    Calls Tryz.prog 25 #[.slice A m d, .int .i64 most] w fun e w' => e = .returned (.bool (greatR rs most)) ∧ Kp nob w w' := by
 unfold maxLen at hd
 go_enter Tryz.func25, Tryz.ntmps25
 go_wp2
 go_loopw [9] (fun i wr => ∃ k : Nat, k ≤ m ∧ i = .int .i64 k ∧ (∀ r ∈ rs.take k, r.body.length ≤ 4096) ∧ Kp nob w wr)
  (fun i _ => m - (intOf i).toNat)
 case atStart => exact ⟨0, Nat.zero_le _, rfl, by simp, Kp.refl _ _⟩
 case round =>
  obtain ⟨k, hk, rfl, ht, kr⟩ := hrel
  by_cases hlt : k < m
  · obtain ⟨bb, oo, rfl, hbb, hc0, hc1, hc2, hc3, hc4, hc5⟩ := (hp.keep0 kr).at_ (i := k) (by omega)
    have hmem : rs[k]'(by omega) ∈ rs := List.getElem_mem _
    have hsn : rs.take (k + 1) = rs.take k ++ [rs[k]'(by omega)] := by rw [List.take_add_one, List.getElem?_eq_getElem (by omega)]; rfl
    obtain ⟨p, hpe⟩ : ∃ p, p = rs[k]'(by omega) := ⟨_, rfl⟩
    rw [← hpe] at hc0 hc1 hc2 hc3 hc4 hc5 hmem hsn
    have H1 := Lib.hid hpe; have H3 := Lib.hid hsn; have H4 := Lib.hid hmem; have H5 := Lib.hid ht
    clear hpe hsn hmem ht
    by_cases hg : 4096 < p.body.length
    · have hgb : decide ((4096 : Int) < (p.body.length : Int)) = true := by simp; omega
      go_wp2
      go_ret
      have : greatR rs most = true := by
       unfold greatR
       rw [List.any_eq_true.2 ⟨p, H4.out, by simpa using hg⟩]; rfl
      rw [this]
      exact ⟨rfl, kr.alloc _⟩
    · have hgb : decide ((4096 : Int) < (p.body.length : Int)) = false := by simp; omega
      go_wp2
      go_roundw
      case rel =>
       refine ⟨k + 1, by omega, by go_num, ?_, kr.alloc _⟩
       rw [H3.out]
       intro r hr
       rcases List.mem_append.1 hr with hr | hr
       · exact H5.out r hr
       · rw [List.mem_singleton.1 hr]; omega
      case measure => simp [intOf]; omega
  · obtain rfl : k = m := by omega
    rw [List.take_of_length_le (by omega)] at ht
    have HT := Lib.hid ht; clear ht
    go_wp2
    go_ret
    have : greatR rs most = decide (most < (k : Int)) := by
     unfold greatR
     rw [hm, Bool.or_eq_right_iff_imp]
     intro e
     obtain ⟨r, h1, h2⟩ := List.any_eq_true.1 e
     have := HT.out r h1
     simp at h2; omega
    rw [this]
    exact ⟨rfl, kr⟩
def ftot (rs : List Rec) : Nat := 48 + (rs.map fun r => 63 + r.body.length).sum
theorem ftot_nil : ftot [] = 48 := rfl
theorem ftot_snoc (rs : List Rec) (k : Nat) (h : k < rs.length) : ftot (rs.take (k + 1)) = ftot (rs.take k) + 63 + rs[k].body.length := by
 rw [List.take_add_one, List.getElem?_eq_getElem h]
 simp only [ftot, Option.toList_some, List.map_append, List.map_cons, List.map_nil, List.sum_append, List.sum_cons, List.sum_nil, Nat.add_zero]
 omega
theorem ftot_take (rs : List Rec) (k : Nat) : ftot (rs.take k) ≤ ftot rs := by
 conv => rhs; rw [← List.take_append_drop k rs]
 simp only [ftot, List.map_append, List.sum_append]
 omega
def fsec (rs : List Rec) : Nat := (ftot rs + 255) / 256
def spl1 (q : List (List Rec) × List Rec) (r : Rec) : List (List Rec) × List Rec := if q.2 ≠ [] ∧ 16384 < ftot (q.2 ++ [r]) then (q.1 ++ [q.2], [r]) else (q.1, q.2 ++ [r])
def splA (rs : List Rec) : List (List Rec) × List Rec := rs.foldl spl1 ([], [])
def split (rs : List Rec) : List (List Rec) := if (splA rs).2 = [] then (splA rs).1 else (splA rs).1 ++ [(splA rs).2]
theorem splA_nil : splA [] = ([], []) := rfl
theorem spl1_empty (q : List (List Rec) × List Rec) (r : Rec) (h : q.2 = []) : spl1 q r = (q.1, q.2 ++ [r]) := if_neg (fun e => e.1 h)
theorem spl1_few (q : List (List Rec) × List Rec) (r : Rec) (h : ftot (q.2 ++ [r]) ≤ 16384) : spl1 q r = (q.1, q.2 ++ [r]) := if_neg (fun e => by omega)
theorem spl1_many (q : List (List Rec) × List Rec) (r : Rec) (h0 : q.2 ≠ []) (h : 16384 < ftot (q.2 ++ [r])) : spl1 q r = (q.1 ++ [q.2], [r]) := if_pos ⟨h0, h⟩
theorem spl1_flat (q : List (List Rec) × List Rec) (r : Rec) : (spl1 q r).1.flatten ++ (spl1 q r).2 = q.1.flatten ++ q.2 ++ [r] := by
 unfold spl1; split <;> simp
theorem splA_flat (rs : List Rec) : (splA rs).1.flatten ++ (splA rs).2 = rs := by
 have h : ∀ (l : List Rec) (q : List (List Rec) × List Rec), (l.foldl spl1 q).1.flatten ++ (l.foldl spl1 q).2 = q.1.flatten ++ q.2 ++ l := by
  intro l
  induction l with
  | nil => intro q; simp
  | cons r l ih => intro q; rw [List.foldl_cons, ih, spl1_flat]; simp
 have := h rs ([], [])
 simpa [splA] using this
theorem split_flat (rs : List Rec) : (split rs).flatten = rs := by
 have h := splA_flat rs
 unfold split
 split
 · rename_i e; rw [e] at h; simpa using h
 · simpa using h
theorem ftot_append (a b : List Rec) : ftot (a ++ b) + 48 = ftot a + ftot b := by
 simp [ftot]; omega
end Rec
end Go.Proofs.YtigdlnfgdjfdoaaGreat

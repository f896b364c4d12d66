/- Rows of records: the code's Size, the document's Great. -/
import Derived.Test.YtadhhnlolnnkhaaRecC
import Derived.Test.YtadhhnlolnnkhaaFm
namespace Go.Proofs.Ytadhhnlolnnkhaa.Rec
set_option linter.unusedVariables false
set_option linter.unusedSimpArgs false
open Go Go.RowKit Kit

/-- The slice '.slice A rs.length c' reads these records. -/
def Rrow (w : World) (A : Option Addr) (rs : List Rec) : Prop := Row w A (rs.flatMap rcells)
theorem rcells_length (r : Rec) : (rcells r).length = 6 := rfl
theorem Rrow.at_ {w : World} {A : Option Addr} {rs : List Rec} (h : Rrow w A rs) {i : Nat} (hi : i < rs.length) : ∃ b o, A = some ⟨b, o, none⟩ ∧ b < w.heap.size ∧
    w.cell? ⟨b, o + i * 6, none⟩ = some (.int .i64 rs[i].kind) ∧ w.cell? ⟨b, o + i * 6 + 1, none⟩ = some (.int .i64 rs[i].queue) ∧ w.cell? ⟨b, o + i * 6 + 2, none⟩ = some (.int .i64 rs[i].id) ∧
    w.cell? ⟨b, o + i * 6 + 3, none⟩ = some (.int .i64 rs[i].num) ∧ w.cell? ⟨b, o + i * 6 + 4, none⟩ = some (.int .i64 rs[i].wait) ∧ w.cell? ⟨b, o + i * 6 + 5, none⟩ = some (.string (str rs[i].body)) := by
  rcases h with h | ⟨b, o, rfl, hb, hc⟩
  · have := congrArg List.length h
    rw [fm_length (k := 6) rs (fun a _ => rcells_length a)] at this
    simp only [List.length_nil] at this; omega
  · have H : ∀ j, j < 6 → w.cell? ⟨b, o + i * 6 + j, none⟩ = (rcells rs[i])[j]? := by
      intro j hj
      have e := fm_at (k := 6) rs (fun a _ => rcells_length a) i j rs[i] (List.getElem?_eq_getElem hi) hj
      rw [Nat.add_assoc]
      cases hu : (rcells rs[i])[j]? with
      | none => rw [List.getElem?_eq_none_iff] at hu; rw [rcells_length] at hu; omega
      | some u => rw [hu] at e; exact hc _ _ e
    exact ⟨b, o, rfl, hb, H 0 (by omega), H 1 (by omega), H 2 (by omega), H 3 (by omega), H 4 (by omega), H 5 (by omega)⟩
theorem Rrow.keep0 {w w' : World} {A : Option Addr} {rs : List Rec} (h : Rrow w A rs) (k : Kp nob w w') : Rrow w' A rs := Row.keep0 h k
def total (rs : List Rec) : Nat := (rs.map fun r => 36 + r.body.length).sum
theorem total_snoc (rs : List Rec) (k : Nat) (h : k < rs.length) : total (rs.take (k + 1)) = total (rs.take k) + (36 + rs[k].body.length) := by
  rw [List.take_add_one, List.getElem?_eq_getElem h]
  simp only [total, Option.toList_some, List.map_append, List.map_cons, List.map_nil, List.sum_append, List.sum_cons, List.sum_nil, Nat.add_zero]
theorem total_take (rs : List Rec) (k : Nat) : total (rs.take k) ≤ total rs := by
  conv => rhs; rw [← List.take_append_drop k rs]
  simp only [total, List.map_append, List.sum_append]
  omega

set_option maxHeartbeats 1000000 in
set_option maxRecDepth 100000 in
theorem size_any (A : Option Addr) (m d : Nat) (rs : List Rec) (w : World) (hm : rs.length = m) (hp : Rrow w A rs) (hT : total rs ≤ 1099511627776) (hd : m ≤ maxLen) :
    Calls Try.prog 14 #[.slice A m d] w fun e w' => e = .returned (.int .i64 (total rs : Nat)) ∧ Kp nob w w' := by
  unfold maxLen at hd
  go_enter Try.func14, Try.ntmps14
  go_wp2
  go_loopw [3, 8] (fun t i wr => ∃ k : Nat, k ≤ m ∧ i = .int .i64 k ∧ t = .int .i64 (total (rs.take k) : Nat) ∧ Kp nob w wr)
    (fun _ i _ => m - (intOf i).toNat)
  case atStart => exact ⟨0, Nat.zero_le _, rfl, rfl, Kp.refl _ _⟩
  case round =>
    obtain ⟨k, hk, rfl, rfl, kr⟩ := hrel
    by_cases hlt : k < m
    · obtain ⟨bb, oo, rfl, hbb, hc0, hc1, hc2, hc3, hc4, hc5⟩ := (hp.keep0 kr).at_ (i := k) (by omega)
      have hsn := total_snoc rs k (by omega)
      have htk := total_take rs (k + 1)
      obtain ⟨p, hpe⟩ : ∃ p, p = rs[k]'(by omega) := ⟨_, rfl⟩
      rw [← hpe] at hc0 hc1 hc2 hc3 hc4 hc5 hsn
      obtain ⟨T, hTe⟩ : ∃ T, T = total (rs.take k) := ⟨_, rfl⟩
      rw [← hTe] at hsn ⊢
      have hb1 : (T : Int) + (36 + (p.body.length : Int)) ≤ 9223372036854775807 := by omega
      have H1 := Lib.hid hpe; have H2 := Lib.hid hTe; have H3 := Lib.hid hsn; have H4 := Lib.hid htk; have H5 := Lib.hid hT
      clear hpe hTe hsn htk
      go_wp2
      go_roundw
      case rel => exact ⟨k + 1, by omega, by go_num, by rw [H3.out]; go_num, kr.alloc _⟩
      case measure => simp [intOf]; omega
    · obtain rfl : k = m := by omega
      rw [List.take_of_length_le (by omega)]
      go_wp2
      go_ret
      exact ⟨rfl, kr⟩
def greatR (rs : List Rec) (most : Int) : Bool := rs.any (fun r => decide (4096 < r.body.length)) || decide (most < (rs.length : Int))

set_option maxHeartbeats 1000000 in
set_option maxRecDepth 100000 in
theorem great_any (A : Option Addr) (m d : Nat) (rs : List Rec) (most : Int) (w : World) (hm : rs.length = m) (hp : Rrow w A rs) (hd : m ≤ maxLen) :
    Calls Try.prog 10 #[.slice A m d, .int .i64 most] w fun e w' => e = .returned (.bool (greatR rs most)) ∧ Kp nob w w' := by
  unfold maxLen at hd
  go_enter Try.func10, Try.ntmps10
  go_wp2
  go_loopw [9] (fun i wr => ∃ k : Nat, k ≤ m ∧ i = .int .i64 k ∧ (∀ r ∈ rs.take k, r.body.length ≤ 4096) ∧ Kp nob w wr)
    (fun i _ => m - (intOf i).toNat)
  case atStart => exact ⟨0, Nat.zero_le _, rfl, by simp, Kp.refl _ _⟩
  case round =>
    obtain ⟨k, hk, rfl, ht, kr⟩ := hrel
    by_cases hlt : k < m
    · obtain ⟨bb, oo, rfl, hbb, hc0, hc1, hc2, hc3, hc4, hc5⟩ := (hp.keep0 kr).at_ (i := k) (by omega)
      have hmem : rs[k]'(by omega) ∈ rs := List.getElem_mem _
      have hsn : rs.take (k + 1) = rs.take k ++ [rs[k]'(by omega)] := by rw [List.take_add_one, List.getElem?_eq_getElem (by omega)]; rfl
      obtain ⟨p, hpe⟩ : ∃ p, p = rs[k]'(by omega) := ⟨_, rfl⟩
      rw [← hpe] at hc0 hc1 hc2 hc3 hc4 hc5 hmem hsn
      have H1 := Lib.hid hpe; have H3 := Lib.hid hsn; have H4 := Lib.hid hmem; have H5 := Lib.hid ht
      clear hpe hsn hmem ht
      by_cases hg : 4096 < p.body.length
      · have hgb : decide ((4096 : Int) < (p.body.length : Int)) = true := by simp; omega
        go_wp2
        go_ret
        have : greatR rs most = true := by
          unfold greatR
          rw [List.any_eq_true.2 ⟨p, H4.out, by simpa using hg⟩]; rfl
        rw [this]
        exact ⟨rfl, kr.alloc _⟩
      · have hgb : decide ((4096 : Int) < (p.body.length : Int)) = false := by simp; omega
        go_wp2
        go_roundw
        case rel =>
          refine ⟨k + 1, by omega, by go_num, ?_, kr.alloc _⟩
          rw [H3.out]
          intro r hr
          rcases List.mem_append.1 hr with hr | hr
          · exact H5.out r hr
          · rw [List.mem_singleton.1 hr]; omega
        case measure => simp [intOf]; omega
    · obtain rfl : k = m := by omega
      rw [List.take_of_length_le (by omega)] at ht
      have HT := Lib.hid ht; clear ht
      go_wp2
      go_ret
      have : greatR rs most = decide (most < (k : Int)) := by
        unfold greatR
        rw [hm, Bool.or_eq_right_iff_imp]
        intro e
        obtain ⟨r, h1, h2⟩ := List.any_eq_true.1 e
        have := HT.out r h1
        simp at h2; omega
      rw [this]
      exact ⟨rfl, kr⟩
end Go.Proofs.Ytadhhnlolnnkhaa.Rec

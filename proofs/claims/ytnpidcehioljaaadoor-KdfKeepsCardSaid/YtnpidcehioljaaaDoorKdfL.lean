/- What the statements of layer 4 play: pieces in one; a derivation that is published. -/
import Derived.Test.YtnpidcehioljaaaDoorKdfD
import Derived.BigQuiet
import Derived.Deep.QuietTactic
namespace Go.Proofs.YtnpidcehioljaaaDoor.Kdf
open Go Go.RowKit Kit
open Sha (Tabs Far Has Pc PcsOk catP catP_snoc catP_le u8s_under arr32b u8s_info row_marked u8_string conv_row)
open Hmac (mac mac_length ik ik_length MacIs)

/-- What comes of pieces in one. -/
def Joined (m : Nat) (ps : List Pc) (e : Ending) : Prop := ∃ (b : Bool) (s : List UInt8), e = .returned (.tuple #[.string (str s), .bool b]) ∧ (b = true → s = catP ps ∧ s.length ≤ 1024 ∧ m ≤ 30)

set_option maxHeartbeats 1000000 in
theorem joined_any (B : Option Addr) (m d : Nat) (ps : List Pc) (w : World) (hm : ps.length = m) (hrp : Row w B (ps.map Pc.v)) (hmm : m ≤ maxLen) (hp : PcsOk w nob ps) (hn : ∀ p ∈ ps, p.n ≤ 140737488355328) :
    Calls Tryd.prog 8 #[.slice B m d] w fun e w' => Joined m ps e ∧ w = w' := by
  unfold maxLen at hmm
  by_cases h30 : m ≤ 30
  · have d1 : decide ((30 : Int) < (m : Int)) = false := by simp; omega
    go_enter Tryd.func8, Tryd.ntmps8
    go_wp2
    go_loop [4, 12] (fun vs vi => ∃ k : Nat, k ≤ m ∧ vi = .int .i64 k ∧ vs = .string (str (catP (ps.take k))) ∧ (catP (ps.take k)).length ≤ 1024)
      (fun _ vi => m - (intOf vi).toNat)
    case atStart => exact ⟨0, by omega, rfl, rfl, by simp [catP]⟩
    case round =>
      obtain ⟨k, hk, rfl, rfl, hle⟩ := hrel
      by_cases hlt : k < m
      · obtain ⟨p, hpk⟩ : ∃ p, p = ps[k]'(by omega) := ⟨_, rfl⟩
        obtain ⟨bb, oo, rfl, hbb, hcell⟩ := hrp.at_ (i := k) (by simp [hm]; exact hlt)
        have hce : w.cell? ⟨bb, oo + k, none⟩ = some (.slice p.A p.n p.c) := by rw [hcell, hpk]; simp [Pc.v]
        obtain ⟨q1, q2, q3, q4, q5⟩ := hp p (by rw [hpk]; exact List.getElem_mem _)
        have qn := hn p (by rw [hpk]; exact List.getElem_mem _)
        have hsn := catP_snoc ps k (by omega)
        rw [← hpk] at hsn
        have hcv := conv_row w p.A p.n p.c p.l q1 q2
        have hln : (catP (ps.take (k + 1))).length = (catP (ps.take k)).length + p.n := by rw [hsn, List.length_append, q1]
        obtain ⟨X, hX⟩ : ∃ X, X = catP (ps.take k) := ⟨_, rfl⟩
        rw [← hX] at hle hln hsn ⊢
        have HS := Lib.hid hsn; have HLN := Lib.hid hln
        have HQ := Lib.hid q1
        clear hsn hpk hcell hln q2 hX
        by_cases hb2 : X.length + p.n ≤ 1024
        · have hcat : X.length + p.l.length ≤ 9223372036854775807 := by omega
          clear q1
          go_wp2
          go_round
          case rel => exact ⟨k + 1, by omega, by go_num, by rw [HS.out], by rw [HLN.out]; exact hb2⟩
          case measure => simp [intOf]; omega
        · go_wp2
          go_ret2
          exact ⟨⟨false, [], rfl, fun e => by cases e⟩, rfl⟩
      · have hall : ps.take k = ps := List.take_of_length_le (by omega)
        rw [hall] at hle ⊢
        go_wp2
        go_ret2
        exact ⟨⟨true, _, rfl, fun _ => ⟨rfl, hle, h30⟩⟩, rfl⟩
  · have d1 : decide ((30 : Int) < (m : Int)) = true := by simp; omega
    go_enter Tryd.func8, Tryd.ntmps8
    go_wp2
    go_ret2
    exact ⟨⟨false, [], rfl, fun e => by cases e⟩, rfl⟩

theorem derived42 : ∃ D : List UInt8, out (mac [] ikm) [] 42 = D ∧ D.length = 42 ∧ D[0]? = some 141 ∧ D[1]? = some 164 ∧ D[41]? = some 200 := by
  have h := published
  refine ⟨_, rfl, ?_⟩
  rw [show (42 : Int) = ((42 : Nat) : Int) from rfl, out_ok _ _ 42 (by omega)]
  exact ⟨expand_length _ _ _, h.1, h.2.1, h.2.2⟩
theorem err42 : err 42 = 0 := err_ok 42 (by omega)
set_option maxHeartbeats 1000000 in
set_option maxRecDepth 100000 in
theorem alive_yes (w : World) (ht : Tabs w) : Calls Tryd.prog 7 #[] w fun e w' => e = .returned (.bool true) ∧ Kp nob w w' := by
  obtain ⟨D, hD, hl, g0, g1, g2⟩ := derived42
  have HD := Lib.hid hD; have HL := Lib.hid hl
  have G0 := Lib.hid g0; have G1 := Lib.hid g1; have G2 := Lib.hid g2
  have KO : ∀ o, Kp nob w (w.alloc o) := fun o => (Kp.refl nob w).alloc o
  clear hD hl g0 g1 g2
  go_enter Tryd.func7, Tryd.ntmps7
  go_wp2_with fail
  refine (derive_any none 0 0 [] (some ⟨w.heap.size, 0, none⟩) 22 22 ikm 42 none 0 0 [] (w.alloc (.cells (bvs ikm).toArray 5)) (ht.keep0 (KO _)) rfl (Row.nil _ _) (Nat.le_refl _) (by simp [maxLen]) (by omega) rfl (row_new w _ _) (Nat.le_refl _) (by simp [maxLen]) (by omega) rfl (Row.nil _ _) (fun p hp => by cases hp) (by omega) (by simp [catP])).mono ?_
  rintro e w2 ⟨⟨X, l', cX, rfl, hl', hX⟩, k2⟩
  have K2 : Kp nob w w2 := (KO _).trans k2 (fun _ e => e.elim)
  rw [show catP ([] : List Pc) = [] from rfl, HD.out] at hl' hX
  rw [err42]
  obtain rfl : l' = 42 := by rw [← hl', HL.out]
  rcases hX with h | ⟨b, o, rfl, hb, hc⟩
  · have := HL.out; rw [show D = [] by simpa [bvs] using h] at this; cases this
  · have c0 : w2.cell? ⟨b, o, none⟩ = some (.int .u8 141) := hc 0 _ (by rw [bvs, List.getElem?_map, G0.out]; rfl)
    have c1 : w2.cell? ⟨b, o + 1, none⟩ = some (.int .u8 164) := hc 1 _ (by rw [bvs, List.getElem?_map, G1.out]; rfl)
    have c2 : w2.cell? ⟨b, o + 41, none⟩ = some (.int .u8 200) := hc 41 _ (by rw [bvs, List.getElem?_map, G2.out]; rfl)
    clear hc hl' k2
    go_wp2
    go_ret
    exact ⟨rfl, K2⟩
end Go.Proofs.YtnpidcehioljaaaDoor.Kdf

/- What the statements of layer 3 play: the document's example. -/
import Derived.Test.YtdfpfiipcieabaaDoorHmacF
import Derived.Lib.SlBytesConst
import Derived.BigQuiet
import Derived.Deep.QuietTactic
namespace Go.Proofs.YtdfpfiipcieabaaDoor.Hmac
open Go Go.RowKit Kit
open Sha (Tabs Far Has Pc PcsOk catP u8s_under arr32b u8s_info own_new own_one own_none u8_string row_marked eq32)

theorem eq_same (k l : List UInt8) (w : World) : (Op.equalIn 10000 25 (.agg (bvs (mac k l)).toArray) (.agg (bvs (mac k l)).toArray)).run Tryd.prog w = .ok true w := by
  rw [eq32 _ _ (mac_length k l) (mac_length k l)]; simp

/-- The row of pieces is a block that the call makes. -/
theorem of_pcs (A : Option Addr) (n c : Nat) (k : List UInt8) (ps : List Pc) (w : World) (t : TypeId) (g : Nat) (hg : g = w.heap.size) (ht : Tabs w) (hk : k.length = n) (hr : Row w A (bvs k)) (hc : n ≤ c) (hm : c ≤ maxLen) (hn2 : n ≤ 1099511627776) (hp : PcsOk w nob ps) (hmm : ps.length ≤ 1099511627776) (hl : (catP ps).length ≤ 1099511000000) :
    Calls Tryd.prog 10 #[.slice A n c, .slice (some ⟨g, 0, none⟩) ps.length ps.length] (w.alloc (.cells (ps.map Pc.v).toArray t)) fun e w' => e = .returned (.agg (bvs (mac k (catP ps))).toArray) ∧ Kp nob w w' := by
  subst hg
  have K := (Kp.refl nob w).alloc (.cells (ps.map Pc.v).toArray t)
  refine (of_any A n c k (some ⟨w.heap.size, 0, none⟩) ps.length ps.length ps _ (ht.keep0 K) hk (hr.keep0 K) hc hm hn2 rfl (row_new w _ t) (hp.keep0 K) hmm hl).mono ?_
  rintro e' w' ⟨rfl, k⟩
  exact ⟨rfl, K.trans k (fun _ e => e.elim)⟩
theorem of_pcs1 (A : Option Addr) (n c : Nat) (k : List UInt8) (p : Pc) (w : World) (t : TypeId) (g : Nat) (hg : g = w.heap.size) (ht : Tabs w) (hk : k.length = n) (hr : Row w A (bvs k)) (hc : n ≤ c) (hm : c ≤ maxLen) (hn2 : n ≤ 1099511627776) (hp : PcsOk w nob [p]) (hl : p.l.length ≤ 1099511000000) :
    Calls Tryd.prog 10 #[.slice A n c, .slice (some ⟨g, 0, none⟩) 1 1] (w.alloc (.cells #[.slice p.A p.n p.c] t)) fun e w' => e = .returned (.agg (bvs (mac k p.l)).toArray) ∧ Kp nob w w' := by
  have e : catP [p] = p.l := by simp [catP]
  have := of_pcs A n c k [p] w t g hg ht hk hr hc hm hn2 hp (by simp) (by rw [e]; exact hl)
  rw [e] at this
  exact this
theorem of_pcs2 (A : Option Addr) (n c : Nat) (k : List UInt8) (p q : Pc) (w : World) (t : TypeId) (g : Nat) (hg : g = w.heap.size) (ht : Tabs w) (hk : k.length = n) (hr : Row w A (bvs k)) (hc : n ≤ c) (hm : c ≤ maxLen) (hn2 : n ≤ 1099511627776) (hp : PcsOk w nob [p]) (hq : PcsOk w nob [q]) (hl : p.l.length + q.l.length ≤ 1099511000000) :
    Calls Tryd.prog 10 #[.slice A n c, .slice (some ⟨g, 0, none⟩) 2 2] (w.alloc (.cells #[.slice p.A p.n p.c, .slice q.A q.n q.c] t)) fun e w' => e = .returned (.agg (bvs (mac k (p.l ++ q.l))).toArray) ∧ Kp nob w w' := by
  have e : catP [p, q] = p.l ++ q.l := by simp [catP]
  have := of_pcs A n c k [p, q] w t g hg ht hk hr hc hm hn2 (pcs_cons hp hq) (by simp) (by rw [e, List.length_append]; exact hl)
  rw [e] at this
  exact this
theorem same_self (A : Option Addr) (n c : Nat) (l : List UInt8) (B : Option Addr) (d : Nat) (w : World) (hl : l.length = n) (hr : Row w A (bvs l)) (hn : n ≤ 1099511627776) (hr2 : Row w B (bvs l)) :
    Calls Tryd.prog 16 #[.slice A n c, .slice B n d] w fun e w' => e = .returned (.bool true) ∧ w = w' := by
  have := same_any A n c l B n d l w hl hr hn hl hr2 hn
  rwa [show (l == l) = true by simp] at this
/-- Three rows that a function's text lays. -/
def lay3 (w : World) (a b c : List Value) (t : TypeId) (f1 f2 f3 : Nat × Nat) : World := ((w.alloc (.cells a.toArray t f1)).alloc (.cells b.toArray t f2)).alloc (.cells c.toArray t f3)
theorem lay3_rows (w : World) (a b c : List Value) (t : TypeId) (f1 f2 f3 : Nat × Nat) :
    Row (lay3 w a b c t f1 f2 f3) (some ⟨w.heap.size, 0, none⟩) a ∧ Row (lay3 w a b c t f1 f2 f3) (some ⟨w.heap.size + 1, 0, none⟩) b ∧ Row (lay3 w a b c t f1 f2 f3) (some ⟨w.heap.size + 1 + 1, 0, none⟩) c ∧ Kp nob w (lay3 w a b c t f1 f2 f3) ∧ w.heap.size + 1 + 1 + 1 = (lay3 w a b c t f1 f2 f3).heap.size := by
  refine ⟨((row_marked w a t f1).alloc _).alloc _, ?_, ?_, (((Kp.refl _ w).alloc _).alloc _).alloc _, by simp [lay3]⟩
  · have := (row_marked (w.alloc (.cells a.toArray t f1)) b t f2).alloc (.cells c.toArray t f3)
    rwa [show (w.alloc (.cells a.toArray t f1)).heap.size = w.heap.size + 1 by simp] at this
  · have := row_marked ((w.alloc (.cells a.toArray t f1)).alloc (.cells b.toArray t f2)) c t f3
    rwa [show ((w.alloc (.cells a.toArray t f1)).alloc (.cells b.toArray t f2)).heap.size = w.heap.size + 1 + 1 by simp] at this

set_option maxHeartbeats 1000000 in
set_option maxRecDepth 100000 in
theorem alive_yes (w : World) (ht : Tabs w) : Calls Tryd.prog 9 #[] w fun e w' => e = .returned (.bool true) ∧ Kp nob w w' := by
  obtain ⟨D, hD⟩ : ∃ D, D = mac jefe (ask1 ++ ask2) := ⟨_, rfl⟩
  have hl : D.length = 32 := by rw [hD]; exact mac_length _ _
  have h4 : D.take 4 = [91, 220, 193, 70] := by rw [hD]; exact mac_jefe
  have g : ∀ i (h : i < 4), D[i]? = ([91, 220, 193, 70] : List UInt8)[i]? := fun i h => by rw [← h4, List.getElem?_take, if_pos h]
  have g0 := g 0 (by omega); have g1 := g 1 (by omega); have g2 := g 2 (by omega); have g3 := g 3 (by omega)
  have HD := Lib.hid hD; have HL := Lib.hid hl
  have G0 := Lib.hid g0; have G1 := Lib.hid g1; have G2 := Lib.hid g2; have G3 := Lib.hid g3
  have kc := fun (w : World) (C : Array Value) (n c : Nat) => Lib.run_convert_bytes_const (P := Tryd.prog) w 22 5 C n c u8s_under (by kernel_rfl)
  have kc2 := fun (w : World) (o : Obj) (C : Array Value) (n c : Nat) => (show (convert 22 22 (.slice (some ⟨w.heap.size + 1, 0, none⟩) n c)).run Tryd.prog ((w.alloc o).alloc (.cells C 5)) = .ok (.slice (some ⟨w.heap.size + 1, 0, none⟩) n c) ((w.alloc o).alloc (.cells C 5 (C.size, C.size + 1))) by
    have := kc (w.alloc o) C n c; rw [show (w.alloc o).heap.size = w.heap.size + 1 by simp] at this; exact this)
  have kc3 := fun (w : World) (o o2 : Obj) (C : Array Value) (n c : Nat) => (show (convert 22 22 (.slice (some ⟨w.heap.size + 1 + 1, 0, none⟩) n c)).run Tryd.prog (((w.alloc o).alloc o2).alloc (.cells C 5)) = .ok (.slice (some ⟨w.heap.size + 1 + 1, 0, none⟩) n c) (((w.alloc o).alloc o2).alloc (.cells C 5 (C.size, C.size + 1))) by
    have := kc ((w.alloc o).alloc o2) C n c; rw [show ((w.alloc o).alloc o2).heap.size = w.heap.size + 1 + 1 by simp] at this; exact this)
  clear hD hl h4 g g0 g1 g2 g3
  go_enter Tryd.func9, Tryd.ntmps9
  go_wp2_with fail
  obtain ⟨r1, r2, r3, K1, z1⟩ := lay3_rows w (bvs jefe) (bvs ask1) (bvs ask2) 5 (4, 5) (16, 17) (12, 13)
  refine (of_pcs2 (some ⟨w.heap.size, 0, none⟩) 4 4 jefe ⟨some ⟨w.heap.size + 1, 0, none⟩, 16, 16, ask1⟩ ⟨some ⟨w.heap.size + 1 + 1, 0, none⟩, 12, 12, ask2⟩ (lay3 w (bvs jefe) (bvs ask1) (bvs ask2) 5 (4, 5) (16, 17) (12, 13)) _ _ z1 (ht.keep0 K1) rfl r1 (Nat.le_refl _) (by simp [maxLen]) (by omega)
    (Sha.pcs_one rfl r2 (.inr (fun _ _ e => e)) (Nat.le_refl _) (by simp [maxLen])) (Sha.pcs_one rfl r3 (.inr (fun _ _ e => e)) (Nat.le_refl _) (by simp [maxLen])) (by show ask1.length + ask2.length ≤ _; decide)).mono ?_
  rintro e w2 ⟨rfl, k2⟩
  have K2 := K1.trans k2 (fun _ e => e.elim)
  rw [show mac jefe (Pc.l ⟨some ⟨w.heap.size + 1, 0, none⟩, 16, 16, ask1⟩ ++ Pc.l ⟨some ⟨w.heap.size + 1 + 1, 0, none⟩, 12, 12, ask2⟩) = D from HD.out.symm]
  clear r1 r2 r3 k2 K1 kc kc2 kc3 z1
  go_wp2_with (refine wpList_store_new rfl 25 (.tmp 1) (.tmp 9) rfl _ (bvs D) rfl rfl (by rw [bvs_length, HL.out]; rfl) (by rw [bvs_length, HL.out]; kernel_rfl) (bvs_one _) ?_
               intro w3 hB3 k3 z3
               have c0 : w3.cell? ⟨w2.heap.size, 0, none⟩ = some (.int .u8 91) := by rw [hB3.cell, bvs, List.getElem?_map, G0.out]; rfl
               have c1 : w3.cell? ⟨w2.heap.size, 1, none⟩ = some (.int .u8 220) := by rw [hB3.cell, bvs, List.getElem?_map, G1.out]; rfl
               have c2 : w3.cell? ⟨w2.heap.size, 2, none⟩ = some (.int .u8 193) := by rw [hB3.cell, bvs, List.getElem?_map, G2.out]; rfl
               have c3 : w3.cell? ⟨w2.heap.size, 3, none⟩ = some (.int .u8 70) := by rw [hB3.cell, bvs, List.getElem?_map, G3.out]; rfl
               have R3 := Lib.hid hB3.row
               clear hB3 z3)
  go_quiet ((go_at_call 16; exact Sha.quiet_left (same_self _ _ _ D _ _ _ HL.out (R3.out.keep0 ((Kp.refl nob w3).drewN _)) (by omega) (R3.out.keep0 ((Kp.refl nob w3).drewN _)))))
  go_wp2
  go_ret
  exact ⟨rfl, (K2.trans k3 (fun _ e => e.elim)).drewN _⟩
end Go.Proofs.YtdfpfiipcieabaaDoor.Hmac

/- Contracts of package kdf where the row of a purpose's pieces is made by the call. -/
import Derived.Test.YtnpidcehioljaaaDoorKdfL
namespace Go.Proofs.YtnpidcehioljaaaDoor.Kdf
open Go Go.RowKit Kit
open Sha (Tabs Far Has Pc PcsOk catP u8s_under arr32b u8s_info row_marked u8_string conv_row)
open Hmac (mac mac_length ik ik_length MacIs pcs_cons)

theorem row_cut {w : World} {A : Option Addr} {l : List UInt8} (h : Row w A (bvs l)) {c k : Nat} (hl : l.length ≤ c) : Row w (cutA A c k) (bvs (l.drop k)) := by
  have := h.cut (c := c) (k := k) (by simpa using hl)
  rwa [bvs, ← List.map_drop, ← bvs] at this
theorem expand_row (A : Option Addr) (n c : Nat) (k : List UInt8) (N : Nat) (ps : List Pc) (w : World) (t : TypeId) (g : Nat) (hg : g = w.heap.size) (ht : Tabs w) (hN : N ≤ 8160)
    (hk : k.length = n) (hr : Row w A (bvs k)) (hc : n ≤ c) (hm : c ≤ maxLen) (hn2 : n ≤ 1099511627776)
    (hp : PcsOk w nob ps) (hmm : ps.length ≤ 1099511627776) (hl : (catP ps).length ≤ 1099510000000) :
    Calls Tryd.prog 9 #[.slice A n c, .int .i64 (N : Int), .slice (some ⟨g, 0, none⟩) ps.length ps.length] (w.alloc (.cells (ps.map Pc.v).toArray t)) fun e w' => ∃ X cX, e = .returned (.tuple #[.slice X N cX, .int .i64 0]) ∧ Own 5 w' X N cX (bvs (expand k (catP ps) N)) ∧ (∀ k, ab X = some k → w.heap.size ≤ k) ∧ Kp nob w w' := by
  subst hg
  have K := (Kp.refl nob w).alloc (.cells (ps.map Pc.v).toArray t)
  refine (expand_yes A n c k N (some ⟨w.heap.size, 0, none⟩) ps.length ps.length ps _ (ht.keep0 K) hN hk (hr.keep0 K) hc hm hn2 rfl (row_new w _ t) (hp.keep0 K) hmm hl).mono ?_
  rintro e' w' ⟨X, cX, rfl, h1, h2, k⟩
  exact ⟨X, cX, rfl, h1, fun k e => by have := h2 k e; simp at this; omega, K.trans k (fun _ e => e.elim)⟩
theorem expand_one (A : Option Addr) (n c : Nat) (k : List UInt8) (N : Nat) (p : Pc) (w : World) (t : TypeId) (g : Nat) (hg : g = w.heap.size) (ht : Tabs w) (hN : N ≤ 8160)
    (hk : k.length = n) (hr : Row w A (bvs k)) (hc : n ≤ c) (hm : c ≤ maxLen) (hn2 : n ≤ 1099511627776)
    (hp : PcsOk w nob [p]) (hl : p.l.length ≤ 1099510000000) :
    Calls Tryd.prog 9 #[.slice A n c, .int .i64 (N : Int), .slice (some ⟨g, 0, none⟩) 1 1] (w.alloc (.cells #[.slice p.A p.n p.c] t)) fun e w' => ∃ X cX, e = .returned (.tuple #[.slice X N cX, .int .i64 0]) ∧ Own 5 w' X N cX (bvs (expand k p.l N)) ∧ (∀ k, ab X = some k → w.heap.size ≤ k) ∧ Kp nob w w' := by
  have e : catP [p] = p.l := by simp [catP]
  have := expand_row A n c k N [p] w t g hg ht hN hk hr hc hm hn2 hp (by simp) (by rw [e]; exact hl)
  rw [e] at this
  exact this
theorem expand_three (A : Option Addr) (n c : Nat) (k : List UInt8) (N : Nat) (p q r : Pc) (w : World) (t : TypeId) (g : Nat) (hg : g = w.heap.size) (ht : Tabs w) (hN : N ≤ 8160)
    (hk : k.length = n) (hr : Row w A (bvs k)) (hc : n ≤ c) (hm : c ≤ maxLen) (hn2 : n ≤ 1099511627776)
    (hp : PcsOk w nob [p, q, r]) (hl : (p.l ++ q.l ++ r.l).length ≤ 1099510000000) :
    Calls Tryd.prog 9 #[.slice A n c, .int .i64 (N : Int), .slice (some ⟨g, 0, none⟩) 3 3] (w.alloc (.cells #[.slice p.A p.n p.c, .slice q.A q.n q.c, .slice r.A r.n r.c] t)) fun e w' => ∃ X cX, e = .returned (.tuple #[.slice X N cX, .int .i64 0]) ∧ Own 5 w' X N cX (bvs (expand k (p.l ++ q.l ++ r.l) N)) ∧ (∀ k, ab X = some k → w.heap.size ≤ k) ∧ Kp nob w w' := by
  have e : catP [p, q, r] = p.l ++ q.l ++ r.l := by simp [catP]
  have := expand_row A n c k N [p, q, r] w t g hg ht hN hk hr hc hm hn2 hp (by simp) (by rw [e]; exact hl)
  rw [e] at this
  exact this
end Go.Proofs.YtnpidcehioljaaaDoor.Kdf

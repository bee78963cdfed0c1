/- The functions of package scan that make such closures, and the reader that holds eight of them. -/
import Derived.Test.YtnkphlkjhgngkaaGreatDoorKlsJt
import Derived.Laws.EntriesVeiled
namespace Go.Proofs.YtnkphlkjhgngkaaGreatDoor
open Go.RowKit
set_option maxRecDepth 20000 in
theorem en37 : Enters Tryz.prog 120:=enters_of Tryz.func120 (by kernel_rfl) rfl
set_option maxRecDepth 20000 in
theorem en54 : Enters Tryz.prog 122:=enters_of Tryz.func122 (by kernel_rfl) rfl
set_option maxRecDepth 20000 in
theorem en53 : Enters Tryz.prog 121:=enters_of Tryz.func121 (by kernel_rfl) rfl
set_option maxRecDepth 20000 in
theorem en56 : Enters Tryz.prog 124:=enters_of Tryz.func124 (by kernel_rfl) rfl
/-- What a maker of a class leaves: a class that hangs on blocks from B on. -/
def Made (p : UInt8 → Bool) (B : Nat) (w : World) (e : Ending) (w' : World) : Prop :=
  ∃ (g : Nat) (lb : Array Value),e = .returned (.func (.func g) #[] lb) ∧ Enters Tryz.prog g ∧ KlsAt g lb p B w' ∧ Below w.heap.size w w'
set_option maxRecDepth 20000 in
set_option maxHeartbeats 400000 in
theorem between_any (lo hi : Int) (B : Nat) (w : World) (hB : B ≤ w.heap.size) : Calls Tryz.prog 88 #[.int .u8 lo,.int .u8 hi] w (Made (betweenP lo hi) B w):=by
 go_enter Tryz.func88,Tryz.ntmps88
 go_wp2
 go_ret
 exact ⟨120,_,rfl,en37,between1_at _ B w.heap.size (w.heap.size + 1) lo hi ⟨hB,by simp; omega⟩ ⟨by omega,by simp⟩ (by simp) (by simp),((Below.refl _ _).alloc (Nat.le_refl _) _).alloc (by simp) _⟩
set_option maxRecDepth 20000 in
set_option maxHeartbeats 400000 in
theorem oneOf_any (s : ByteArray) (B : Nat) (w : World) (hB : B ≤ w.heap.size) : Calls Tryz.prog 90 #[.string s] w (Made (oneOfP s.data.toList) B w):=by
 go_enter Tryz.func90,Tryz.ntmps90
 go_wp2
 go_ret
 exact ⟨122,_,rfl,en54,oneOf1_at _ B w.heap.size s ⟨hB,by simp⟩ (by simp),(Below.refl _ _).alloc (Nat.le_refl _) _⟩
set_option maxRecDepth 20000 in
set_option maxHeartbeats 400000 in
theorem not_any (g : Nat) (lb : Array Value) (p : UInt8 → Bool) (B : Nat) (w : World) (he : Enters Tryz.prog g) (hk : KlsAt g lb p B w) (hB : B ≤ w.heap.size) : Calls Tryz.prog 91 #[.func (.func g) #[] lb] w (Made (notP p) B w):=by
 go_enter Tryz.func91,Tryz.ntmps91
 go_wp2
 go_ret
 have hb : Below w.heap.size w (w.alloc (.cells #[.func (.func g) #[] lb] 58)):=(Below.refl _ _).alloc (Nat.le_refl _) _
 exact ⟨124,_,rfl,en56,not1_at _ w.heap.size (.func (.func g) #[] lb) p B ⟨hB,by simp⟩ (by simp) ⟨g,lb,rfl,he,hk.later (Same.of_below hb)⟩,hb⟩
set_option maxRecDepth 20000 in
set_option maxHeartbeats 400000 in
theorem either_any (C n : Nat) (ps : List (UInt8 → Bool)) (B : Nat) (w : World) (hn : ps.length = n) (hn1 : n ≤ 1000) (hC : B ≤ C ∧ C < w.heap.size) (hks : ∀ k p,ps[k]? = some p → ∃ v,w.cell? ⟨C,k,none⟩ = some v ∧ Kls v p B w) :
    Calls Tryz.prog 89 #[.slice (some ⟨C,0,none⟩) n n] w (Made (eitherP ps) B w):=by
  have HK : Hid (∀ k p,ps[k]? = some p → ∃ v,w.cell? ⟨C,k,none⟩ = some v ∧ Kls v p B w):=hks
  have HN : Hid (ps.length = n):=hn
  clear hks hn
  go_enter Tryz.func89,Tryz.ntmps89
  go_wp2
  go_ret
  have hb : Below w.heap.size w (w.alloc (.cells #[.slice (some ⟨C,0,none⟩) n n] 120)):=(Below.refl _ _).alloc (Nat.le_refl _) _
  refine ⟨121,_,rfl,en53,either1_at _ w.heap.size C n ps HN.out hn1 B ⟨by omega,by simp⟩ ⟨hC.1,by simp; omega⟩ (by simp) (fun k p h => ?_),hb⟩
  obtain ⟨v,hc,hk⟩:=HK.out k p h
  exact ⟨v,(hb.cell (p:=⟨C,k,none⟩) hC.2).trans hc,hk.later (Same.of_below hb)⟩
end Go.Proofs.YtnkphlkjhgngkaaGreatDoor

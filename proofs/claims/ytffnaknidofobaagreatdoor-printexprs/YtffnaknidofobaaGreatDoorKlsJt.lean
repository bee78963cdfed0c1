/- The closures of package scan that are sets of bytes, as plain predicates on bytes. -/
import Derived.Test.YtffnaknidofobaaGreatDoorChecked
import Derived.Test.YtffnaknidofobaaGreatDoorShelfJt
import Derived.WalkKit
import Derived.WalkSpells
import Derived.WalkLawsBesides
import Derived.Shelf.Abstract
import Derived.Deep.Draws
import Derived.Deep.QuietTactic
import Derived.BigQuiet
import Derived.Laws.EntriesVeiled
namespace Go.Proofs.YtffnaknidofobaaGreatDoor
open Go.RowKit
/-- From block B on, what lay in w lies in W. -/
structure Same (B : Nat) (w W : World) : Prop where
  size : w.heap.size ≤ W.heap.size
  block : ∀ k,B ≤ k → k < w.heap.size → W.heap[k]? = w.heap[k]?
set_option maxRecDepth 20000 in
theorem Same.cell {B : Nat} {w W : World} (h : Same B w W) {k o : Nat} (h1 : B ≤ k) (h2 : k < w.heap.size) : W.cell? ⟨k,o,none⟩ = w.cell? ⟨k,o,none⟩:=World.cell?_of_block (w:=w) (h.block k h1 h2)
set_option maxRecDepth 20000 in
theorem Same.drewN {B : Nat} {w W : World} (h : Same B w W) (q : Nat) : Same B w (W.drewN q):=⟨h.size,h.block⟩
set_option maxRecDepth 20000 in
theorem Same.refl (B : Nat) (w : World) : Same B w w:=⟨Nat.le_refl _,fun _ _ _ => rfl⟩
set_option maxRecDepth 20000 in
theorem Same.trans {B : Nat} {a b c : World} (h : Same B a b) (k : Same B b c) : Same B a c :=
  ⟨Nat.le_trans h.size k.size,fun i h1 h2 => (k.block i h1 (Nat.lt_of_lt_of_le h2 h.size)).trans (h.block i h1 h2)⟩
set_option maxRecDepth 20000 in
theorem Same.mono {B C : Nat} {a b : World} (h : Same B a b) (hC : B ≤ C) : Same C a b:=⟨h.size,fun k h1 h2 => h.block k (Nat.le_trans hC h1) h2⟩
set_option maxRecDepth 20000 in
theorem Same.of_below {B : Nat} {w W : World} (hb : Below w.heap.size w W) : Same B w W:=⟨hb.size,fun k _ hk => hb.block k hk⟩
set_option maxRecDepth 20000 in
theorem Same.setCell {B : Nat} {a w : World} (h : Same B a w) {p : Addr} (hp : p.block < B) (u : Value) : Same B a (w.setCell p u) :=
  ⟨by rw [World.size_setCell]; exact h.size,fun k h1 h2 => (Below.heap_setCell w p u k (by omega)).trans (h.block k h1 h2)⟩
/-- 'g with the captured lb' is the set p of bytes, wherever all from block B on lies as in w. -/
def KlsAt (g : Nat) (lb : Array Value) (p : UInt8 → Bool) (B : Nat) (w : World) : Prop :=
  ∀ (W : World) (b : UInt8),Same B w W → Calls Tryz.prog g (#[.int .u8 b.toNat] ++ lb) W fun e w' => e = .returned (.bool (p b)) ∧ ∃ q,w' = W.drewN q
def Kls (v : Value) (p : UInt8 → Bool) (B : Nat) (w : World) : Prop :=
  ∃ (g : Nat) (lb : Array Value),v = .func (.func g) #[] lb ∧ Enters Tryz.prog g ∧ KlsAt g lb p B w
set_option maxRecDepth 20000 in
theorem KlsAt.later {g : Nat} {lb : Array Value} {p : UInt8 → Bool} {B : Nat} {w W : World} (h : KlsAt g lb p B w) (hb : Same B w W) : KlsAt g lb p B W :=
  fun W' x hb' => h W' x (hb.trans hb')
set_option maxRecDepth 20000 in
theorem KlsAt.wide {g : Nat} {lb : Array Value} {p : UInt8 → Bool} {B C : Nat} {w : World} (h : KlsAt g lb p B w) (hC : C ≤ B) : KlsAt g lb p C w :=
  fun W' x hb' => h W' x (hb'.mono hC)
set_option maxRecDepth 20000 in
theorem Kls.later {v : Value} {p : UInt8 → Bool} {B : Nat} {w W : World} (h : Kls v p B w) (hb : Same B w W) : Kls v p B W:=by
 obtain ⟨g,lb,hv,he,hk⟩:=h
 exact ⟨g,lb,hv,he,hk.later hb⟩
set_option maxRecDepth 20000 in
theorem Kls.wide {v : Value} {p : UInt8 → Bool} {B C : Nat} {w : World} (h : Kls v p B w) (hC : C ≤ B) : Kls v p C w:=by
 obtain ⟨g,lb,hv,he,hk⟩:=h
 exact ⟨g,lb,hv,he,hk.wide hC⟩
def betweenP (lo hi : Int) : UInt8 → Bool:=fun b => decide (lo ≤ (b.toNat : Int)) && decide ((b.toNat : Int) ≤ hi)
set_option maxRecDepth 20000 in
set_option maxHeartbeats 400000 in
theorem between1_at (w : World) (A B C : Nat) (lo hi : Int) (hB : A ≤ B ∧ B < w.heap.size) (hC : A ≤ C ∧ C < w.heap.size) (hlo : w.cell? ⟨B,0,none⟩ = some (.int .u8 lo)) (hhi : w.cell? ⟨C,0,none⟩ = some (.int .u8 hi)) :
    KlsAt 149 #[.pointer (some ⟨B,0,none⟩),.pointer (some ⟨C,0,none⟩)] (betweenP lo hi) A w:=fun W b hb => by
  have h1 : W.cell? ⟨B,0,none⟩ = some (.int .u8 lo):=(hb.cell hB.1 hB.2).trans hlo
  have h2 : W.cell? ⟨C,0,none⟩ = some (.int .u8 hi):=(hb.cell hC.1 hC.2).trans hhi
  clear hb hlo hhi
  by_cases k1 : lo ≤ (b.toNat : Int) <;> by_cases k2 : (b.toNat : Int) ≤ hi
  all_goals
   go_enter Tryz.func149,Tryz.ntmps149
   go_wp2
   all_goals first | (exfalso; omega) | (go_ret; exact ⟨by simp [betweenP,k1,k2],0,rfl⟩)
def oneOfP (l : List UInt8) : UInt8 → Bool:=fun b => decide (0 ≤ Lib.indexByte l b)
def notP (p : UInt8 → Bool) : UInt8 → Bool:=fun b => !p b
set_option maxRecDepth 20000 in
set_option maxHeartbeats 400000 in
theorem oneOf1_at (w : World) (A B : Nat) (s : ByteArray) (hB : A ≤ B ∧ B < w.heap.size) (hs : w.cell? ⟨B,0,none⟩ = some (.string s)) :
    KlsAt 158 #[.pointer (some ⟨B,0,none⟩)] (oneOfP s.data.toList) A w:=fun W b hb => by
  have h1 : W.cell? ⟨B,0,none⟩ = some (.string s):=(hb.cell hB.1 hB.2).trans hs
  clear hb hs
  go_enter Tryz.func158,Tryz.ntmps158
  go_wp2_with (go_at_call 159; refine (Tryz.strings_IndexByte _ _ _).mono ?_; rintro e w' ⟨rfl,rfl⟩)
  go_ret
  exact ⟨rfl,0,rfl⟩
set_option maxRecDepth 20000 in
set_option maxHeartbeats 400000 in
theorem not1_at (w : World) (B : Nat) (v : Value) (p : UInt8 → Bool) (A : Nat) (hB : A ≤ B ∧ B < w.heap.size) (hv : w.cell? ⟨B,0,none⟩ = some v) (hk : Kls v p A w) :
    KlsAt 160 #[.pointer (some ⟨B,0,none⟩)] (notP p) A w:=fun W b hb => by
  obtain ⟨g,lb,rfl,he,hk⟩:=hk
  have h1 : W.cell? ⟨B,0,none⟩ = some (.func (.func g) #[] lb):=(hb.cell hB.1 hB.2).trans hv
  have eg : ∀ args w,(callFunc g args).run Tryz.prog w = .ok (.enter g args) w:=he
  have cS : Calls Tryz.prog g (#[.int .u8 b.toNat] ++ lb) W _:=hk W b hb
  clear hv he hk hb
  go_enter Tryz.func160,Tryz.ntmps160
  go_wp2_with (go_at_fn g; refine cS.mono ?_; rintro e w' ⟨rfl,q,rfl⟩)
  go_ret
  exact ⟨rfl,q,rfl⟩
def eitherP (ps : List (UInt8 → Bool)) : UInt8 → Bool:=fun b => ps.any fun p => p b
set_option maxRecDepth 20000 in
theorem any_hit (ps : List (UInt8 → Bool)) (b : UInt8) (k : Nat) (p : UInt8 → Bool) (h : ps[k]? = some p) (hp : p b = true) : eitherP ps b = true:=by
 unfold eitherP
 rw [List.any_eq_true]
 exact ⟨p,List.mem_of_getElem? h,hp⟩
set_option maxRecDepth 20000 in
theorem any_none (ps : List (UInt8 → Bool)) (b : UInt8) (h : ∀ (j : Nat) (p : UInt8 → Bool),ps[j]? = some p → p b = false) : eitherP ps b = false:=by
 unfold eitherP
 rw [List.any_eq_false]
 intro p hp
 obtain ⟨j,hj⟩:=List.mem_iff_getElem?.1 hp
 simp [h j p hj]
set_option maxRecDepth 20000 in
set_option maxHeartbeats 1000000 in
theorem either1_at (w : World) (B C n : Nat) (ps : List (UInt8 → Bool)) (hn : ps.length = n) (hn1 : n ≤ 1000) (A : Nat) (hB : A ≤ B ∧ B < w.heap.size) (hC : A ≤ C ∧ C < w.heap.size) (hv : w.cell? ⟨B,0,none⟩ = some (.slice (some ⟨C,0,none⟩) n n))
    (hks : ∀ k p,ps[k]? = some p → ∃ v,w.cell? ⟨C,k,none⟩ = some v ∧ Kls v p A w) :
    KlsAt 161 #[.pointer (some ⟨B,0,none⟩)] (eitherP ps) A w:=fun W b hb => by
  have h1 : W.cell? ⟨B,0,none⟩ = some (.slice (some ⟨C,0,none⟩) n n):=(hb.cell hB.1 hB.2).trans hv
  have HK : Hid (∀ k p,ps[k]? = some p → ∃ g lb,W.cell? ⟨C,k,none⟩ = some (.func (.func g) #[] lb) ∧ Enters Tryz.prog g ∧ KlsAt g lb p A w):=fun k p hp => by
   obtain ⟨v,hc,g,lb,rfl,he,hk⟩:=hks k p hp
   exact ⟨g,lb,(hb.cell hC.1 hC.2).trans hc,he,hk⟩
  have HN : Hid (ps.length = n):=hn
  clear hv hks hn
  go_enter Tryz.func161,Tryz.ntmps161
  go_wp2
  go_loopw [8] (fun i wr => ∃ k q : Nat,k ≤ n ∧ i = .int .i64 k ∧ wr = W.drewN q ∧ Hid (∀ j p,j < k → ps[j]? = some p → p b = false)) (fun i _ => n - (intOf i).toNat)
  case atStart => exact ⟨0,0,Nat.zero_le _,rfl,rfl,fun j p h => absurd h (Nat.not_lt_zero _)⟩
  case round =>
   obtain ⟨k,q,hk,rfl,rfl,HZ⟩:=hrel
   by_cases hlt : k < n
   · obtain ⟨p,hp⟩ : ∃ p,ps[k]? = some p:=⟨ps[k]'(by have:=HN.out; omega),List.getElem?_eq_getElem _⟩
     obtain ⟨g,lb,hc,he,hkk⟩:=HK.out k p hp
     have HP : Hid (ps[k]? = some p):=hp
     clear hp
     have eg : ∀ args w,(callFunc g args).run Tryz.prog w = .ok (.enter g args) w:=he
     have cS : Calls Tryz.prog g (#[.int .u8 b.toNat] ++ lb) (W.drewN q) _:=hkk (W.drewN q) b (hb.drewN q)
     clear he hkk
     cases hpb : p b <;> rw [hpb] at cS
     · have HPB : Hid (p b = false):=hpb
       clear hpb
       go_wp2_with (go_at_fn g; refine cS.mono ?_; rintro e w' ⟨rfl,q2,rfl⟩)
       go_roundw
       case rel => exact ⟨k + 1,q + q2,by omega,by go_num,rfl,fun j p' h h' => by
        rcases Nat.lt_succ_iff_lt_or_eq.1 h with h | h
        · exact HZ.out j p' h h'
        · subst h; have:=HP.out; rw [h'] at this; cases this; exact HPB.out⟩
       case measure => simp [intOf]; omega
     · have HPB : Hid (p b = true):=hpb
       clear hpb
       go_wp2_with (go_at_fn g; refine cS.mono ?_; rintro e w' ⟨rfl,q2,rfl⟩)
       go_ret
       exact ⟨by rw [any_hit ps b k p HP.out HPB.out]; rfl,q + q2,rfl⟩
   · go_wp2
     go_ret
     exact ⟨by rw [any_none ps b (fun j p h => HZ.out j p (by have:=HN.out; have:=(List.getElem?_eq_some_iff.1 h).1; omega) h)]; rfl,q,rfl⟩
end Go.Proofs.YtffnaknidofobaaGreatDoor

namespace Go.Proofs.YtffnaknidofobaaGreatDoor
open Go.RowKit
set_option maxRecDepth 20000 in
theorem en37 : Enters Tryz.prog 149:=enters_of Tryz.func149 (by kernel_rfl) rfl
set_option maxRecDepth 20000 in
theorem en54 : Enters Tryz.prog 158:=enters_of Tryz.func158 (by kernel_rfl) rfl
set_option maxRecDepth 20000 in
theorem en53 : Enters Tryz.prog 161:=enters_of Tryz.func161 (by kernel_rfl) rfl
set_option maxRecDepth 20000 in
theorem en56 : Enters Tryz.prog 160:=enters_of Tryz.func160 (by kernel_rfl) rfl
/-- What a maker of a class leaves: a class that hangs on blocks from B on. -/
def Made (p : UInt8 → Bool) (B : Nat) (w : World) (e : Ending) (w' : World) : Prop :=
  ∃ (g : Nat) (lb : Array Value),e = .returned (.func (.func g) #[] lb) ∧ Enters Tryz.prog g ∧ KlsAt g lb p B w' ∧ Below w.heap.size w w'
set_option maxRecDepth 20000 in
set_option maxHeartbeats 400000 in
theorem between_any (lo hi : Int) (B : Nat) (w : World) (hB : B ≤ w.heap.size) : Calls Tryz.prog 115 #[.int .u8 lo,.int .u8 hi] w (Made (betweenP lo hi) B w):=by
 go_enter Tryz.func115,Tryz.ntmps115
 go_wp2
 go_ret
 exact ⟨149,_,rfl,en37,between1_at _ B w.heap.size (w.heap.size + 1) lo hi ⟨hB,by simp; omega⟩ ⟨by omega,by simp⟩ (by simp) (by simp),((Below.refl _ _).alloc (Nat.le_refl _) _).alloc (by simp) _⟩
set_option maxRecDepth 20000 in
set_option maxHeartbeats 400000 in
theorem oneOf_any (s : ByteArray) (B : Nat) (w : World) (hB : B ≤ w.heap.size) : Calls Tryz.prog 126 #[.string s] w (Made (oneOfP s.data.toList) B w):=by
 go_enter Tryz.func126,Tryz.ntmps126
 go_wp2
 go_ret
 exact ⟨158,_,rfl,en54,oneOf1_at _ B w.heap.size s ⟨hB,by simp⟩ (by simp),(Below.refl _ _).alloc (Nat.le_refl _) _⟩
set_option maxRecDepth 20000 in
set_option maxHeartbeats 400000 in
theorem not_any (g : Nat) (lb : Array Value) (p : UInt8 → Bool) (B : Nat) (w : World) (he : Enters Tryz.prog g) (hk : KlsAt g lb p B w) (hB : B ≤ w.heap.size) : Calls Tryz.prog 127 #[.func (.func g) #[] lb] w (Made (notP p) B w):=by
 go_enter Tryz.func127,Tryz.ntmps127
 go_wp2
 go_ret
 have hb : Below w.heap.size w (w.alloc (.cells #[.func (.func g) #[] lb] 75)):=(Below.refl _ _).alloc (Nat.le_refl _) _
 exact ⟨160,_,rfl,en56,not1_at _ w.heap.size (.func (.func g) #[] lb) p B ⟨hB,by simp⟩ (by simp) ⟨g,lb,rfl,he,hk.later (Same.of_below hb)⟩,hb⟩
set_option maxRecDepth 20000 in
set_option maxHeartbeats 400000 in
theorem either_any (C n : Nat) (ps : List (UInt8 → Bool)) (B : Nat) (w : World) (hn : ps.length = n) (hn1 : n ≤ 1000) (hC : B ≤ C ∧ C < w.heap.size) (hks : ∀ k p,ps[k]? = some p → ∃ v,w.cell? ⟨C,k,none⟩ = some v ∧ Kls v p B w) :
    Calls Tryz.prog 129 #[.slice (some ⟨C,0,none⟩) n n] w (Made (eitherP ps) B w):=by
  have HK : Hid (∀ k p,ps[k]? = some p → ∃ v,w.cell? ⟨C,k,none⟩ = some v ∧ Kls v p B w):=hks
  have HN : Hid (ps.length = n):=hn
  clear hks hn
  go_enter Tryz.func129,Tryz.ntmps129
  go_wp2
  go_ret
  have hb : Below w.heap.size w (w.alloc (.cells #[.slice (some ⟨C,0,none⟩) n n] 138)):=(Below.refl _ _).alloc (Nat.le_refl _) _
  refine ⟨161,_,rfl,en53,either1_at _ w.heap.size C n ps HN.out hn1 B ⟨by omega,by simp⟩ ⟨hC.1,by simp; omega⟩ (by simp) (fun k p h => ?_),hb⟩
  obtain ⟨v,hc,hk⟩:=HK.out k p h
  exact ⟨v,(hb.cell (p:=⟨C,k,none⟩) hC.2).trans hc,hk.later (Same.of_below hb)⟩
end Go.Proofs.YtffnaknidofobaaGreatDoor

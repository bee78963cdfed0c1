/- The printer: a strings.Builder and a flag in one block. -/
import Derived.Test.YtffnaknidofobaaGreatDoorKlsJt
import Derived.Lib.FrozenHead2
import Derived.Lib.OthersKept
namespace Go.Proofs.YtffnaknidofobaaGreatDoor
open Go.RowKit
/-- The printer in block b (from B on) holds these bytes and this flag. -/
def PrnAt (B b : Nat) (p : Value) (bs : List Value) (bl : Bool) (w : World) : Prop :=
  B ≤ b ∧ ∃ v,w.heap[b]? = some (.cells #[p,v,.bool bl] 41 (0,0)) ∧ w.ownsRowF B 5 1 v bs.length bs ∧ v.ownBlock ≠ some b
def Prn (B b : Nat) (l : List UInt8) (bl : Bool) (w : World) : Prop :=
  PrnAt B b (.pointer none) (Lib.byteCells l) bl w ∨ PrnAt B b (.pointer (some ⟨b,0,none⟩)) (Lib.byteCells l) bl w
/-- What a call that writes leaves alone. -/
structure Fp (B b : Nat) (w W : World) : Prop where
  below : Below B w W
  kept : Lib.OthersKept 5 (some b) w W
set_option maxRecDepth 20000 in
theorem Fp.refl (B b : Nat) (w : World) : Fp B b w w:=⟨Below.refl _ _,Lib.OthersKept.refl _ _ _⟩
set_option maxRecDepth 20000 in
theorem Fp.trans {B b : Nat} {u v w : World} (h : Fp B b u v) (k : Fp B b v w) : Fp B b u w:=⟨h.below.trans k.below,h.kept.trans k.kept⟩
set_option maxRecDepth 20000 in
theorem PrnAt.lt {B b : Nat} {p : Value} {bs : List Value} {bl : Bool} {w : World} (h : PrnAt B b p bs bl w) : b < w.heap.size:=by
 obtain ⟨_,v,hb,_⟩:=h
 rcases Nat.lt_or_ge b w.heap.size with h' | h'
 · exact h'
 · simp [Array.getElem?_eq_none h'] at hb
set_option maxRecDepth 20000 in
theorem PrnAt.cell0 {B b : Nat} {p : Value} {bs : List Value} {bl : Bool} {w : World} (h : PrnAt B b p bs bl w) : w.cell? ⟨b,0,none⟩ = some p:=by
 obtain ⟨_,v,hb,_⟩:=h
 simp [World.cell?,hb]
set_option maxRecDepth 20000 in
theorem PrnAt.cell2 {B b : Nat} {p : Value} {bs : List Value} {bl : Bool} {w : World} (h : PrnAt B b p bs bl w) : w.cell? ⟨b,2,none⟩ = some (.bool bl):=by
 obtain ⟨_,v,hb,_⟩:=h
 simp [World.cell?,hb]
set_option maxRecDepth 20000 in
theorem PrnAt.shape {B b : Nat} {p : Value} {bs : List Value} {bl : Bool} {w : World} (h : PrnAt B b p bs bl w) : w.shape? b = some (41,3):=by
 obtain ⟨_,v,hb,_⟩:=h
 simp [World.shape?,hb]
set_option maxRecDepth 20000 in
theorem PrnAt.frozen {B b : Nat} {p : Value} {bs : List Value} {bl : Bool} {w : World} (h : PrnAt B b p bs bl w) (j : Nat) : w.frozen? ⟨b,j,none⟩ = false:=by
 obtain ⟨_,v,hb,_⟩:=h
 simp [World.frozen?,hb]
set_option maxRecDepth 20000 in
theorem PrnAt.used {B b : Nat} {p : Value} {bs : List Value} {bl : Bool} {w : World} (h : PrnAt B b p bs bl w) (q : Value) : PrnAt B b q bs bl (w.setCell ⟨b,0,none⟩ q):=by
 obtain ⟨hB,v,hb,hown,hne⟩:=h
 refine ⟨hB,v,?_,?_,hne⟩
 · simp [World.setCell,Array.getElem?_modify,hb]
 · refine hown.kept (row:=some b) ⟨rfl,rfl,rfl,by simp [World.setCell],fun k _ hk => Below.heap_setCell _ _ _ _ (fun e => hk (by simp [e]))⟩ ?_
   exact Or.inr hne
set_option maxRecDepth 20000 in
theorem PrnAt.flag {B b : Nat} {p : Value} {bs : List Value} {bl : Bool} {w : World} (h : PrnAt B b p bs bl w) (x : Bool) : PrnAt B b p bs x (w.setCell ⟨b,2,none⟩ (.bool x)):=by
 obtain ⟨hB,v,hb,hown,hne⟩:=h
 refine ⟨hB,v,?_,?_,hne⟩
 · simp [World.setCell,Array.getElem?_modify,hb]
 · refine hown.kept (row:=some b) ⟨rfl,rfl,rfl,by simp [World.setCell],fun k _ hk => Below.heap_setCell _ _ _ _ (fun e => hk (by simp [e]))⟩ ?_
   exact Or.inr hne
set_option maxRecDepth 20000 in
theorem PrnAt.put {B b : Nat} {p v v' : Value} {bs' : List Value} {bl : Bool} {w : World} (hB : B ≤ b) (hb : w.heap[b]? = some (.cells #[p,v,.bool bl] 41 (0,0))) (hown : w.ownsRowF B 5 1 v' bs'.length bs') :
    PrnAt B b p bs' bl (w.setCell ⟨b,1,none⟩ v'):=by
  have hne:=Lib.ownBlock_neF hown hb (by decide)
  refine ⟨hB,v',?_,?_,hne⟩
  · simp [World.setCell,Array.getElem?_modify,hb]
  · exact hown.kept (row:=some b) ⟨rfl,rfl,rfl,by simp [World.setCell],fun k _ hk => Below.heap_setCell _ _ _ _ (fun e => hk (by simp [e]))⟩ (Or.inr hne)
set_option maxRecDepth 20000 in
theorem PrnAt.below {B b : Nat} {p : Value} {bs : List Value} {bl : Bool} {w W : World} (h : PrnAt B b p bs bl w) (hb : Below w.heap.size w W) : PrnAt B b p bs bl W:=by
 have hlt:=h.lt
 obtain ⟨hB,v,hbk,hown,hne⟩:=h
 refine ⟨hB,v,(hb.block b hlt).trans hbk,?_,hne⟩
 refine ⟨hown.1,?_⟩
 rcases hown.2 with h0 | ⟨g,cap,cur,fz,hv,hBg,hg,r⟩
 · exact .inl h0
 · have hgl : g < w.heap.size:=by
    rcases Nat.lt_or_ge g w.heap.size with h' | h'
    · exact h'
    · simp [Array.getElem?_eq_none h'] at hg
   exact .inr ⟨g,cap,cur,fz,hv,hBg,(hb.block g hgl).trans hg,r⟩
set_option maxRecDepth 20000 in
theorem Prn.at {B b : Nat} {l : List UInt8} {bl : Bool} {w : World} (h : Prn B b l bl w) : ∃ p,(p = .pointer none ∨ p = .pointer (some ⟨b,0,none⟩)) ∧ PrnAt B b p (Lib.byteCells l) bl w:=by
 rcases h with h | h
 · exact ⟨_,.inl rfl,h⟩
 · exact ⟨_,.inr rfl,h⟩
set_option maxRecDepth 20000 in
theorem Prn.of {B b : Nat} {p : Value} {l : List UInt8} {bl : Bool} {w : World} (hp : p = .pointer none ∨ p = .pointer (some ⟨b,0,none⟩)) (h : PrnAt B b p (Lib.byteCells l) bl w) : Prn B b l bl w:=by
 rcases hp with rfl | rfl
 · exact .inl h
 · exact .inr h
set_option maxRecDepth 20000 in
theorem Prn.lt {B b : Nat} {l : List UInt8} {bl : Bool} {w : World} (h : Prn B b l bl w) : b < w.heap.size:=by
 obtain ⟨p,_,h⟩:=h.at; exact h.lt
set_option maxRecDepth 20000 in
theorem Prn.le {B b : Nat} {l : List UInt8} {bl : Bool} {w : World} (h : Prn B b l bl w) : B ≤ b:=by
 obtain ⟨p,_,h⟩:=h.at; exact h.1
set_option maxRecDepth 20000 in
theorem Prn.cell2 {B b : Nat} {l : List UInt8} {bl : Bool} {w : World} (h : Prn B b l bl w) : w.cell? ⟨b,2,none⟩ = some (.bool bl):=by
 obtain ⟨p,_,h⟩:=h.at; exact h.cell2
set_option maxRecDepth 20000 in
theorem Prn.frozen {B b : Nat} {l : List UInt8} {bl : Bool} {w : World} (h : Prn B b l bl w) (j : Nat) : w.frozen? ⟨b,j,none⟩ = false:=by
 obtain ⟨p,_,h⟩:=h.at; exact h.frozen j
set_option maxRecDepth 20000 in
theorem Prn.flag {B b : Nat} {l : List UInt8} {bl : Bool} {w : World} (h : Prn B b l bl w) (x : Bool) : Prn B b l x (w.setCell ⟨b,2,none⟩ (.bool x)):=by
 obtain ⟨p,hp,h⟩:=h.at; exact .of hp (h.flag x)
set_option maxRecDepth 20000 in
theorem Prn.below {B b : Nat} {l : List UInt8} {bl : Bool} {w W : World} (h : Prn B b l bl w) (hb : Below w.heap.size w W) : Prn B b l bl W:=by
 obtain ⟨p,hp,h⟩:=h.at; exact .of hp (h.below hb)
set_option maxRecDepth 20000 in
theorem Prn.alloc {B b : Nat} {l : List UInt8} {bl : Bool} {w : World} (h : Prn B b l bl w) (o : Obj) : Prn B b l bl (w.alloc o) :=
  h.below ((Below.refl _ _).alloc (Nat.le_refl _) _)
set_option maxRecDepth 20000 in
theorem Prn.drew {B b : Nat} {l : List UInt8} {bl : Bool} {w : World} (h : Prn B b l bl w) : Prn B b l bl w.drew:=h
set_option maxRecDepth 20000 in
theorem Fp.of_below {B b : Nat} {w W : World} (hB : B ≤ w.heap.size) (h : Below w.heap.size w W) : Fp B b w W :=
  ⟨h.mono hB,fun k o hk _ _ => by
   have hlt : k < w.heap.size:=(Array.getElem?_eq_some_iff.1 hk).1
   exact (h.block k hlt).trans hk⟩
set_option maxRecDepth 20000 in
theorem Fp.flag {B b : Nat} {w W : World} (h : Fp B b w W) (hB : B ≤ b) (x : Value) : Fp B b w (W.setCell ⟨b,2,none⟩ x) :=
  ⟨h.below.setCell (p:=⟨b,2,none⟩) hB x,h.kept.setCell ⟨b,2,none⟩ rfl x⟩
set_option maxRecDepth 100000 in
set_option maxHeartbeats 1000000 in
theorem copyFresh (b : Nat) (w : World) (h0 : w.cell? ⟨b,0,none⟩ = some (.pointer none)) (hsh : w.shape? b = some (41,3)) (hfz : w.frozen? ⟨b,0,none⟩ = false) :
    Calls Tryz.prog 147 #[.pointer (some ⟨b,0,none⟩)] w fun e w' => e = .returned (.tuple #[]) ∧ w' = w.setCell ⟨b,0,none⟩ (.pointer (some ⟨b,0,none⟩)):=by
  obtain ⟨j,hj,hjs⟩:=Option.map_eq_some_iff.1 Tryz.Builder_Extra_167.sizeBuilder
  have hl : liesAt Tryz.prog Tryz.prog.depth 41 (3 / Tryz.prog.cellsOf 41) 0 39 1 = true:=by kernel_rfl
  go_enter Tryz.func147,Tryz.ntmps147
  go_wp2
  rw [Lib.run_to_unsafe w ⟨b,0,none⟩ Tryz.underlying36 Tryz.underlying143 hj (by rw [hjs]; decide) hsh (Nat.zero_lt_succ 2)]
  simp only [Result.andThen]
  rw [Oper.upon_value]
  go_wp2
  rw [run_callFunc_extern Tryz.func174 (by kernel_rfl) (by kernel_rfl) (by kernel_rfl) (e:=Extern.AbiNoEscape.same) (by kernel_rfl)]
  rw [Lib.run_noEscape]
  simp only [Result.andThen]
  rw [Oper.upon_value]
  go_wp2
  rw [Lib.run_from_unsafe w ⟨b,0,none⟩ Tryz.underlying143 Tryz.underlying36 hj hsh hl]
  simp only [Result.andThen]
  rw [Oper.upon_value]
  go_wp2
  go_end0
  exact ⟨rfl,rfl⟩
set_option maxRecDepth 100000 in
theorem copy_any (B b : Nat) (l : List UInt8) (bl : Bool) (w : World) (h : Prn B b l bl w) :
    Calls Tryz.prog 147 #[.pointer (some ⟨b,0,none⟩)] w fun e w' => e = .returned (.tuple #[]) ∧ PrnAt B b (.pointer (some ⟨b,0,none⟩)) (Lib.byteCells l) bl w' ∧ Fp B b w w':=by
  rcases h with h | h
  · refine (copyFresh b w h.cell0 h.shape (h.frozen 0)).mono ?_
    rintro e w' ⟨rfl,rfl⟩
    exact ⟨rfl,h.used _,(Below.refl B w).setCell (p:=⟨b,0,none⟩) h.1 _,(Lib.OthersKept.refl _ _ w).setCell ⟨b,0,none⟩ rfl _⟩
  · have hu : Calls Tryz.prog 147 #[.pointer (some ⟨b,0,none⟩)] w fun e w' => e = .returned (.tuple #[]) ∧ w' = w:=Any.Builder_copyCheck_used { Tryz.lays167 with } Tryz.Builder_Extra_167.toX72 b w h.cell0
    refine hu.mono ?_
    rintro e w' ⟨rfl,rfl⟩
    exact ⟨rfl,h,Fp.refl _ _ _⟩
set_option maxRecDepth 100000 in
set_option maxHeartbeats 2000000 in
theorem writeByte_any (B b : Nat) (l : List UInt8) (bl : Bool) (c : UInt8) (w : World) (h : Prn B b l bl w) (hlen : l.length + 1 ≤ 140737488355328) (hBw : B ≤ w.heap.size) :
    Calls Tryz.prog 111 #[.pointer (some ⟨b,0,none⟩),.int .u8 c.toNat] w fun e w' => e = .returned .nilIface ∧ Prn B b (l ++ [c]) bl w' ∧ Fp B b w w':=by
  obtain ⟨i0,hi,hz0,hz1,hz2⟩:=info_parts Tryz.Builder_Extra_167.infoByte
  go_enter Tryz.func111,Tryz.ntmps111
  go_wp2_with fail
  refine (copy_any B b l bl _ h).mono ?_
  rintro e w1 ⟨rfl,h1,hf1⟩
  have hb1:=hf1.below
  have hk1:=hf1.kept
  obtain ⟨hB,v,hbk,hown,hne⟩:=h1
  rw [Lib.byteCells_length] at hown
  have c0 : w1.cell? ⟨b,0,none⟩ = some (.pointer (some ⟨b,0,none⟩)):=by rw [Lib.cell_of_heap hbk]; rfl
  have c1 : w1.cell? ⟨b,1,none⟩ = some v:=by rw [Lib.cell_of_heap hbk]; rfl
  go_wp2_with (at_builtin; refine wpList_append_ownF _ rfl _ _ 37 rfl B 5 i0 (.int .u8 0) 1 1 Tryz.underlying37 hi hz0 hz1 hz2 rfl (by decide) _ _ _ rfl (hown.alloc _) ⟨w1.heap.size,0,none⟩ 1 1 [.int .u8 c.toNat] rfl rfl ?c1 ?c2 ?c3 ?c4 ?c5 ?_)
  case c1 =>
   intro j u hj
   match j,hj with
   | 0,hj => simp at hj; subst hj; simp [Addr.add]
  case c2 => intro u hu; simp at hu; subst hu; rfl
  case c3 => unfold maxLen; omega
  case c4 => omega
  case c5 => have:=hb1.size; simp; omega
  intro v' w2 hown' hgrow _
  have hlt : b < w1.heap.size:=by
   rcases Nat.lt_or_ge b w1.heap.size with h' | h'
   · exact h'
   · simp [Array.getElem?_eq_none h'] at hbk
  have hb2 : w2.heap[b]? = some (.cells #[.pointer (some ⟨b,0,none⟩),v,.bool bl] 41 (0,0)):=by
   rw [hgrow.block b (by simp; omega) (fun e => hne e.symm),Lib.alloc_old w1 _ b hlt]
   exact hbk
  have d0 : w2.cell? ⟨b,0,none⟩ = some (.pointer (some ⟨b,0,none⟩)):=by rw [Lib.cell_of_heap hb2]; rfl
  have d1 : w2.cell? ⟨b,1,none⟩ = some v:=by rw [Lib.cell_of_heap hb2]; rfl
  have f1 : w2.frozen? ⟨b,1,none⟩ = false:=Lib.frozen_of_heap hb2 1
  obtain ⟨g,cap,rfl⟩ : ∃ g cap,v' = .slice (some ⟨g,0,none⟩) (l.length + 1) cap:=by
   rcases hown'.2 with ⟨_,h0⟩ | ⟨g,cap,cur,fz,hv,_⟩
   · omega
   · exact ⟨g,cap,hv⟩
  go_wp2
  go_ret
  refine ⟨rfl,.inr ?_,⟨?_,((hk1.alloc _).grown hgrow (Lib.ownsRowF_kind (hown.alloc _))).setCell ⟨b,1,none⟩ rfl _⟩⟩
  · rw [Lib.byteCells_append]
    exact PrnAt.put hB hb2 (bs':=Lib.byteCells l ++ [.int .u8 c.toNat]) (by simpa [Lib.byteCells_length] using hown')
  · exact ((hb1.alloc (by have:=hb1.size; omega) _).grown hgrow (by have:=hb1.size; simp; omega) (fun k hk => (hown.lt k hk).1)).setCell (p:=⟨b,1,none⟩) hB _
set_option maxRecDepth 100000 in
set_option maxHeartbeats 2000000 in
theorem writeString_any (B b : Nat) (l : List UInt8) (bl : Bool) (s : ByteArray) (w : World) (h : Prn B b l bl w) (hlen : l.length + s.size ≤ 140737488355328) (hBw : B ≤ w.heap.size) :
    Calls Tryz.prog 112 #[.pointer (some ⟨b,0,none⟩),.string s] w fun e w' => e = .returned (.tuple #[.int .i64 s.size,.nilIface]) ∧ Prn B b (l ++ s.data.toList) bl w' ∧ Fp B b w w':=by
  obtain ⟨i0,hi,hz0,hz1,hz2⟩:=info_parts Tryz.Builder_Extra_166.infoByte
  go_enter Tryz.func112,Tryz.ntmps112
  go_wp2_with fail
  refine (copy_any B b l bl _ h).mono ?_
  rintro e w1 ⟨rfl,h1,hf1⟩
  have hb1:=hf1.below
  have hk1:=hf1.kept
  obtain ⟨hB,v,hbk,hown,hne⟩:=h1
  rw [Lib.byteCells_length] at hown
  have c0 : w1.cell? ⟨b,0,none⟩ = some (.pointer (some ⟨b,0,none⟩)):=by rw [Lib.cell_of_heap hbk]; rfl
  have c1 : w1.cell? ⟨b,1,none⟩ = some v:=by rw [Lib.cell_of_heap hbk]; rfl
  go_wp2_with (at_builtin; refine Lib.wpList_append_own_stringF _ rfl _ _ 37 9 rfl B 5 i0 Tryz.underlying37 Tryz.underlying9 hi hz0 hz1 hz2 _ _ _ rfl hown s rfl ?c3 ?c4 ?c5 ?_)
  case c3 => unfold maxLen; omega
  case c4 => omega
  case c5 => have:=hb1.size; omega
  intro v' w2 hown' hgrow _
  have hlt : b < w1.heap.size:=by
   rcases Nat.lt_or_ge b w1.heap.size with h' | h'
   · exact h'
   · simp [Array.getElem?_eq_none h'] at hbk
  have hb2 : w2.heap[b]? = some (.cells #[.pointer (some ⟨b,0,none⟩),v,.bool bl] 41 (0,0)):=by
   rw [hgrow.block b hlt (fun e => hne e.symm)]
   exact hbk
  have d0 : w2.cell? ⟨b,0,none⟩ = some (.pointer (some ⟨b,0,none⟩)):=by rw [Lib.cell_of_heap hb2]; rfl
  have d1 : w2.cell? ⟨b,1,none⟩ = some v:=by rw [Lib.cell_of_heap hb2]; rfl
  have f1 : w2.frozen? ⟨b,1,none⟩ = false:=Lib.frozen_of_heap hb2 1
  obtain ⟨ao,n',cap,rfl⟩ : ∃ ao n' cap,v' = .slice ao n' cap:=by
   rcases hown'.2 with ⟨hv,_⟩ | ⟨g,cap,cur,fz,hv,_⟩
   · exact ⟨_,_,_,hv⟩
   · exact ⟨_,_,_,hv⟩
  go_wp2
  go_ret2
  refine ⟨rfl,.inr ?_,⟨?_,(hk1.grown hgrow (Lib.ownsRowF_kind hown)).setCell ⟨b,1,none⟩ rfl _⟩⟩
  · rw [Lib.byteCells_append]
    exact PrnAt.put hB hb2 (bs':=Lib.byteCells l ++ Lib.strCells s) (by simpa [Lib.byteCells_length,Lib.strCells_length] using hown')
  · exact (hb1.grown hgrow (by have:=hb1.size; omega) (fun k hk => (hown.lt k hk).1)).setCell (p:=⟨b,1,none⟩) hB _
set_option maxRecDepth 100000 in
set_option maxHeartbeats 1000000 in
theorem len_any (B b : Nat) (l : List UInt8) (bl : Bool) (w : World) (h : Prn B b l bl w) :
    Calls Tryz.prog 67 #[.pointer (some ⟨b,0,none⟩)] w fun e w' => e = .returned (.int .i64 l.length) ∧ w' = w:=by
  obtain ⟨p,hp,hB,v,hbk,hown,hne⟩:=h.at
  rw [Lib.byteCells_length] at hown
  obtain ⟨ao,cap,rfl⟩ : ∃ ao cap,v = .slice ao l.length cap:=by
   rcases hown.2 with ⟨hv,h0⟩ | ⟨g,cap,cur,fz,hv,_⟩
   · exact ⟨none,0,by rw [hv,h0]⟩
   · exact ⟨_,_,hv⟩
  have c1 : w.cell? ⟨b,1,none⟩ = some (.slice ao l.length cap):=by rw [Lib.cell_of_heap hbk]; rfl
  clear hbk hown hne h
  go_enter Tryz.func67,Tryz.ntmps67
  go_wp2
  go_ret
  exact ⟨rfl,rfl⟩
end Go.Proofs.YtffnaknidofobaaGreatDoor

namespace Go.Proofs.YtffnaknidofobaaGreatDoor
open Go.RowKit
def endsB (t : List UInt8) : Bool:=t == [123] || t == [125] || t == [59]
/-- What stands there, and does a blank stand ahead of the next token? -/
abbrev PS:=List UInt8 × Bool
def put1 (s : PS) (t : List UInt8) : PS :=
  if 65536 < s.1.length then s else (s.1 ++ (if s.2 then [32] else []) ++ t ++ (if endsB t then [10] else []),!endsB t)
def puts (s : PS) (ts : List (List UInt8)) : PS:=ts.foldl put1 s
theorem puts_nil (s : PS) : puts s [] = s:=rfl
theorem puts_cons (s : PS) (t : List UInt8) (ts : List (List UInt8)) : puts s (t :: ts) = puts (put1 s t) ts:=rfl
theorem puts_append (s : PS) (a b : List (List UInt8)) : puts s (a ++ b) = puts (puts s a) b:=by simp [puts,List.foldl_append]
set_option maxRecDepth 20000 in
set_option maxHeartbeats 1000000 in
theorem endsLine_any (s : List UInt8) (w : World) : Calls Tryz.prog 113 #[.string ⟨s.toArray⟩] w fun e w' => e = .returned (.bool (endsB s)) ∧ w' = w:=by
 have HR : Hid (endsB s = (s == [123] || s == [125] || s == [59])):=rfl
 by_cases h0 : s = [123]
 · subst h0
   have HP : Hid (endsB _ = true):=Lib.hid (show endsB [123] = true by decide)
   go_enter Tryz.func113,Tryz.ntmps113
   go_wp2
   go_ret
   exact ⟨by simp [HP.out],rfl⟩
 by_cases h1 : s = [125]
 · subst h1
   have HP : Hid (endsB _ = true):=Lib.hid (show endsB [125] = true by decide)
   go_enter Tryz.func113,Tryz.ntmps113
   go_wp2
   go_ret
   exact ⟨by simp [HP.out],rfl⟩
 have e0 : (s == [123]) = false:=by simpa using h0
 have e1 : (s == [125]) = false:=by simpa using h1
 have HR2 : Hid (endsB s = (s == [59])):=HR.out.trans (by rw [e0,e1]; rfl)
 clear h0 h1
 go_enter Tryz.func113,Tryz.ntmps113
 go_wp2
 go_ret
 exact ⟨by simp [HR2.out],rfl⟩
/-- The printer holds what stands there. -/
abbrev Pn (B b : Nat) (s : PS) (w : World) : Prop:=Prn B b s.1 s.2 w
/-- What a call that writes these tokens comes to. -/
def OutW (B b : Nat) (s : PS) (ts : List (List UInt8)) (w : World) (e : Ending) (w' : World) : Prop :=
  e = .returned (.tuple #[]) ∧ Pn B b (puts s ts) w' ∧ Fp B b w w'
set_option maxRecDepth 20000 in
set_option maxHeartbeats 1000000 in
theorem tooLong_any (B b : Nat) (s : PS) (w : World) (h : Pn B b s w) :
    Calls Tryz.prog 32 #[.pointer (some ⟨b,0,none⟩)] w fun e w' => e = .returned (.bool (decide (65536 < (s.1.length : Int)))) ∧ w' = w:=by
  have cL:=len_any B b s.1 s.2 w h
  have hbl:=h.lt
  clear h
  go_enter Tryz.func32,Tryz.ntmps32
  go_wp2_with fail
  refine cL.mono ?_
  rintro e w' ⟨rfl,rfl⟩
  go_wp2
  go_ret
  exact ⟨rfl,rfl⟩
set_option maxRecDepth 20000 in
set_option maxHeartbeats 4000000 in
theorem putOne_any (B b : Nat) (s : PS) (t : List UInt8) (w : World) (h : Pn B b s w) (hB : B ≤ w.heap.size) (ht : t.length ≤ 1000000) :
    Calls Tryz.prog 74 #[.pointer (some ⟨b,0,none⟩),.string ⟨t.toArray⟩] w (OutW B b s [t] w):=by
  obtain ⟨l,bl⟩:=s
  have cT:=tooLong_any B b (l,bl) w h
  by_cases hl : 65536 < l.length
  · have hd : decide (65536 < (l.length : Int)) = true:=by simp; omega
    have HP : Hid (puts (l,bl) [t] = (l,bl)):=by show put1 (l,bl) t = _; unfold put1; exact if_pos hl
    have cT' : Calls Tryz.prog 32 #[.pointer (some ⟨b,0,none⟩)] w fun e w' => e = .returned (.bool true) ∧ w' = w:=by rw [← hd]; exact cT
    have HH:=Lib.hid h
    clear cT hd hl h
    go_enter Tryz.func74,Tryz.ntmps74
    go_wp2_with fail
    refine cT'.mono ?_
    rintro e w' ⟨rfl,rfl⟩
    go_wp2
    go_end0
    exact ⟨rfl,by rw [HP.out]; exact HH.out,Fp.refl _ _ _⟩
  have hd : decide (65536 < (l.length : Int)) = false:=by simp; omega
  have HP : Hid (puts (l,bl) [t] = (l ++ (if bl then [32] else []) ++ t ++ (if endsB t then [10] else []),!endsB t)):=by show put1 (l,bl) t = _; unfold put1; exact if_neg hl
  have cT' : Calls Tryz.prog 32 #[.pointer (some ⟨b,0,none⟩)] w fun e w' => e = .returned (.bool false) ∧ w' = w:=by rw [← hd]; exact cT
  have c2 : w.cell? ⟨b,2,none⟩ = some (.bool bl):=h.cell2
  have hle:=h.le
  have hbl:=h.lt
  have HE : Hid (∀ W,Calls Tryz.prog 113 #[.string ⟨t.toArray⟩] W fun e w' => e = .returned (.bool (endsB t)) ∧ w' = W):=fun W => endsLine_any t W
  -- behind the blank
  have key : ∀ (W : World) (l2 : List UInt8),Pn B b (l2,bl) W → Fp B b w W → l2.length ≤ 65537 → l2 = l ++ (if bl then [32] else []) →
      Calls Tryz.prog 112 #[.pointer (some ⟨b,0,none⟩),.string ⟨t.toArray⟩] W fun e w' => e = .returned (.tuple #[.int .i64 t.length,.nilIface]) ∧ Pn B b (l2 ++ t,bl) w' ∧ Fp B b w w':=by
    intro W l2 h2 f2 hz2 _
    refine (writeString_any B b l2 bl ⟨t.toArray⟩ W h2 (by simp [ByteArray.size]; omega) (Nat.le_trans hB f2.below.size)).mono ?_
    rintro e w' ⟨h1,h2,h3⟩
    exact ⟨by simpa [ByteArray.size] using h1,by simpa using h2,f2.trans h3⟩
  have key2 : ∀ (W : World) (l2 : List UInt8) (x : Bool),Pn B b (l2,x) W → Fp B b w W → l2.length ≤ 2000000 →
      Calls Tryz.prog 111 #[.pointer (some ⟨b,0,none⟩),.int .u8 10] W fun e w' => e = .returned .nilIface ∧ Pn B b (l2 ++ [10],x) w' ∧ Fp B b w w':=by
    intro W l2 x h2 f2 hz2
    refine (writeByte_any B b l2 x 10 W h2 (by omega) (Nat.le_trans hB f2.below.size)).mono ?_
    rintro e w' ⟨h1,h2,h3⟩
    exact ⟨h1,h2,f2.trans h3⟩
  have hl2 : l.length ≤ 65536:=by omega
  have HK:=Lib.hid key
  have HK2:=Lib.hid key2
  clear key key2 cT hd
  have tail : ∀ (l2 : List UInt8),l2.length ≤ 65537 → l2 = l ++ (if bl then [32] else []) → puts (l,bl) [t] = (l2 ++ t ++ (if endsB t then [10] else []),!endsB t):=by
   intro l2 _ he; rw [he]; exact HP.out
  have HT:=Lib.hid tail
  clear tail
  cases bl
  · have HH:=Lib.hid h
    clear h
    cases hee : endsB t
    · rw [hee] at HP
      have HE2 : Hid (∀ W,Calls Tryz.prog 113 #[.string ⟨t.toArray⟩] W fun e w' => e = .returned (.bool false) ∧ w' = W):=fun W => by have:=HE.out W; rw [hee] at this; exact this
      clear hee HE HT hl
      go_enter Tryz.func74,Tryz.ntmps74
      go_wp2_with fail
      refine cT'.mono ?_
      rintro e w' ⟨rfl,hw'⟩
      subst hw'
      go_wp2_with fail
      refine (HK.out _ l HH.out (Fp.refl _ _ _) (by omega) (by simp)).mono ?_
      rintro e w2 ⟨rfl,h2,f2⟩
      have hz2:=f2.below.size
      have HH2:=Lib.hid h2
      have HF2:=Lib.hid f2
      have x2:=h2.cell2
      have fz:=h2.frozen 2
      have hb2:=h2.lt
      clear c2 h2 f2
      go_wp2_with fail
      refine (HE2.out _).mono ?_
      rintro e w' ⟨rfl,hw'⟩
      subst hw'
      go_wp2
      go_end0
      exact ⟨rfl,by rw [HP.out]; simpa using HH2.out.flag true,HF2.out.flag hle _⟩
    · rw [hee] at HP
      have HE2 : Hid (∀ W,Calls Tryz.prog 113 #[.string ⟨t.toArray⟩] W fun e w' => e = .returned (.bool true) ∧ w' = W):=fun W => by have:=HE.out W; rw [hee] at this; exact this
      clear hee HE HT hl
      go_enter Tryz.func74,Tryz.ntmps74
      go_wp2_with fail
      refine cT'.mono ?_
      rintro e w' ⟨rfl,hw'⟩
      subst hw'
      go_wp2_with fail
      refine (HK.out _ l HH.out (Fp.refl _ _ _) (by omega) (by simp)).mono ?_
      rintro e w2 ⟨rfl,h2,f2⟩
      have hz2:=f2.below.size
      have HH2:=Lib.hid h2
      have HF2:=Lib.hid f2
      have x2:=h2.cell2
      have fz:=h2.frozen 2
      have hb2:=h2.lt
      clear c2 h2 f2
      go_wp2_with fail
      refine (HE2.out _).mono ?_
      rintro e w' ⟨rfl,hw'⟩
      subst hw'
      go_wp2_with fail
      refine (HK2.out _ (l ++ t) false (HH2.out.flag false) (HF2.out.flag hle _) (by simp; omega)).mono ?_
      rintro e w3 ⟨rfl,h3,f3⟩
      have HH3:=Lib.hid h3
      have HF3:=Lib.hid f3
      clear h3 f3
      go_wp2
      go_end0
      exact ⟨rfl,by rw [HP.out]; simpa using HH3.out,HF3.out⟩
  · have HH:=Lib.hid h
    clear h
    cases hee : endsB t
    · rw [hee] at HP
      have HE2 : Hid (∀ W,Calls Tryz.prog 113 #[.string ⟨t.toArray⟩] W fun e w' => e = .returned (.bool false) ∧ w' = W):=fun W => by have:=HE.out W; rw [hee] at this; exact this
      clear hee HE HT hl
      go_enter Tryz.func74,Tryz.ntmps74
      go_wp2_with fail
      refine cT'.mono ?_
      rintro e w' ⟨rfl,hw'⟩
      subst hw'
      go_wp2_with fail
      refine (writeByte_any B b l true 32 _ HH.out (by omega) (by omega)).mono ?_
      rintro e w1 ⟨rfl,h1,f1⟩
      have hz1:=f1.below.size
      have HH1:=Lib.hid h1
      have HF1:=Lib.hid f1
      clear h1 f1
      go_wp2_with fail
      refine (HK.out _ (l ++ [32]) HH1.out HF1.out (by simp; omega) (by simp)).mono ?_
      rintro e w2 ⟨rfl,h2,f2⟩
      have hz2:=f2.below.size
      have HH2:=Lib.hid h2
      have HF2:=Lib.hid f2
      have x2:=h2.cell2
      have fz:=h2.frozen 2
      have hb2:=h2.lt
      clear c2 h2 f2
      go_wp2_with fail
      refine (HE2.out _).mono ?_
      rintro e w' ⟨rfl,hw'⟩
      subst hw'
      go_wp2
      go_end0
      exact ⟨rfl,by rw [HP.out]; simpa using HH2.out.flag true,HF2.out.flag hle _⟩
    · rw [hee] at HP
      have HE2 : Hid (∀ W,Calls Tryz.prog 113 #[.string ⟨t.toArray⟩] W fun e w' => e = .returned (.bool true) ∧ w' = W):=fun W => by have:=HE.out W; rw [hee] at this; exact this
      clear hee HE HT hl
      go_enter Tryz.func74,Tryz.ntmps74
      go_wp2_with fail
      refine cT'.mono ?_
      rintro e w' ⟨rfl,hw'⟩
      subst hw'
      go_wp2_with fail
      refine (writeByte_any B b l true 32 _ HH.out (by omega) (by omega)).mono ?_
      rintro e w1 ⟨rfl,h1,f1⟩
      have hz1:=f1.below.size
      have HH1:=Lib.hid h1
      have HF1:=Lib.hid f1
      clear h1 f1
      go_wp2_with fail
      refine (HK.out _ (l ++ [32]) HH1.out HF1.out (by simp; omega) (by simp)).mono ?_
      rintro e w2 ⟨rfl,h2,f2⟩
      have hz2:=f2.below.size
      have HH2:=Lib.hid h2
      have HF2:=Lib.hid f2
      have x2:=h2.cell2
      have fz:=h2.frozen 2
      have hb2:=h2.lt
      clear c2 h2 f2
      go_wp2_with fail
      refine (HE2.out _).mono ?_
      rintro e w' ⟨rfl,hw'⟩
      subst hw'
      go_wp2_with fail
      refine (HK2.out _ ((l ++ [32]) ++ t) false (HH2.out.flag false) (HF2.out.flag hle _) (by simp; omega)).mono ?_
      rintro e w3 ⟨rfl,h3,f3⟩
      have HH3:=Lib.hid h3
      have HF3:=Lib.hid f3
      clear h3 f3
      go_wp2
      go_end0
      exact ⟨rfl,by rw [HP.out]; simpa using HH3.out,HF3.out⟩
set_option maxRecDepth 20000 in
set_option maxHeartbeats 2000000 in
theorem put_any (B b : Nat) (s : PS) (ts : List (List UInt8)) (w : World) (h : Pn B b s w) (hB : B ≤ w.heap.size) (g c : Nat) (cs : Array Value) (fz : Nat × Nat) (hn : ts.length ≤ 1000)
    (hg : w.heap[g]? = some (.cells cs 9 fz)) (hgb : g ≠ b) (hc : ∀ (k : Nat) t,ts[k]? = some t → cs[k]? = some (.string ⟨t.toArray⟩)) (ht : ∀ t ∈ ts,t.length ≤ 1000000) :
    Calls Tryz.prog 44 #[.pointer (some ⟨b,0,none⟩),.slice (some ⟨g,0,none⟩) ts.length c] w (OutW B b s ts w):=by
  have HC:=Lib.hid hc
  have HG:=Lib.hid hg
  have HT:=Lib.hid ht
  have HH:=Lib.hid h
  clear hc hg ht h
  go_enter Tryz.func44,Tryz.ntmps44
  go_wp2_with fail
  go_loopw [8] (fun v wr => ∃ k : Nat,k ≤ ts.length ∧ v = .int .i64 k ∧ Hid (Pn B b (puts s (ts.take k)) wr) ∧ Hid (Fp B b w wr)) (fun v _ => ts.length - (intOf v).toNat)
  case atStart => exact ⟨0,Nat.zero_le _,rfl,HH.out,Fp.refl _ _ _⟩
  case round =>
   obtain ⟨k,hk,rfl,HP,HF⟩:=hrel
   have hzr:=HF.out.below.size
   by_cases hlt : k < ts.length
   · obtain ⟨t,ht⟩ : ∃ t,ts[k]? = some t:=⟨_,List.getElem?_eq_getElem hlt⟩
     have hgr : wr.heap[g]? = some (.cells cs 9 fz):=HF.out.kept g _ HG.out (by simpa using hgb) (fun c f e => by injection e with _ h2 _; revert h2; decide)
     have xc : wr.cell? ⟨g,k,none⟩ = some (.string ⟨t.toArray⟩):=(Lib.cell_of_heap hgr k).trans (HC.out k t ht)
     have cP:=putOne_any B b (puts s (ts.take k)) t wr HP.out (by omega) (HT.out t (List.mem_of_getElem? ht))
     have HX : Hid (ts.take (k + 1) = ts.take k ++ [t]):=by
      show _ = _
      rw [List.take_add_one,ht]; rfl
     clear ht hgr
     go_wp2_with fail
     refine cP.mono ?_
     rintro e w2 ⟨rfl,h2,f2⟩
     have HP2:=Lib.hid h2
     have HF2:=Lib.hid f2
     clear h2 f2 cP
     go_wp2
     go_roundw
     case rel => exact ⟨k + 1,hlt,by go_num,by show Pn _ _ _ _; rw [HX.out,puts_append]; exact HP2.out,HF.out.trans HF2.out⟩
     case measure => simp [intOf]; omega
   · have HX : Hid (ts.take k = ts):=List.take_of_length_le (by omega)
     go_wp2
     go_end0
     exact ⟨rfl,by rw [← HX.out]; exact HP.out,HF.out⟩
end Go.Proofs.YtffnaknidofobaaGreatDoor

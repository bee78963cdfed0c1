/- Tests of assignments; the one kid of a list. -/
import Derived.Test.YtffnaknidofobaaGreatDoorSndDJt
import Derived.Test.YtffnaknidofobaaGreatDoorPrAJt
import Derived.Shelf.Strconv.Itoa3
namespace Go.Proofs.YtffnaknidofobaaGreatDoor
open Go.RowKit
attribute [local go_sem ↓] Go.wp_at_zero Go.wp_at_succ
theorem Lst.kid0 {w : World} {S : Nat → Prop} {ks : List Tr} {ao : Option Addr} {n c : Nat} {a : Tr} (hL : Lst w S ks (.slice ao n c)) (ha : ks[0]? = some a) (hS : ∀ b,S b → b < w.heap.size) :
    ∃ g o a0 n0 q0,ao = some ⟨g,o,none⟩ ∧ w.cell? ⟨g,o,none⟩ = some (.int .i64 a.kind) ∧ w.cell? ⟨g,o + 1,none⟩ = some (.string ⟨a.text.toArray⟩) ∧ w.cell? ⟨g,o + 2,none⟩ = some (.int .i64 a.num) ∧ w.cell? ⟨g,o + 3,none⟩ = some (.slice a0 n0 q0) ∧ g < w.heap.size ∧ KT w S a (.slice a0 n0 q0):=by
  obtain ⟨sls,h1,h2⟩:=hL
  rcases h1 with ⟨h0,ao',cap,e⟩ | ⟨g,o,cap,e,_,hg,hc⟩
  · rw [List.eq_nil_of_length_eq_zero h0] at ha; cases ha
  · injection e with e1 e2 e3
    have hl : 0 < ks.length:=by
     rcases Nat.lt_or_ge 0 ks.length with h | h
     · exact h
     · rw [List.getElem?_eq_none h] at ha; cases ha
    obtain ⟨sl,hs⟩ : ∃ sl,sls[0]? = some sl:=⟨_,List.getElem?_eq_getElem (by rw [h2.length]; exact hl)⟩
    have hk:=h2.get ha hs
    obtain ⟨a0,n0,q0,rfl⟩:=hk.slice
    obtain ⟨q0',q1,q2,q3⟩:=cellsOf_get ha hs
    exact ⟨g,o,a0,n0,q0,e1,hc _ _ q0',hc _ _ q1,hc _ _ q2,hc _ _ q3,hS g hg,hk⟩
theorem Lst.kid1 {w : World} {S : Nat → Prop} {ks : List Tr} {ao : Option Addr} {n c : Nat} (hL : Lst w S ks (.slice ao n c)) (hl : ks.length = 1) (hS : ∀ b,S b → b < w.heap.size) :
    ∃ a g o a0 n0 q0,ks = [a] ∧ ao = some ⟨g,o,none⟩ ∧ w.cell? ⟨g,o + 0,none⟩ = some (.int .i64 a.kind) ∧ w.cell? ⟨g,o + 1,none⟩ = some (.string ⟨a.text.toArray⟩) ∧ w.cell? ⟨g,o + 2,none⟩ = some (.int .i64 a.num) ∧ w.cell? ⟨g,o + 3,none⟩ = some (.slice a0 n0 q0) ∧ g < w.heap.size ∧ KT w S a (.slice a0 n0 q0):=by
  match ks,hl with
  | [a],_ =>
   obtain ⟨g,o,a0,n0,q0,h⟩:=hL.kid0 (a:=a) rfl hS
   exact ⟨a,g,o,a0,n0,q0,rfl,h⟩
set_option maxRecDepth 20000 in
set_option maxHeartbeats 4000000 in
theorem asg_any {g n : Nat} {p : Tr → Bool} {r : Q → Tr → Bool} (he : Enters Tryz.prog g) (T1 : Tst g n p) (hExp : Tst 153 n (r .exp)) (k : Int) (s : List UInt8) (m : Int) (ks : List Tr) (ao : Option Addr) (c : Nat) (S : Nat → Prop) (w : World) (hG : Gl w) (hS : ∀ b,S b → b < w.heap.size) (hF : Fit (n + 1) (.mk k s m ks)) (hk : KT w S (.mk k s m ks) (.slice ao ks.length c)) :
    Calls Tryz.prog 154 #[.agg #[.int .i64 k,.string ⟨s.toArray⟩,.int .i64 m,.slice ao ks.length c],.func (.func g) #[] #[]] w fun e w' => e = .returned (.bool (asgB r p (.mk k s m ks))) ∧ Below w.heap.size w w':=by
  obtain ⟨hF1,hF2,hF3⟩:=hF
  change ∀ t ∈ ks,Fit _ t at hF3
  change ks.length ≤ 20000 at hF1
  have hL:=Lst.of hk
  have HR : Hid (asgB r p (.mk k s m ks) = (numberedT (.mk k s m ks) && (decide (0 < m) && (decide (m < ks.length) && ((ks.take m.toNat).all p && ks.all (r .exp)))))):=rfl
  have hX0:=Hx.start (w:=w) (c0:=.int .i64 k) (c1:=.string ⟨s.toArray⟩) (c2:=.int .i64 m) (c3:=.slice ao ks.length c)
  have c1:=numberedW hX0.out (.mk k s m ks) ao ks.length c
  by_cases hm : 0 < m
  · by_cases hm2 : m < ks.length
    · obtain ⟨j,rfl⟩ : ∃ j : Nat,m = j:=⟨m.toNat,by omega⟩
      have hj : j ≤ ks.length:=by omega
      have hj1 : 0 < j:=by omega
      have hj2 : j < ks.length:=by omega
      have HR' : Hid (asgB r p (.mk k s j ks) = (numberedT (.mk k s j ks) && ((ks.take j).all p && ks.all (r .exp)))):=HR.out.trans (by simp [hj1,hj2])
      have hl1 : (ks.take j).length = j:=by simp [hj]
      have hF4 : ∀ t ∈ ks.take j,Fit n t:=fun t h => hF3 t (List.mem_of_mem_take h)
      have hL':=hL
      obtain ⟨sls,hr,hkl⟩:=hL'
      clear HR hm hm2
      rcases hr with ⟨e0,ao,cap,e⟩ | ⟨gb,o,cap,e,hcp,hg,hc⟩
      · omega
      · injection e with e1 e2 e3
        subst e1 e3
        obtain ⟨L1,_⟩:=Lst.parts (w:=w) (ts:=ks.take j) (us:=ks.drop j) hg (by rwa [List.take_append_drop]) (by rwa [List.take_append_drop]) c (c - j) (by omega) (by simp; omega)
        clear hc hkl e2
        go_enter Tryz.func154,Tryz.ntmps154
        go_wp2_with fail
        refine c1.mono ?_
        rintro e w1 ⟨rfl,hb1⟩
        have hX1:=hX0.next hb1
        clear c1
        obtain ⟨x0,x1,x2,x3⟩:=hX1.cells
        cases h1 : numberedT (.mk k s j ks) with
        | false =>
         have HX : Hid (asgB r p (.mk k s j ks) = false):=HR'.out.trans (by rw [h1]; rfl)
         clear h1
         go_wp2
         go_ret
         exact ⟨congrArg (fun b => Ending.returned (Value.bool b)) HX.out.symm,hX1.out⟩
        | true =>
         have HR1 : Hid (asgB r p (.mk k s j ks) = ((ks.take j).all p && ks.all (r .exp))):=HR'.out.trans (by rw [h1]; rfl)
         clear h1
         have c2:=everyW he T1 hG hS hF4 (by omega) L1 hX1.out
         rw [hl1] at c2
         go_wp2_with fail
         refine c2.mono ?_
         rintro e w2 ⟨rfl,hb2⟩
         have hX2:=hX1.next hb2
         clear c2 x0 x1 x2 x3
         obtain ⟨x0,x1,x2,x3⟩:=hX2.cells
         cases h2 : (ks.take j).all p with
         | false =>
          have HX : Hid (asgB r p (.mk k s j ks) = false):=HR1.out.trans (by rw [h2]; rfl)
          clear h2
          go_wp2
          go_ret
          exact ⟨congrArg (fun b => Ending.returned (Value.bool b)) HX.out.symm,hX2.out⟩
         | true =>
          have HX : Hid (asgB r p (.mk k s j ks) = ks.all (r .exp)):=HR1.out.trans (by rw [h2]; rfl)
          clear h2
          have c3:=everyW ent_exp hExp hG hS hF3 hF1 hL hX2.out
          go_wp2_with fail
          refine c3.mono ?_
          rintro e w3 ⟨rfl,hb3⟩
          have hX3:=hX2.next hb3
          clear c3
          go_wp2
          go_ret
          exact ⟨congrArg (fun b => Ending.returned (Value.bool b)) HX.out.symm,hX3.out⟩
    · have HX : Hid (asgB r p (.mk k s m ks) = false):=HR.out.trans (by simp [hm2])
      clear HR
      go_enter Tryz.func154,Tryz.ntmps154
      go_wp2_with fail
      refine c1.mono ?_
      rintro e w1 ⟨rfl,hb1⟩
      have hX1:=hX0.next hb1
      clear c1
      obtain ⟨x0,x1,x2,x3⟩:=hX1.cells
      cases h1 : numberedT (.mk k s m ks) with
      | false =>
       clear h1
       go_wp2
       go_ret
       exact ⟨congrArg (fun b => Ending.returned (Value.bool b)) HX.out.symm,hX1.out⟩
      | true =>
       clear h1
       go_wp2
       go_ret
       exact ⟨congrArg (fun b => Ending.returned (Value.bool b)) HX.out.symm,hX1.out⟩
  · have HX : Hid (asgB r p (.mk k s m ks) = false):=HR.out.trans (by simp [hm])
    clear HR
    go_enter Tryz.func154,Tryz.ntmps154
    go_wp2_with fail
    refine c1.mono ?_
    rintro e w1 ⟨rfl,hb1⟩
    have hX1:=hX0.next hb1
    clear c1
    obtain ⟨x0,x1,x2,x3⟩:=hX1.cells
    cases h1 : numberedT (.mk k s m ks) with
    | false =>
     clear h1
     go_wp2
     go_ret
     exact ⟨congrArg (fun b => Ending.returned (Value.bool b)) HX.out.symm,hX1.out⟩
    | true =>
     clear h1
     go_wp2
     go_ret
     exact ⟨congrArg (fun b => Ending.returned (Value.bool b)) HX.out.symm,hX1.out⟩
theorem asgW {g n : Nat} {p : Tr → Bool} {r : Q → Tr → Bool} {k : Int} {s : List UInt8} {m : Int} {ks : List Tr} {ao : Option Addr} {c : Nat} {S : Nat → Prop} {w W : World} (he : Enters Tryz.prog g) (T1 : Tst g n p) (hExp : Tst 153 n (r .exp)) (hG : Gl w) (hS : ∀ b,S b → b < w.heap.size) (hF : Fit (n + 1) (.mk k s m ks)) (hk : KT w S (.mk k s m ks) (.slice ao ks.length c)) (hB : Below w.heap.size w W) :
    Calls Tryz.prog 154 #[.agg #[.int .i64 k,.string ⟨s.toArray⟩,.int .i64 m,.slice ao ks.length c],.func (.func g) #[] #[]] W fun e w' => e = .returned (.bool (asgB r p (.mk k s m ks))) ∧ Below W.heap.size W w' :=
  asg_any he T1 hExp k s m ks ao c S W (hG.later hB) (fun b hb => Nat.lt_of_lt_of_le (hS b hb) hB.size) hF (hk.fr (fun b hb => hB.block b (hS b hb)) (fun _ h => h))
end Go.Proofs.YtffnaknidofobaaGreatDoor

namespace Go.Proofs.YtffnaknidofobaaGreatDoor
open Go.RowKit
abbrev Wd:=List UInt8
def commasT (f : Tr → List Wd) : List Tr → List Wd
  | [] => []
  | t :: ts => f t ++ ts.flatMap fun u => [44] :: f u
theorem commasT_snoc (f : Tr → List Wd) (a : List Tr) (t : Tr) : commasT f (a ++ [t]) = commasT f a ++ ((if 0 < a.length then [[44]] else []) ++ f t):=by
 cases a with
 | nil => simp [commasT]
 | cons x r => simp [commasT,List.flatMap_append]
def listedT (o s : Wd) (f : Tr → List Wd) (ts : List Tr) : List Wd:=[o] ++ (commasT f ts ++ [s])
def membersT (f : Tr → List Wd) (ts : List Tr) : List Wd:=[[123]] ++ (ts.flatMap f ++ [[125]])
/-- The package variables that the library reads, below block B. -/
structure Gw (B : Nat) (w : World) : Prop where
  gl : Gl w
  tab : Lib.TabIs Tryz.prog w "internal/strconv.uint64pow10" .u64 Lib.pow10Tab
  le : 6 ≤ B
theorem Gw.later {B : Nat} {w W : World} (h : Gw B w) (hb : Below B w W) : Gw B W:=by
 have hle:=h.le
 obtain ⟨⟨t1,p1,h1⟩,⟨t2,p2,h2⟩,hz⟩:=h.gl
 refine ⟨⟨⟨t1,p1,(hb.cell (p:=⟨1,0,none⟩) (by show 1 < _; omega)).trans h1⟩,⟨t2,p2,(hb.cell (p:=⟨2,0,none⟩) (by show 2 < _; omega)).trans h2⟩,Nat.le_trans hz hb.size⟩,?_,h.le⟩
 have hg : Tryz.prog.globalNamed "internal/strconv.uint64pow10" = some 0 := by kernel_rfl
 have ht:=h.tab
 unfold Lib.TabIs World.var? at ht ⊢
 rw [hg] at ht ⊢
 have e0 : W.heap[0]? = w.heap[0]?:=hb.block 0 (by omega)
 simp only [Option.bind_some,e0] at ht ⊢
 exact ht
/-- A call of f writes these tokens of that tree. -/
def Wr (f : Nat) (t : Tr) (tk : List Wd) : Prop:=∀ (B b : Nat) (s : PS) (w : World) (sl : Value),Gw B w → Pn B b s w → B ≤ w.heap.size → KT w (· < B) t sl →
  Calls Tryz.prog f #[.pointer (some ⟨b,0,none⟩),tv t sl] w (OutW B b s tk w)
theorem kt_below {B : Nat} {w W : World} {t : Tr} {sl : Value} (h : KT w (· < B) t sl) (hb : Below B w W) : KT W (· < B) t sl:=h.fr (fun b hb' => hb.block b hb') (fun _ h => h)
theorem lst_below {B : Nat} {w W : World} {ts : List Tr} {sl : Value} (h : Lst w (· < B) ts sl) (hb : Below B w W) : Lst W (· < B) ts sl:=h.fr (fun b hb' => hb.block b hb') (fun _ h => h)
theorem OutW.nil {B b : Nat} {s : PS} {w : World} (h : Pn B b s w) : OutW B b s [] w (.returned (.tuple #[])) w:=⟨rfl,h,Fp.refl _ _ _⟩
set_option maxRecDepth 20000 in
set_option maxHeartbeats 2000000 in
theorem eachW {f : Nat} (he : Enters Tryz.prog f) (pr : Tr → List Wd) (B b : Nat) (s : PS) (w : World) (ts : List Tr) (sl : Value) (hG : Gw B w) (h : Pn B b s w) (hB : B ≤ w.heap.size) (hL : Lst w (· < B) ts sl) (hn : ts.length ≤ 20000)
    (hI : ∀ t ∈ ts,Wr f t (pr t)) : Calls Tryz.prog 30 #[sl,.func (.func f) #[.pointer (some ⟨b,0,none⟩)] #[]] w (OutW B b s (ts.flatMap pr) w):=by
  have eg : ∀ args w,(callFunc f args).run Tryz.prog w = .ok (.enter f args) w:=he
  have HI:=Lib.hid hI
  have HL:=Lib.hid hL
  have HH:=Lib.hid h
  have HG:=Lib.hid hG
  obtain ⟨sls,h1,h2⟩:=hL
  rcases h1 with ⟨h0,ao,cap,rfl⟩ | ⟨gb,o,cap,rfl,hcp,hg,hc⟩
  · have hu : ts = []:=List.eq_nil_of_length_eq_zero h0
    subst hu
    clear h2 hI HI hG h
    go_enter Tryz.func30,Tryz.ntmps30
    go_wp2_with fail
    go_loopw [8] (fun v wr => v = .int .i64 0 ∧ wr = w) (fun _ _ => 0)
    case atStart => exact ⟨rfl,rfl⟩
    case round =>
     obtain ⟨rfl,rfl⟩:=hrel
     go_wp2
     go_end0
     exact OutW.nil HH.out
  · have HC:=Lib.hid hc
    have HK:=Lib.hid h2
    have hg' : gb < B:=hg
    clear hI hc h2 hG h hg
    go_enter Tryz.func30,Tryz.ntmps30
    go_wp2_with fail
    go_loopw [8] (fun v wr => ∃ k : Nat,k ≤ ts.length ∧ v = .int .i64 k ∧ Hid (Pn B b (puts s ((ts.take k).flatMap pr)) wr) ∧ Hid (Fp B b w wr)) (fun v _ => ts.length - (intOf v).toNat)
    case atStart => exact ⟨0,Nat.zero_le _,rfl,HH.out,Fp.refl _ _ _⟩
    case round =>
     obtain ⟨k,hk,rfl,HP,HF⟩:=hrel
     have hzr:=HF.out.below.size
     by_cases hlt : k < ts.length
     · obtain ⟨t,ht⟩ : ∃ t,ts[k]? = some t:=⟨_,List.getElem?_eq_getElem hlt⟩
       obtain ⟨sl,hs⟩ : ∃ sl,sls[k]? = some sl:=⟨_,List.getElem?_eq_getElem (by rw [HK.out.length]; exact hlt)⟩
       have hkt:=HK.out.get ht hs
       obtain ⟨ao,nn,c,rfl⟩:=hkt.slice
       obtain ⟨q0,q1,q2,q3⟩:=cellsOf_get ht hs
       have r : ∀ o,wr.cell? ⟨gb,o,none⟩ = w.cell? ⟨gb,o,none⟩:=fun o => HF.out.below.cell (p:=⟨gb,o,none⟩) hg'
       have x0 : wr.cell? ⟨gb,o + k * 4,none⟩ = some (.int .i64 t.kind):=(r _).trans (HC.out _ _ q0)
       have x1 : wr.cell? ⟨gb,o + k * 4 + 1,none⟩ = some (.string ⟨t.text.toArray⟩):=(r _).trans (HC.out _ _ q1)
       have x2 : wr.cell? ⟨gb,o + k * 4 + 2,none⟩ = some (.int .i64 t.num):=(r _).trans (HC.out _ _ q2)
       have x3 : wr.cell? ⟨gb,o + k * 4 + 3,none⟩ = some (.slice ao nn c):=(r _).trans (HC.out _ _ q3)
       have hba : Below B w (wr.alloc (.cells #[.int .i64 t.kind,.string ⟨t.text.toArray⟩,.int .i64 t.num,.slice ao nn c] 24)):=HF.out.below.alloc (by omega) _
       have cT:=HI.out t (List.mem_of_getElem? ht) B b _ _ (.slice ao nn c) (HG.out.later hba) (HP.out.alloc (.cells #[.int .i64 t.kind,.string ⟨t.text.toArray⟩,.int .i64 t.num,.slice ao nn c] 24)) (by simp; omega) (kt_below hkt hba)
       have HA:=Lib.hid (HF.out.trans (Fp.of_below (B:=B) (b:=b) (by omega) ((Below.refl wr.heap.size wr).alloc (Nat.le_refl _) (.cells #[.int .i64 t.kind,.string ⟨t.text.toArray⟩,.int .i64 t.num,.slice ao nn c] 24))))
       have HX : Hid (ts.take (k + 1) = ts.take k ++ [t]):=by
        show _ = _
        rw [List.take_add_one,ht]; rfl
       have hgl : gb < wr.heap.size:=by omega
       clear ht hs q0 q1 q2 q3 r hkt hba
       go_wp2_with fail
       refine cT.mono ?_
       rintro e w2 ⟨rfl,h2,f2⟩
       have HP2:=Lib.hid h2
       have HF2:=Lib.hid f2
       clear h2 f2 cT
       go_wp2
       go_roundw
       case rel => exact ⟨k + 1,hlt,by go_num,by show Pn _ _ _ _; rw [HX.out,List.flatMap_append,puts_append]; simpa using HP2.out,HA.out.trans HF2.out⟩
       case measure => simp [intOf]; omega
     · have HX : Hid (ts.take k = ts):=List.take_of_length_le (by omega)
       go_wp2
       go_end0
       exact ⟨rfl,by have:=HP.out; rw [HX.out] at this; exact this,HF.out⟩
end Go.Proofs.YtffnaknidofobaaGreatDoor

namespace Go.Proofs.YtffnaknidofobaaGreatDoor
open Go.RowKit
abbrev nbx (t : Tr) (sl : Value) : Obj:=.cells #[.int .i64 t.kind,.string ⟨t.text.toArray⟩,.int .i64 t.num,sl] 24
set_option maxRecDepth 20000 in
theorem Fp.box {B b : Nat} {w W : World} (h : Fp B b w W) {m : Nat} {cs : Array Value} {fz : Nat × Nat} (hm : w.heap[m]? = some (.cells cs 24 fz)) (hne : m ≠ b) : W.heap[m]? = some (.cells cs 24 fz) :=
  h.kept m _ hm (by simpa using hne) (fun c f e => by injection e with _ h2 _; revert h2; decide)
set_option maxRecDepth 20000 in
theorem Fp.new {B b : Nat} {w : World} (hB : B ≤ w.heap.size) (o : Obj) : Fp B b w (w.alloc o):=Fp.of_below hB ((Below.refl _ _).alloc (Nat.le_refl _) _)
set_option maxRecDepth 20000 in
theorem OutW.from {B b : Nat} {s : PS} {ts : List Wd} {u w w' : World} {e : Ending} (h : OutW B b s ts w e w') (k : Fp B b u w) : OutW B b s ts u e w':=⟨h.1,h.2.1,k.trans h.2.2⟩
set_option maxRecDepth 20000 in
theorem putAt {B b : Nat} {s : PS} {w : World} (hp : Pn B b s w) (hB : B ≤ w.heap.size) (ts : List Wd) (hn : ts.length ≤ 1000) (ht : ∀ t ∈ ts,t.length ≤ 1000000) (cs : Array Value) (hcs : cs = (ts.map fun t => Value.string ⟨t.toArray⟩).toArray) :
    Calls Tryz.prog 44 #[.pointer (some ⟨b,0,none⟩),.slice (some ⟨w.heap.size,0,none⟩) ts.length ts.length] (w.alloc (.cells cs 9)) (OutW B b s ts w):=by
  have hb:=hp.lt
  refine (put_any B b s ts (w.alloc (.cells cs 9)) (hp.alloc _) (by simp; omega) w.heap.size ts.length cs (0,0) hn (heap_alloc_new w _) (by omega) (fun k t hk => ?_) ht).mono ?_
  · subst hcs; simp [hk]
  · rintro e w' h
    exact h.from (Fp.new hB _)
set_option maxRecDepth 20000 in
set_option maxHeartbeats 4000000 in
theorem commasW {f : Nat} (he : Enters Tryz.prog f) (pr : Tr → List Wd) (B b : Nat) (s : PS) (w : World) (ts : List Tr) (sl : Value) (hG : Gw B w) (h : Pn B b s w) (hB : B ≤ w.heap.size) (hL : Lst w (· < B) ts sl) (hn : ts.length ≤ 20000)
    (hI : ∀ t ∈ ts,Wr f t (pr t)) : Calls Tryz.prog 104 #[.pointer (some ⟨b,0,none⟩),sl,.func (.func f) #[.pointer (some ⟨b,0,none⟩)] #[]] w (OutW B b s (commasT pr ts) w):=by
  have eg : ∀ args w,(callFunc f args).run Tryz.prog w = .ok (.enter f args) w:=he
  have HI:=Lib.hid hI
  have HH:=Lib.hid h
  have HG:=Lib.hid hG
  obtain ⟨sls,h1,h2⟩:=hL
  rcases h1 with ⟨h0,ao,cap,rfl⟩ | ⟨gb,o,cap,rfl,hcp,hg,hc⟩
  · have hu : ts = []:=List.eq_nil_of_length_eq_zero h0
    subst hu
    clear h2 hI HI hG h
    go_enter Tryz.func104,Tryz.ntmps104
    go_wp2_with fail
    go_loopw [6,10] (fun u v wr => v = .int .i64 0 ∧ wr = w) (fun _ _ _ => 0)
    case atStart => exact ⟨rfl,rfl⟩
    case round =>
     obtain ⟨rfl,rfl⟩:=hrel
     go_wp2
     go_end0
     exact OutW.nil HH.out
  · have HC:=Lib.hid hc
    have HK:=Lib.hid h2
    have hg' : gb < B:=hg
    clear hI hc h2 hG h hg
    go_enter Tryz.func104,Tryz.ntmps104
    go_wp2_with fail
    go_loopw [6,10] (fun u v wr => ∃ k : Nat,k ≤ ts.length ∧ v = .int .i64 k ∧ Hid (Pn B b (puts s (commasT pr (ts.take k))) wr) ∧ Hid (Fp B b w wr)) (fun _ v _ => ts.length - (intOf v).toNat)
    case atStart => exact ⟨0,Nat.zero_le _,rfl,HH.out,Fp.refl _ _ _⟩
    case round =>
     obtain ⟨k,hk,rfl,HP,HF⟩:=hrel
     have hzr:=HF.out.below.size
     by_cases hlt : k < ts.length
     · obtain ⟨t,ht⟩ : ∃ t,ts[k]? = some t:=⟨_,List.getElem?_eq_getElem hlt⟩
       obtain ⟨sl,hs⟩ : ∃ sl,sls[k]? = some sl:=⟨_,List.getElem?_eq_getElem (by rw [HK.out.length]; exact hlt)⟩
       have hkt:=HK.out.get ht hs
       obtain ⟨ao,nn,c,rfl⟩:=hkt.slice
       obtain ⟨q0,q1,q2,q3⟩:=cellsOf_get ht hs
       have r : ∀ o,wr.cell? ⟨gb,o,none⟩ = w.cell? ⟨gb,o,none⟩:=fun o => HF.out.below.cell (p:=⟨gb,o,none⟩) hg'
       have x0 : wr.cell? ⟨gb,o + k * 4,none⟩ = some (.int .i64 t.kind):=(r _).trans (HC.out _ _ q0)
       have x1 : wr.cell? ⟨gb,o + k * 4 + 1,none⟩ = some (.string ⟨t.text.toArray⟩):=(r _).trans (HC.out _ _ q1)
       have x2 : wr.cell? ⟨gb,o + k * 4 + 2,none⟩ = some (.int .i64 t.num):=(r _).trans (HC.out _ _ q2)
       have x3 : wr.cell? ⟨gb,o + k * 4 + 3,none⟩ = some (.slice ao nn c):=(r _).trans (HC.out _ _ q3)
       have HA : Hid (Fp B b w (wr.alloc (nbx t (.slice ao nn c)))):=HF.out.trans (Fp.new (by omega) _)
       have HPA:=Lib.hid (HP.out.alloc (nbx t (.slice ao nn c)))
       have HKT:=Lib.hid hkt
       have HW:=Lib.hid (HI.out t (List.mem_of_getElem? ht))
       have HX : Hid (commasT pr (ts.take (k + 1)) = commasT pr (ts.take k) ++ ((if 0 < k then [[44]] else []) ++ pr t)):=by
        show _ = _
        rw [List.take_add_one,ht,Option.toList_some,commasT_snoc]
        simp [Nat.min_eq_left (Nat.le_of_lt hlt)]
       have hgl : gb < wr.heap.size:=by omega
       have hbl:=HP.out.lt
       clear ht hs q0 q1 q2 q3 r hkt
       by_cases hk0 : k = 0
       · have hd : decide (0 < k) = false:=by simp; omega
         have HX2 : Hid (commasT pr (ts.take (k + 1)) = commasT pr (ts.take k) ++ pr t):=HX.out.trans (by rw [if_neg (by omega)]; rfl)
         clear HX hk0
         have cT:=HW.out B b _ _ (.slice ao nn c) (HG.out.later HA.out.below) HPA.out (by simp; omega) (kt_below HKT.out HA.out.below)
         go_wp2_with fail
         refine cT.mono ?_
         rintro e w2 ⟨rfl,h2,f2⟩
         have HP2:=Lib.hid h2
         have HF2:=Lib.hid f2
         clear h2 f2 cT
         go_wp2
         go_roundw
         case rel => exact ⟨k + 1,hlt,by go_num,by show Pn _ _ _ _; rw [HX2.out,puts_append]; exact HP2.out,HA.out.trans HF2.out⟩
         case measure => simp [intOf]; omega
       · have hd : decide (0 < (k : Int)) = true:=by simp; omega
         have HX2 : Hid (commasT pr (ts.take (k + 1)) = commasT pr (ts.take k) ++ ([[44]] ++ pr t)):=HX.out.trans (by rw [if_pos (by omega)])
         have cP:=putAt HPA.out (by simp; omega) [[44]] (by decide) (by decide) #[.string ⟨#[44]⟩] rfl
         simp only [World.size_alloc,List.length_cons,List.length_nil] at cP
         clear HX
         go_wp2_with fail
         refine cP.mono ?_
         rintro e w2 ⟨rfl,h2,f2⟩
         have hbx:=f2.box (heap_alloc_new wr _) (by omega)
         have y0 : w2.cell? ⟨wr.heap.size,0,none⟩ = some (.int .i64 t.kind):=by rw [Lib.cell_of_heap hbx]; rfl
         have y1 : w2.cell? ⟨wr.heap.size,1,none⟩ = some (.string ⟨t.text.toArray⟩):=by rw [Lib.cell_of_heap hbx]; rfl
         have y2 : w2.cell? ⟨wr.heap.size,2,none⟩ = some (.int .i64 t.num):=by rw [Lib.cell_of_heap hbx]; rfl
         have y3 : w2.cell? ⟨wr.heap.size,3,none⟩ = some (.slice ao nn c):=by rw [Lib.cell_of_heap hbx]; rfl
         have HP2:=Lib.hid h2
         have HF2 : Hid (Fp B b w w2):=HA.out.trans f2
         have hz2:=f2.below.size
         rw [World.size_alloc] at hz2
         have cT:=HW.out B b _ _ (.slice ao nn c) (HG.out.later HF2.out.below) HP2.out (by omega) (kt_below HKT.out HF2.out.below)
         clear h2 f2 cP hbx x0 x1 x2 x3
         go_wp2_with fail
         refine cT.mono ?_
         rintro e w3 ⟨rfl,h3,f3⟩
         have HP3:=Lib.hid h3
         have HF3:=Lib.hid f3
         clear h3 f3 cT
         go_wp2
         go_roundw
         case rel => exact ⟨k + 1,hlt,by go_num,by show Pn _ _ _ _; rw [HX2.out,puts_append,puts_append]; exact HP3.out,HF2.out.trans HF3.out⟩
         case measure => simp [intOf]; omega
     · have HX : Hid (ts.take k = ts):=List.take_of_length_le (by omega)
       go_wp2
       go_end0
       exact ⟨rfl,by have:=HP.out; rw [HX.out] at this; exact this,HF.out⟩
set_option maxRecDepth 20000 in
set_option maxHeartbeats 2000000 in
theorem listedW {f : Nat} (he : Enters Tryz.prog f) (pr : Tr → List Wd) (op sh : Wd) (ho : op.length ≤ 1000000) (hs : sh.length ≤ 1000000) (B b : Nat) (s : PS) (w : World) (ts : List Tr) (sl : Value) (hG : Gw B w) (h : Pn B b s w) (hB : B ≤ w.heap.size) (hL : Lst w (· < B) ts sl) (hn : ts.length ≤ 20000)
    (hI : ∀ t ∈ ts,Wr f t (pr t)) : Calls Tryz.prog 65 #[.pointer (some ⟨b,0,none⟩),.string ⟨op.toArray⟩,.string ⟨sh.toArray⟩,sl,.func (.func f) #[.pointer (some ⟨b,0,none⟩)] #[]] w (OutW B b s (listedT op sh pr ts) w):=by
  have HH:=Lib.hid h
  have HG:=Lib.hid hG
  have HL:=Lib.hid hL
  have HI:=Lib.hid hI
  have c1:=putAt h hB [op] (by simp) (by simpa using ho) #[.string ⟨op.toArray⟩] rfl
  obtain ⟨ao,cap,rfl⟩:=hL.slice
  have hbl:=h.lt
  clear h hG hL hI
  go_enter Tryz.func65,Tryz.ntmps65
  go_wp2_with fail
  refine c1.mono ?_
  rintro e w1 ⟨rfl,h1,f1⟩
  have hz1:=f1.below.size
  have c2:=commasW he pr B b _ w1 ts _ (HG.out.later f1.below) h1 (by omega) (lst_below HL.out f1.below) hn HI.out
  have HF1:=Lib.hid f1
  clear c1 h1 f1
  go_wp2_with fail
  refine c2.mono ?_
  rintro e w2 ⟨rfl,h2,f2⟩
  have hz2:=f2.below.size
  have c3:=putAt h2 (by omega) [sh] (by simp) (by simpa using hs) #[.string ⟨sh.toArray⟩] rfl
  have HF2:=Lib.hid f2
  clear c2 h2 f2
  go_wp2_with fail
  refine c3.mono ?_
  rintro e w3 ⟨rfl,h3,f3⟩
  have HP3:=Lib.hid h3
  have HF3:=Lib.hid f3
  clear c3 h3 f3
  go_wp2
  go_end0
  exact ⟨rfl,by show Pn _ _ _ _; unfold listedT; rw [puts_append,puts_append]; exact HP3.out,(HF1.out.trans HF2.out).trans HF3.out⟩
set_option maxRecDepth 20000 in
set_option maxHeartbeats 2000000 in
theorem membersW {f : Nat} (he : Enters Tryz.prog f) (pr : Tr → List Wd) (B b : Nat) (s : PS) (w : World) (ts : List Tr) (sl : Value) (hG : Gw B w) (h : Pn B b s w) (hB : B ≤ w.heap.size) (hL : Lst w (· < B) ts sl) (hn : ts.length ≤ 20000)
    (hI : ∀ t ∈ ts,Wr f t (pr t)) : Calls Tryz.prog 62 #[.pointer (some ⟨b,0,none⟩),sl,.func (.func f) #[.pointer (some ⟨b,0,none⟩)] #[]] w (OutW B b s (membersT pr ts) w):=by
  have HG:=Lib.hid hG
  have HL:=Lib.hid hL
  have HI:=Lib.hid hI
  have c1:=putAt h hB [[123]] (by decide) (by decide) #[.string ⟨#[123]⟩] rfl
  obtain ⟨ao,cap,rfl⟩:=hL.slice
  have hbl:=h.lt
  clear h hG hL hI
  go_enter Tryz.func62,Tryz.ntmps62
  go_wp2_with fail
  refine c1.mono ?_
  rintro e w1 ⟨rfl,h1,f1⟩
  have hz1:=f1.below.size
  have c2:=eachW he pr B b _ w1 ts _ (HG.out.later f1.below) h1 (by omega) (lst_below HL.out f1.below) hn HI.out
  have HF1:=Lib.hid f1
  clear c1 h1 f1
  go_wp2_with fail
  refine c2.mono ?_
  rintro e w2 ⟨rfl,h2,f2⟩
  have hz2:=f2.below.size
  have c3:=putAt h2 (by omega) [[125]] (by decide) (by decide) #[.string ⟨#[125]⟩] rfl
  have HF2:=Lib.hid f2
  clear c2 h2 f2
  go_wp2_with fail
  refine c3.mono ?_
  rintro e w3 ⟨rfl,h3,f3⟩
  have HP3:=Lib.hid h3
  have HF3:=Lib.hid f3
  clear c3 h3 f3
  go_wp2
  go_end0
  exact ⟨rfl,by show Pn _ _ _ _; unfold membersT; rw [puts_append,puts_append]; exact HP3.out,(HF1.out.trans HF2.out).trans HF3.out⟩
end Go.Proofs.YtffnaknidofobaaGreatDoor

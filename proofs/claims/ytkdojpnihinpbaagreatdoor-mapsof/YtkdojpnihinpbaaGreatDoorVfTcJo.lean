/- takes: how many kinds an instruction takes, and what they must be. -/
import Derived.Test.YtkdojpnihinpbaaGreatDoorVfTaJo
namespace Go.Proofs.YtkdojpnihinpbaaGreatDoor
set_option maxRecDepth 100000
set_option maxHeartbeats 1000000
open Go.RowKit
section
variable {B A:Nat} {w w' : World} {p:Pg} {f:Fd} {V:Fv} {fi at_ mo:Int}
theorem tks_fit {n:Nat} {os:List Int} {W:World} {a:Option Addr} {cap:Nat} {T:TypeId} (hn:n≤1024) (hb:Below w.heap.size w W) (ho:∀ o∈os,isKB n o=true) (hl:os.length≤5000) (K:IsAt (fun _=>False) W (.slice a os.length cap) os):TksO n (.fit os) w (.returned (.tuple #[.int .i64 (os.length:Int),.func (.func 97) #[] #[.pointer (some ⟨W.heap.size,0,none⟩)]])) (W.alloc (.cells #[.slice a os.length cap] T)):=by
 have h1:Below W.heap.size W (W.alloc (.cells #[.slice a os.length cap] T)):=(Below.refl _ _).alloc (Nat.le_refl _) _
 exact ⟨_,_,rfl,fcl_fit hn ho (by omega) (cell_of (heap_new _ _ rfl) rfl) (K.keep (Kp.of_below h1)),bel_tr hb h1⟩
theorem tks_lit {n:Nat} {os:List Int} {W:World} {C:Array Value} {T1 T2:TypeId} (hn:n≤1024) (hb:Below w.heap.size w W) (ho:∀ o∈os,isKB n o=true) (hl:os.length≤4096) (hC:C=(os.map (Value.int .i64)).toArray):TksO n (.fit os) w (.returned (.tuple #[.int .i64 (os.length:Int),.func (.func 97) #[] #[.pointer (some ⟨W.heap.size+1,0,none⟩)]])) ((W.alloc (.cells C T1)).alloc (.cells #[.slice (some ⟨W.heap.size,0,none⟩) os.length os.length] T2)):=by
 subst hC
 have h1:Below W.heap.size W (W.alloc (.cells (os.map (Value.int .i64)).toArray T1)):=(Below.refl _ _).alloc (Nat.le_refl _) _
 have:=tks_fit (W:=W.alloc (.cells (os.map (Value.int .i64)).toArray T1)) (T:=T2) hn (bel_tr hb h1) ho (by omega) (isAt_new (X:=fun _=>False) (heap_new _ _ rfl) id hl)
 rw [World.size_alloc] at this
 exact this
theorem tks_each {n:Nat} {ps:List (Int→Bool)} {W:World} {C:Array Value} {T1 T2:TypeId} (hb:Below w.heap.size w W) (hl:ps.length≤2) (hC:∀ (i:Nat) (q:Int→Bool),ps[i]?=some q→∃ v,C[i]?=some v∧EaC n W v q):TksO n (.each ps) w (.returned (.tuple #[.int .i64 (ps.length:Int),.func (.func 99) #[] #[.pointer (some ⟨W.heap.size+1,0,none⟩)]])) ((W.alloc (.cells C T1)).alloc (.cells #[.slice (some ⟨W.heap.size,0,none⟩) ps.length ps.length] T2)):=by
 have h1:Below W.heap.size W (W.alloc (.cells C T1)):=(Below.refl _ _).alloc (Nat.le_refl _) _
 have h2:Below W.heap.size W ((W.alloc (.cells C T1)).alloc (.cells #[.slice (some ⟨W.heap.size,0,none⟩) ps.length ps.length] T2)):=h1.alloc h1.size _
 refine ⟨_,_,rfl,fcl_each hl (cell_of (heap_new _ _ (by simp)) rfl) fun i q hq=>?_,bel_tr hb h2⟩
 obtain ⟨v,hv,he⟩:=hC i q hq
 refine ⟨v,?_,he.keep h2⟩
 rw [Nat.zero_add]
 have h3:((W.alloc (.cells C T1)).alloc (.cells #[.slice (some ⟨W.heap.size,0,none⟩) ps.length ps.length] T2)).heap[W.heap.size]?=some (.cells C T1 (0,0)):=by rw [Below.heap_alloc _ _ _ (by simp)];exact heap_new _ _ rfl
 exact cell_of h3 hv
theorem tks_none {n:Nat} {W:World} {T:TypeId} {v:Value} (hb:Below w.heap.size w W):TksO n (.each []) w (.returned (.tuple #[.int .i64 0,.func (.func 99) #[] #[.pointer (some ⟨W.heap.size,0,none⟩)]])) (W.alloc (.cells #[v] T)) :=
  ⟨_,_,rfl,fcl_none,bel_tr hb ((Below.refl _ _).alloc (Nat.le_refl _) _)⟩
theorem tks_alike {n:Nat} {W:World} (hn:n≤1024) (hb:Below w.heap.size w W):TksO n .alike w (.returned (.tuple #[.int .i64 2,.func (.func 100) #[] #[.pointer (some ⟨W.heap.size,0,none⟩)]])) (W.alloc (.cells #[.int .i64 0] 3)) :=
  ⟨_,_,rfl,fcl_alike hn (heap_new _ _ rfl) hb.size,bel_tr hb ((Below.refl _ _).alloc (Nat.le_refl _) _)⟩
theorem kb_0 (n:Nat):isKB n 0=true:=by simp [isKB]
theorem kb_1 (n:Nat):isKB n 1=true:=by simp [isKB]
theorem eac_of_new {n:Nat} {W:World} {k:Int} (hn:n≤1024) (hf:k=2∨k=3):EaC n (W.alloc (.cells #[.int .i64 k] 3)) (.func (.func 101) #[] #[.pointer (some ⟨W.heap.size,0,none⟩)]) (ofB k):=eac_of hn hf (cell_of (heap_new _ _ rfl) rfl)
theorem eac_ex_new {n:Nat} {W:World} {k:Int}:EaC n (W.alloc (.cells #[.int .i64 k] 3)) (.func (.func 103) #[] #[.pointer (some ⟨W.heap.size,0,none⟩)]) (exB k):=eac_ex (cell_of (heap_new _ _ rfl) rfl)
theorem one_of {ps:Int→Bool} {v:Value} {W:World} {n:Nat} (h:EaC n W v ps):∀ (i:Nat) (q:Int→Bool),[ps][i]?=some q→∃ u,#[v][i]?=some u∧EaC n W u q:=fun i q hq=>by
 match i,hq with
 | 0,hq=>cases hq;exact ⟨v,rfl,h⟩
theorem two_of {p1 p2:Int→Bool} {v1 v2:Value} {W:World} {n:Nat} (h1:EaC n W v1 p1) (h2:EaC n W v2 p2):∀ (i:Nat) (q:Int→Bool),[p1,p2][i]?=some q→∃ u,#[v1,v2][i]?=some u∧EaC n W u q:=fun i q hq=>by
 match i,hq with
 | 0,hq=>cases hq;exact ⟨v1,rfl,h1⟩
 | 1,hq=>cases hq;exact ⟨v2,rfl,h2⟩
theorem tk_7 (F:FlAt B w A p f V fi at_ mo) (i:In3) (hn:p.ty.length≤1024) (ho:i.o=7):Calls Tryz.prog 74 #[.pointer (some ⟨A,0,none⟩),.agg #[.int .i64 i.o,.int .i64 i.a,.int .i64 i.b]] w (TksO p.ty.length (.fit [0,0]) w):=by
 obtain ⟨W1,hW1,b1,hI⟩:=bxi w i
 have F1:=F.below b1
 have HB:=hide b1
 have HF1:=hide F1
 have i0:W1.cell? ⟨w.heap.size,0,none⟩=some (.int .i64 i.o):=cell_of hI rfl
 have i1:W1.cell? ⟨w.heap.size,1,none⟩=some (.int .i64 i.a):=cell_of hI rfl
 have hlA:=lt_of_block F.box
 have hlI:=lt_of_block hI
 have HN:=hide hn
 clear b1 F1 hI F hn
 rw [ho] at i0 hW1 ⊢
 clear ho
 go_enter Tryz.func74,Tryz.ntmps74
 go_wp2_with fail
 refine (fitting_any _ _ _ _).mono ?_
 rintro e w3 ⟨rfl,rfl⟩
 go_wp2
 go_ret2
 exact tks_lit HN.out HB.out (by intro o ho;simp at ho;subst ho;exact kb_0 _) (by simp) rfl
theorem tk_10 (F:FlAt B w A p f V fi at_ mo) (i:In3) (hn:p.ty.length≤1024) (ho:i.o=10):Calls Tryz.prog 74 #[.pointer (some ⟨A,0,none⟩),.agg #[.int .i64 i.o,.int .i64 i.a,.int .i64 i.b]] w (TksO p.ty.length (.fit [0]) w):=by
 obtain ⟨W1,hW1,b1,hI⟩:=bxi w i
 have F1:=F.below b1
 have HB:=hide b1
 have HF1:=hide F1
 have i0:W1.cell? ⟨w.heap.size,0,none⟩=some (.int .i64 i.o):=cell_of hI rfl
 have i1:W1.cell? ⟨w.heap.size,1,none⟩=some (.int .i64 i.a):=cell_of hI rfl
 have hlA:=lt_of_block F.box
 have hlI:=lt_of_block hI
 have HN:=hide hn
 clear b1 F1 hI F hn
 rw [ho] at i0 hW1 ⊢
 clear ho
 go_enter Tryz.func74,Tryz.ntmps74
 go_wp2_with fail
 refine (fitting_any _ _ _ _).mono ?_
 rintro e w3 ⟨rfl,rfl⟩
 go_wp2
 go_ret2
 exact tks_lit HN.out HB.out (by intro o ho;simp at ho;subst ho;exact kb_0 _) (by simp) rfl
theorem tk_12 (F:FlAt B w A p f V fi at_ mo) (i:In3) (hn:p.ty.length≤1024) (ho:i.o=12):Calls Tryz.prog 74 #[.pointer (some ⟨A,0,none⟩),.agg #[.int .i64 i.o,.int .i64 i.a,.int .i64 i.b]] w (TksO p.ty.length (.fit [0]) w):=by
 obtain ⟨W1,hW1,b1,hI⟩:=bxi w i
 have F1:=F.below b1
 have HB:=hide b1
 have HF1:=hide F1
 have i0:W1.cell? ⟨w.heap.size,0,none⟩=some (.int .i64 i.o):=cell_of hI rfl
 have i1:W1.cell? ⟨w.heap.size,1,none⟩=some (.int .i64 i.a):=cell_of hI rfl
 have hlA:=lt_of_block F.box
 have hlI:=lt_of_block hI
 have HN:=hide hn
 clear b1 F1 hI F hn
 rw [ho] at i0 hW1 ⊢
 clear ho
 go_enter Tryz.func74,Tryz.ntmps74
 go_wp2_with fail
 refine (fitting_any _ _ _ _).mono ?_
 rintro e w3 ⟨rfl,rfl⟩
 go_wp2
 go_ret2
 exact tks_lit HN.out HB.out (by intro o ho;simp at ho;subst ho;exact kb_0 _) (by simp) rfl
theorem tk_25 (F:FlAt B w A p f V fi at_ mo) (i:In3) (hn:p.ty.length≤1024) (ho:i.o=25):Calls Tryz.prog 74 #[.pointer (some ⟨A,0,none⟩),.agg #[.int .i64 i.o,.int .i64 i.a,.int .i64 i.b]] w (TksO p.ty.length (.fit [0]) w):=by
 obtain ⟨W1,hW1,b1,hI⟩:=bxi w i
 have F1:=F.below b1
 have HB:=hide b1
 have HF1:=hide F1
 have i0:W1.cell? ⟨w.heap.size,0,none⟩=some (.int .i64 i.o):=cell_of hI rfl
 have i1:W1.cell? ⟨w.heap.size,1,none⟩=some (.int .i64 i.a):=cell_of hI rfl
 have hlA:=lt_of_block F.box
 have hlI:=lt_of_block hI
 have HN:=hide hn
 clear b1 F1 hI F hn
 rw [ho] at i0 hW1 ⊢
 clear ho
 go_enter Tryz.func74,Tryz.ntmps74
 go_wp2_with fail
 refine (fitting_any _ _ _ _).mono ?_
 rintro e w3 ⟨rfl,rfl⟩
 go_wp2
 go_ret2
 exact tks_lit HN.out HB.out (by intro o ho;simp at ho;subst ho;exact kb_0 _) (by simp) rfl
theorem tk_26 (F:FlAt B w A p f V fi at_ mo) (i:In3) (hn:p.ty.length≤1024) (ho:i.o=26):Calls Tryz.prog 74 #[.pointer (some ⟨A,0,none⟩),.agg #[.int .i64 i.o,.int .i64 i.a,.int .i64 i.b]] w (TksO p.ty.length (.fit [0]) w):=by
 obtain ⟨W1,hW1,b1,hI⟩:=bxi w i
 have F1:=F.below b1
 have HB:=hide b1
 have HF1:=hide F1
 have i0:W1.cell? ⟨w.heap.size,0,none⟩=some (.int .i64 i.o):=cell_of hI rfl
 have i1:W1.cell? ⟨w.heap.size,1,none⟩=some (.int .i64 i.a):=cell_of hI rfl
 have hlA:=lt_of_block F.box
 have hlI:=lt_of_block hI
 have HN:=hide hn
 clear b1 F1 hI F hn
 rw [ho] at i0 hW1 ⊢
 clear ho
 go_enter Tryz.func74,Tryz.ntmps74
 go_wp2_with fail
 refine (fitting_any _ _ _ _).mono ?_
 rintro e w3 ⟨rfl,rfl⟩
 go_wp2
 go_ret2
 exact tks_lit HN.out HB.out (by intro o ho;simp at ho;subst ho;exact kb_0 _) (by simp) rfl
theorem tk_27 (F:FlAt B w A p f V fi at_ mo) (i:In3) (hn:p.ty.length≤1024) (ho:i.o=27):Calls Tryz.prog 74 #[.pointer (some ⟨A,0,none⟩),.agg #[.int .i64 i.o,.int .i64 i.a,.int .i64 i.b]] w (TksO p.ty.length (.fit [0]) w):=by
 obtain ⟨W1,hW1,b1,hI⟩:=bxi w i
 have F1:=F.below b1
 have HB:=hide b1
 have HF1:=hide F1
 have i0:W1.cell? ⟨w.heap.size,0,none⟩=some (.int .i64 i.o):=cell_of hI rfl
 have i1:W1.cell? ⟨w.heap.size,1,none⟩=some (.int .i64 i.a):=cell_of hI rfl
 have hlA:=lt_of_block F.box
 have hlI:=lt_of_block hI
 have HN:=hide hn
 clear b1 F1 hI F hn
 rw [ho] at i0 hW1 ⊢
 clear ho
 go_enter Tryz.func74,Tryz.ntmps74
 go_wp2_with fail
 refine (fitting_any _ _ _ _).mono ?_
 rintro e w3 ⟨rfl,rfl⟩
 go_wp2
 go_ret2
 exact tks_lit HN.out HB.out (by intro o ho;simp at ho;subst ho;exact kb_0 _) (by simp) rfl
theorem tk_20 (F:FlAt B w A p f V fi at_ mo) (i:In3) (hn:p.ty.length≤1024) (ho:i.o=20):Calls Tryz.prog 74 #[.pointer (some ⟨A,0,none⟩),.agg #[.int .i64 i.o,.int .i64 i.a,.int .i64 i.b]] w (TksO p.ty.length (.fit [1]) w):=by
 obtain ⟨W1,hW1,b1,hI⟩:=bxi w i
 have F1:=F.below b1
 have HB:=hide b1
 have HF1:=hide F1
 have i0:W1.cell? ⟨w.heap.size,0,none⟩=some (.int .i64 i.o):=cell_of hI rfl
 have i1:W1.cell? ⟨w.heap.size,1,none⟩=some (.int .i64 i.a):=cell_of hI rfl
 have hlA:=lt_of_block F.box
 have hlI:=lt_of_block hI
 have HN:=hide hn
 clear b1 F1 hI F hn
 rw [ho] at i0 hW1 ⊢
 clear ho
 go_enter Tryz.func74,Tryz.ntmps74
 go_wp2_with fail
 refine (fitting_any _ _ _ _).mono ?_
 rintro e w3 ⟨rfl,rfl⟩
 go_wp2
 go_ret2
 exact tks_lit HN.out HB.out (by intro o ho;simp at ho;subst ho;exact kb_1 _) (by simp) rfl
theorem tk_21 (F:FlAt B w A p f V fi at_ mo) (i:In3) (hn:p.ty.length≤1024) (ho:i.o=21):Calls Tryz.prog 74 #[.pointer (some ⟨A,0,none⟩),.agg #[.int .i64 i.o,.int .i64 i.a,.int .i64 i.b]] w (TksO p.ty.length (.fit [1]) w):=by
 obtain ⟨W1,hW1,b1,hI⟩:=bxi w i
 have F1:=F.below b1
 have HB:=hide b1
 have HF1:=hide F1
 have i0:W1.cell? ⟨w.heap.size,0,none⟩=some (.int .i64 i.o):=cell_of hI rfl
 have i1:W1.cell? ⟨w.heap.size,1,none⟩=some (.int .i64 i.a):=cell_of hI rfl
 have hlA:=lt_of_block F.box
 have hlI:=lt_of_block hI
 have HN:=hide hn
 clear b1 F1 hI F hn
 rw [ho] at i0 hW1 ⊢
 clear ho
 go_enter Tryz.func74,Tryz.ntmps74
 go_wp2_with fail
 refine (fitting_any _ _ _ _).mono ?_
 rintro e w3 ⟨rfl,rfl⟩
 go_wp2
 go_ret2
 exact tks_lit HN.out HB.out (by intro o ho;simp at ho;subst ho;exact kb_1 _) (by simp) rfl
theorem tk_5 (F:FlAt B w A p f V fi at_ mo) (i:In3) (hn:p.ty.length≤1024) (ho:i.o=5):Calls Tryz.prog 74 #[.pointer (some ⟨A,0,none⟩),.agg #[.int .i64 i.o,.int .i64 i.a,.int .i64 i.b]] w (TksO p.ty.length (.each [anyB]) w):=by
 obtain ⟨W1,hW1,b1,hI⟩:=bxi w i
 have F1:=F.below b1
 have HB:=hide b1
 have HF1:=hide F1
 have i0:W1.cell? ⟨w.heap.size,0,none⟩=some (.int .i64 i.o):=cell_of hI rfl
 have i1:W1.cell? ⟨w.heap.size,1,none⟩=some (.int .i64 i.a):=cell_of hI rfl
 have hlA:=lt_of_block F.box
 have hlI:=lt_of_block hI
 have HN:=hide hn
 clear b1 F1 hI F hn
 rw [ho] at i0 hW1 ⊢
 clear ho
 go_enter Tryz.func74,Tryz.ntmps74
 go_wp2_with fail
 refine (these_any _ _ _ _).mono ?_
 rintro e w3 ⟨rfl,rfl⟩
 go_wp2
 go_ret2
 exact tks_each HB.out (by simp) (one_of (eac_any _))
theorem tk_6 (F:FlAt B w A p f V fi at_ mo) (i:In3) (hn:p.ty.length≤1024) (ho:i.o=6):Calls Tryz.prog 74 #[.pointer (some ⟨A,0,none⟩),.agg #[.int .i64 i.o,.int .i64 i.a,.int .i64 i.b]] w (TksO p.ty.length (.each [anyB]) w):=by
 obtain ⟨W1,hW1,b1,hI⟩:=bxi w i
 have F1:=F.below b1
 have HB:=hide b1
 have HF1:=hide F1
 have i0:W1.cell? ⟨w.heap.size,0,none⟩=some (.int .i64 i.o):=cell_of hI rfl
 have i1:W1.cell? ⟨w.heap.size,1,none⟩=some (.int .i64 i.a):=cell_of hI rfl
 have hlA:=lt_of_block F.box
 have hlI:=lt_of_block hI
 have HN:=hide hn
 clear b1 F1 hI F hn
 rw [ho] at i0 hW1 ⊢
 clear ho
 go_enter Tryz.func74,Tryz.ntmps74
 go_wp2_with fail
 refine (these_any _ _ _ _).mono ?_
 rintro e w3 ⟨rfl,rfl⟩
 go_wp2
 go_ret2
 exact tks_each HB.out (by simp) (one_of (eac_any _))
theorem tk_19 (F:FlAt B w A p f V fi at_ mo) (i:In3) (hn:p.ty.length≤1024) (ho:i.o=19):Calls Tryz.prog 74 #[.pointer (some ⟨A,0,none⟩),.agg #[.int .i64 i.o,.int .i64 i.a,.int .i64 i.b]] w (TksO p.ty.length (.each [boxB]) w):=by
 obtain ⟨W1,hW1,b1,hI⟩:=bxi w i
 have F1:=F.below b1
 have HB:=hide b1
 have HF1:=hide F1
 have i0:W1.cell? ⟨w.heap.size,0,none⟩=some (.int .i64 i.o):=cell_of hI rfl
 have i1:W1.cell? ⟨w.heap.size,1,none⟩=some (.int .i64 i.a):=cell_of hI rfl
 have hlA:=lt_of_block F.box
 have hlI:=lt_of_block hI
 have HN:=hide hn
 clear b1 F1 hI F hn
 rw [ho] at i0 hW1 ⊢
 clear ho
 go_enter Tryz.func74,Tryz.ntmps74
 go_wp2_with fail
 refine (these_any _ _ _ _).mono ?_
 rintro e w3 ⟨rfl,rfl⟩
 go_wp2
 go_ret2
 exact tks_each HB.out (by simp) (one_of (eac_box _ HN.out))
theorem tk_14 (F:FlAt B w A p f V fi at_ mo) (i:In3) (hn:p.ty.length≤1024) (ho:i.o=14):Calls Tryz.prog 74 #[.pointer (some ⟨A,0,none⟩),.agg #[.int .i64 i.o,.int .i64 i.a,.int .i64 i.b]] w (TksO p.ty.length (.each [ptrB]) w):=by
 obtain ⟨W1,hW1,b1,hI⟩:=bxi w i
 have F1:=F.below b1
 have HB:=hide b1
 have HF1:=hide F1
 have i0:W1.cell? ⟨w.heap.size,0,none⟩=some (.int .i64 i.o):=cell_of hI rfl
 have i1:W1.cell? ⟨w.heap.size,1,none⟩=some (.int .i64 i.a):=cell_of hI rfl
 have hlA:=lt_of_block F.box
 have hlI:=lt_of_block hI
 have HN:=hide hn
 clear b1 F1 hI F hn
 rw [ho] at i0 hW1 ⊢
 clear ho
 go_enter Tryz.func74,Tryz.ntmps74
 go_wp2_with fail
 refine (of_any _ _).mono ?_
 rintro e w2 ⟨rfl,rfl⟩
 go_wp2_with fail
 refine (these_any _ _ _ _).mono ?_
 rintro e w3 ⟨rfl,rfl⟩
 go_wp2
 go_ret2
 have:=tks_each (n:=p.ty.length) (T1:=44) (T2:=146) (HB.out.alloc HB.out.size (.cells #[.int .i64 2] 3)) (by simp) (one_of (ofB_ptr ▸ eac_of_new HN.out (.inl rfl)))
 simp only [World.size_alloc] at this
 exact this
theorem tk_16 (F:FlAt B w A p f V fi at_ mo) (i:In3) (hn:p.ty.length≤1024) (ho:i.o=16):Calls Tryz.prog 74 #[.pointer (some ⟨A,0,none⟩),.agg #[.int .i64 i.o,.int .i64 i.a,.int .i64 i.b]] w (TksO p.ty.length (.each [ptrB]) w):=by
 obtain ⟨W1,hW1,b1,hI⟩:=bxi w i
 have F1:=F.below b1
 have HB:=hide b1
 have HF1:=hide F1
 have i0:W1.cell? ⟨w.heap.size,0,none⟩=some (.int .i64 i.o):=cell_of hI rfl
 have i1:W1.cell? ⟨w.heap.size,1,none⟩=some (.int .i64 i.a):=cell_of hI rfl
 have hlA:=lt_of_block F.box
 have hlI:=lt_of_block hI
 have HN:=hide hn
 clear b1 F1 hI F hn
 rw [ho] at i0 hW1 ⊢
 clear ho
 go_enter Tryz.func74,Tryz.ntmps74
 go_wp2_with fail
 refine (of_any _ _).mono ?_
 rintro e w2 ⟨rfl,rfl⟩
 go_wp2_with fail
 refine (these_any _ _ _ _).mono ?_
 rintro e w3 ⟨rfl,rfl⟩
 go_wp2
 go_ret2
 have:=tks_each (n:=p.ty.length) (T1:=44) (T2:=146) (HB.out.alloc HB.out.size (.cells #[.int .i64 2] 3)) (by simp) (one_of (ofB_ptr ▸ eac_of_new HN.out (.inl rfl)))
 simp only [World.size_alloc] at this
 exact this
theorem tk_18 (F:FlAt B w A p f V fi at_ mo) (i:In3) (hn:p.ty.length≤1024) (ho:i.o=18):Calls Tryz.prog 74 #[.pointer (some ⟨A,0,none⟩),.agg #[.int .i64 i.o,.int .i64 i.a,.int .i64 i.b]] w (TksO p.ty.length (.each [arrB]) w):=by
 obtain ⟨W1,hW1,b1,hI⟩:=bxi w i
 have F1:=F.below b1
 have HB:=hide b1
 have HF1:=hide F1
 have i0:W1.cell? ⟨w.heap.size,0,none⟩=some (.int .i64 i.o):=cell_of hI rfl
 have i1:W1.cell? ⟨w.heap.size,1,none⟩=some (.int .i64 i.a):=cell_of hI rfl
 have hlA:=lt_of_block F.box
 have hlI:=lt_of_block hI
 have HN:=hide hn
 clear b1 F1 hI F hn
 rw [ho] at i0 hW1 ⊢
 clear ho
 go_enter Tryz.func74,Tryz.ntmps74
 go_wp2_with fail
 refine (of_any _ _).mono ?_
 rintro e w2 ⟨rfl,rfl⟩
 go_wp2_with fail
 refine (these_any _ _ _ _).mono ?_
 rintro e w3 ⟨rfl,rfl⟩
 go_wp2
 go_ret2
 have:=tks_each (n:=p.ty.length) (T1:=44) (T2:=146) (HB.out.alloc HB.out.size (.cells #[.int .i64 3] 3)) (by simp) (one_of (ofB_arr ▸ eac_of_new HN.out (.inr rfl)))
 simp only [World.size_alloc] at this
 exact this
theorem tk_15 (F:FlAt B w A p f V fi at_ mo) (i:In3) (hn:p.ty.length≤1024) (ho:i.o=15):Calls Tryz.prog 74 #[.pointer (some ⟨A,0,none⟩),.agg #[.int .i64 i.o,.int .i64 i.a,.int .i64 i.b]] w (TksO p.ty.length (.each [ptrB,anyB]) w):=by
 obtain ⟨W1,hW1,b1,hI⟩:=bxi w i
 have F1:=F.below b1
 have HB:=hide b1
 have HF1:=hide F1
 have i0:W1.cell? ⟨w.heap.size,0,none⟩=some (.int .i64 i.o):=cell_of hI rfl
 have i1:W1.cell? ⟨w.heap.size,1,none⟩=some (.int .i64 i.a):=cell_of hI rfl
 have hlA:=lt_of_block F.box
 have hlI:=lt_of_block hI
 have HN:=hide hn
 clear b1 F1 hI F hn
 rw [ho] at i0 hW1 ⊢
 clear ho
 go_enter Tryz.func74,Tryz.ntmps74
 go_wp2_with fail
 refine (of_any _ _).mono ?_
 rintro e w2 ⟨rfl,rfl⟩
 go_wp2_with fail
 refine (these_any _ _ _ _).mono ?_
 rintro e w3 ⟨rfl,rfl⟩
 go_wp2
 go_ret2
 have:=tks_each (n:=p.ty.length) (T1:=44) (T2:=146) (HB.out.alloc HB.out.size (.cells #[.int .i64 2] 3)) (by simp) (two_of (ofB_ptr ▸ eac_of_new HN.out (.inl rfl)) (eac_any _))
 simp only [World.size_alloc] at this
 exact this
theorem tk_17 (F:FlAt B w A p f V fi at_ mo) (i:In3) (hn:p.ty.length≤1024) (ho:i.o=17):Calls Tryz.prog 74 #[.pointer (some ⟨A,0,none⟩),.agg #[.int .i64 i.o,.int .i64 i.a,.int .i64 i.b]] w (TksO p.ty.length (.each [arrB,exB 0]) w):=by
 obtain ⟨W1,hW1,b1,hI⟩:=bxi w i
 have F1:=F.below b1
 have HB:=hide b1
 have HF1:=hide F1
 have i0:W1.cell? ⟨w.heap.size,0,none⟩=some (.int .i64 i.o):=cell_of hI rfl
 have i1:W1.cell? ⟨w.heap.size,1,none⟩=some (.int .i64 i.a):=cell_of hI rfl
 have hlA:=lt_of_block F.box
 have hlI:=lt_of_block hI
 have HN:=hide hn
 clear b1 F1 hI F hn
 rw [ho] at i0 hW1 ⊢
 clear ho
 go_enter Tryz.func74,Tryz.ntmps74
 go_wp2_with fail
 refine (of_any _ _).mono ?_
 rintro e w2 ⟨rfl,rfl⟩
 go_wp2_with fail
 refine (exactly_any _ _).mono ?_
 rintro e w2 ⟨rfl,rfl⟩
 go_wp2_with fail
 refine (these_any _ _ _ _).mono ?_
 rintro e w3 ⟨rfl,rfl⟩
 go_wp2
 go_ret2
 have hx:=eac_ex_new (n:=p.ty.length) (W:=W1.alloc (.cells #[.int .i64 3] 3)) (k:=0)
 rw [World.size_alloc] at hx
 have hb:=HB.out.alloc HB.out.size (.cells #[.int .i64 3] 3)
 have:=tks_each (n:=p.ty.length) (T1:=44) (T2:=146) (hb.alloc hb.size (.cells #[.int .i64 0] 3)) (by simp) (two_of (EaC.keep (ofB_arr ▸ eac_of_new HN.out (.inr rfl)) ((Below.refl _ _).alloc (Nat.le_refl _) _)) hx)
 simp only [World.size_alloc] at this
 exact this
theorem tk_8 (F:FlAt B w A p f V fi at_ mo) (i:In3) (hn:p.ty.length≤1024) (ho:i.o=8):Calls Tryz.prog 74 #[.pointer (some ⟨A,0,none⟩),.agg #[.int .i64 i.o,.int .i64 i.a,.int .i64 i.b]] w (TksO p.ty.length .alike w):=by
 obtain ⟨W1,hW1,b1,hI⟩:=bxi w i
 have F1:=F.below b1
 have HB:=hide b1
 have HF1:=hide F1
 have i0:W1.cell? ⟨w.heap.size,0,none⟩=some (.int .i64 i.o):=cell_of hI rfl
 have i1:W1.cell? ⟨w.heap.size,1,none⟩=some (.int .i64 i.a):=cell_of hI rfl
 have hlA:=lt_of_block F.box
 have hlI:=lt_of_block hI
 have HN:=hide hn
 clear b1 F1 hI F hn
 rw [ho] at i0 hW1 ⊢
 clear ho
 go_enter Tryz.func74,Tryz.ntmps74
 go_wp2_with fail
 refine (alike_any _).mono ?_
 rintro e w3 ⟨rfl,rfl⟩
 go_wp2
 go_ret2
 exact tks_alike HN.out HB.out
theorem tk_rest (F:FlAt B w A p f V fi at_ mo) (i:In3) (hn:p.ty.length≤1024) (ho:i.o≠4∧i.o≠5∧i.o≠6∧i.o≠7∧i.o≠8∧i.o≠10∧i.o≠12∧i.o≠25∧i.o≠26∧i.o≠27∧i.o≠14∧i.o≠16∧i.o≠15∧i.o≠17∧i.o≠18∧i.o≠19∧i.o≠20∧i.o≠21∧i.o≠22∧i.o≠23∧i.o≠24):Calls Tryz.prog 74 #[.pointer (some ⟨A,0,none⟩),.agg #[.int .i64 i.o,.int .i64 i.a,.int .i64 i.b]] w (TksO p.ty.length (.each []) w):=by
 obtain ⟨W1,hW1,b1,hI⟩:=bxi w i
 have F1:=F.below b1
 have HB:=hide b1
 have HF1:=hide F1
 have i0:W1.cell? ⟨w.heap.size,0,none⟩=some (.int .i64 i.o):=cell_of hI rfl
 have i1:W1.cell? ⟨w.heap.size,1,none⟩=some (.int .i64 i.a):=cell_of hI rfl
 have hlA:=lt_of_block F.box
 have hlI:=lt_of_block hI
 have HN:=hide hn
 clear b1 F1 hI F hn
 have q4:(i.o == 4)=false:=by simp;omega
 have q5:(i.o == 5)=false:=by simp;omega
 have q6:(i.o == 6)=false:=by simp;omega
 have q7:(i.o == 7)=false:=by simp;omega
 have q8:(i.o == 8)=false:=by simp;omega
 have q10:(i.o == 10)=false:=by simp;omega
 have q12:(i.o == 12)=false:=by simp;omega
 have q25:(i.o == 25)=false:=by simp;omega
 have q26:(i.o == 26)=false:=by simp;omega
 have q27:(i.o == 27)=false:=by simp;omega
 have q14:(i.o == 14)=false:=by simp;omega
 have q16:(i.o == 16)=false:=by simp;omega
 have q15:(i.o == 15)=false:=by simp;omega
 have q17:(i.o == 17)=false:=by simp;omega
 have q18:(i.o == 18)=false:=by simp;omega
 have q19:(i.o == 19)=false:=by simp;omega
 have q20:(i.o == 20)=false:=by simp;omega
 have q21:(i.o == 21)=false:=by simp;omega
 have q22:(i.o == 22)=false:=by simp;omega
 have q23:(i.o == 23)=false:=by simp;omega
 have q24:(i.o == 24)=false:=by simp;omega
 clear ho
 go_enter Tryz.func74,Tryz.ntmps74
 go_wp2_with fail
 refine (these_any _ _ _ _).mono ?_
 rintro e w3 ⟨rfl,rfl⟩
 go_wp2
 go_ret2
 exact tks_none HB.out
end
end Go.Proofs.YtkdojpnihinpbaaGreatDoor

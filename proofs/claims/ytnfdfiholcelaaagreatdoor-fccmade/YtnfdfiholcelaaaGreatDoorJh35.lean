import Derived.WalkKit
import Derived.ProofKit
import Derived.OpenShut
import Derived.ChangeOld
import Derived.Below
import Derived.Lib.SmallJoins
import Derived.Deep.SlicePairs
import Derived.Test.YtnfdfiholcelaaaGreatDoorJh00
import Derived.Test.YtnfdfiholcelaaaGreatDoorJh01
import Derived.Test.YtnfdfiholcelaaaGreatDoorJh21
import Derived.Test.YtnfdfiholcelaaaGreatDoorJh29
import Derived.Test.YtnfdfiholcelaaaGreatDoorJh30
import Derived.Test.YtnfdfiholcelaaaGreatDoorJh33
import Derived.Test.YtnfdfiholcelaaaGreatDoorJh34
set_option maxRecDepth 100000
set_option maxHeartbeats 20000000
namespace Go.Proofs.YtnfdfiholcelaaaGreatDoor
open Go.RowKit Plain Tryz
theorem longLines_any(a0 a1 a2 a3 a4 a5 a6 a7 a8 a9 a10 a11 a14:Int)(p q:Option Addr)(n m cn cm:Nat)(b0 b1 b2 b3 b4 b5 b6 b7 b8 b9 b10 b11 b14:Int)(r s:Option Addr)(n' m' dn dm:Nat)(c0 c1:Int)(w:World):
 Calls prog 11 #[.agg #[Vi a0,Vi a1,Vi a2,Vi a3,Vi a4,Vi a5,Vi a6,Vi a7,Vi a8,Vi a9,Vi a10,Vi a11,.slice p n cn,.slice q m cm,Vi a14,Vi b0,Vi b1,Vi b2,Vi b3,Vi b4,Vi b5,Vi b6,Vi b7,Vi b8,Vi b9,Vi b10,Vi b11,.slice r n' dn,.slice s m' dm,Vi b14,Vi c0,Vi c1]] w fun e w'=>e=.returned (.bool (decide (20<n)||decide (20<m)||decide (20<n')||decide (20<m')))∧Below w.heap.size w w':=by
 have HC0:Hid (CrH (w.alloc (.cells #[Vi a0,Vi a1,Vi a2,Vi a3,Vi a4,Vi a5,Vi a6,Vi a7,Vi a8,Vi a9,Vi a10,Vi a11,.slice p n cn,.slice q m cm,Vi a14,Vi b0,Vi b1,Vi b2,Vi b3,Vi b4,Vi b5,Vi b6,Vi b7,Vi b8,Vi b9,Vi b10,Vi b11,.slice r n' dn,.slice s m' dm,Vi b14,Vi c0,Vi c1] 29)) w.heap.size [Vi a0,Vi a1,Vi a2,Vi a3,Vi a4,Vi a5,Vi a6,Vi a7,Vi a8,Vi a9,Vi a10,Vi a11,.slice p n cn,.slice q m cm,Vi a14,Vi b0,Vi b1,Vi b2,Vi b3,Vi b4,Vi b5,Vi b6,Vi b7,Vi b8,Vi b9,Vi b10,Vi b11,.slice r n' dn,.slice s m' dm,Vi b14,Vi c0,Vi c1]):=Zab (World.alloc_heap_new w _);have HB0:Hid (Below w.heap.size w (w.alloc (.cells #[Vi a0,Vi a1,Vi a2,Vi a3,Vi a4,Vi a5,Vi a6,Vi a7,Vi a8,Vi a9,Vi a10,Vi a11,.slice p n cn,.slice q m cm,Vi a14,Vi b0,Vi b1,Vi b2,Vi b3,Vi b4,Vi b5,Vi b6,Vi b7,Vi b8,Vi b9,Vi b10,Vi b11,.slice r n' dn,.slice s m' dm,Vi b14,Vi c0,Vi c1] 29))):=Zab (Zaa _ _)
 rcases(show 20<n∨(¬20<n∧20<m)∨(¬20<n∧¬20<m∧20<n')∨(¬20<n∧¬20<m∧¬20<n'∧20<m')∨(¬20<n∧¬20<m∧¬20<n'∧¬20<m') by omega) with c2|⟨c2,c3⟩|⟨c2,c3,c4⟩|⟨c2,c3,c4,c5⟩|⟨c2,c3,c4,c5⟩
 · have d0:decide ((20:Int)<(n:Int))=true:=decide_eq_true (by omega);have HE:Hid ((decide (20<n)||decide (20<m)||decide (20<n')||decide (20<m'))=true):=Zab (by simp;omega);clear c2
   go_enter func11,ntmps11
   go_wp2_with fail;obtain⟨w0,hw0⟩:∃w0,w.alloc (.cells #[Vi a0,Vi a1,Vi a2,Vi a3,Vi a4,Vi a5,Vi a6,Vi a7,Vi a8,Vi a9,Vi a10,Vi a11,.slice p n cn,.slice q m cm,Vi a14,Vi b0,Vi b1,Vi b2,Vi b3,Vi b4,Vi b5,Vi b6,Vi b7,Vi b8,Vi b9,Vi b10,Vi b11,.slice r n' dn,.slice s m' dm,Vi b14,Vi c0,Vi c1] 29)=w0:=⟨_,rfl⟩;rw[hw0] at HC0 HB0⊢;clear hw0
   have k12:w0.cell? (Ad w.heap.size 12)=some (.slice p n cn):=by have:=HC0.out.range 12 _ rfl;rwa[Nat.zero_add] at this
   have k13:w0.cell? (Ad w.heap.size 13)=some (.slice q m cm):=by have:=HC0.out.range 13 _ rfl;rwa[Nat.zero_add] at this
   have k27:w0.cell? (Ad w.heap.size 27)=some (.slice r n' dn):=by have:=HC0.out.range 27 _ rfl;rwa[Nat.zero_add] at this
   have k28:w0.cell? (Ad w.heap.size 28)=some (.slice s m' dm):=by have:=HC0.out.range 28 _ rfl;rwa[Nat.zero_add] at this
   refine wp_loop_rounds 3 ?_;rw[rounds_succ];go_wp2_with fail;go_ret;exact⟨by rw[HE.out];rfl,HB0.out⟩
 · have d0:decide ((20:Int)<(n:Int))=false:=decide_eq_false (by omega);have d1:decide ((20:Int)<(m:Int))=true:=decide_eq_true (by omega);have HE:Hid ((decide (20<n)||decide (20<m)||decide (20<n')||decide (20<m'))=true):=Zab (by simp;omega);clear c2 c3
   go_enter func11,ntmps11
   go_wp2_with fail;obtain⟨w0,hw0⟩:∃w0,w.alloc (.cells #[Vi a0,Vi a1,Vi a2,Vi a3,Vi a4,Vi a5,Vi a6,Vi a7,Vi a8,Vi a9,Vi a10,Vi a11,.slice p n cn,.slice q m cm,Vi a14,Vi b0,Vi b1,Vi b2,Vi b3,Vi b4,Vi b5,Vi b6,Vi b7,Vi b8,Vi b9,Vi b10,Vi b11,.slice r n' dn,.slice s m' dm,Vi b14,Vi c0,Vi c1] 29)=w0:=⟨_,rfl⟩;rw[hw0] at HC0 HB0⊢;clear hw0
   have k12:w0.cell? (Ad w.heap.size 12)=some (.slice p n cn):=by have:=HC0.out.range 12 _ rfl;rwa[Nat.zero_add] at this
   have k13:w0.cell? (Ad w.heap.size 13)=some (.slice q m cm):=by have:=HC0.out.range 13 _ rfl;rwa[Nat.zero_add] at this
   have k27:w0.cell? (Ad w.heap.size 27)=some (.slice r n' dn):=by have:=HC0.out.range 27 _ rfl;rwa[Nat.zero_add] at this
   have k28:w0.cell? (Ad w.heap.size 28)=some (.slice s m' dm):=by have:=HC0.out.range 28 _ rfl;rwa[Nat.zero_add] at this
   refine wp_loop_rounds 3 ?_;rw[rounds_succ];go_wp2_with fail;go_ret;exact⟨by rw[HE.out];rfl,HB0.out⟩
 · have d0:decide ((20:Int)<(n:Int))=false:=decide_eq_false (by omega);have d1:decide ((20:Int)<(m:Int))=false:=decide_eq_false (by omega);have d2:decide ((20:Int)<(n':Int))=true:=decide_eq_true (by omega);have HE:Hid ((decide (20<n)||decide (20<m)||decide (20<n')||decide (20<m'))=true):=Zab (by simp;omega);clear c2 c3 c4
   go_enter func11,ntmps11
   go_wp2_with fail;obtain⟨w0,hw0⟩:∃w0,w.alloc (.cells #[Vi a0,Vi a1,Vi a2,Vi a3,Vi a4,Vi a5,Vi a6,Vi a7,Vi a8,Vi a9,Vi a10,Vi a11,.slice p n cn,.slice q m cm,Vi a14,Vi b0,Vi b1,Vi b2,Vi b3,Vi b4,Vi b5,Vi b6,Vi b7,Vi b8,Vi b9,Vi b10,Vi b11,.slice r n' dn,.slice s m' dm,Vi b14,Vi c0,Vi c1] 29)=w0:=⟨_,rfl⟩;rw[hw0] at HC0 HB0⊢;clear hw0
   have k12:w0.cell? (Ad w.heap.size 12)=some (.slice p n cn):=by have:=HC0.out.range 12 _ rfl;rwa[Nat.zero_add] at this
   have k13:w0.cell? (Ad w.heap.size 13)=some (.slice q m cm):=by have:=HC0.out.range 13 _ rfl;rwa[Nat.zero_add] at this
   have k27:w0.cell? (Ad w.heap.size 27)=some (.slice r n' dn):=by have:=HC0.out.range 27 _ rfl;rwa[Nat.zero_add] at this
   have k28:w0.cell? (Ad w.heap.size 28)=some (.slice s m' dm):=by have:=HC0.out.range 28 _ rfl;rwa[Nat.zero_add] at this
   refine wp_loop_rounds 3 ?_;rw[rounds_succ];go_wp2_with fail;rw[rounds_succ];go_wp2_with fail;go_ret;exact⟨by rw[HE.out];rfl,HB0.out⟩
 · have d0:decide ((20:Int)<(n:Int))=false:=decide_eq_false (by omega);have d1:decide ((20:Int)<(m:Int))=false:=decide_eq_false (by omega);have d2:decide ((20:Int)<(n':Int))=false:=decide_eq_false (by omega);have d3:decide ((20:Int)<(m':Int))=true:=decide_eq_true (by omega);have HE:Hid ((decide (20<n)||decide (20<m)||decide (20<n')||decide (20<m'))=true):=Zab (by simp;omega);clear c2 c3 c4 c5
   go_enter func11,ntmps11
   go_wp2_with fail;obtain⟨w0,hw0⟩:∃w0,w.alloc (.cells #[Vi a0,Vi a1,Vi a2,Vi a3,Vi a4,Vi a5,Vi a6,Vi a7,Vi a8,Vi a9,Vi a10,Vi a11,.slice p n cn,.slice q m cm,Vi a14,Vi b0,Vi b1,Vi b2,Vi b3,Vi b4,Vi b5,Vi b6,Vi b7,Vi b8,Vi b9,Vi b10,Vi b11,.slice r n' dn,.slice s m' dm,Vi b14,Vi c0,Vi c1] 29)=w0:=⟨_,rfl⟩;rw[hw0] at HC0 HB0⊢;clear hw0
   have k12:w0.cell? (Ad w.heap.size 12)=some (.slice p n cn):=by have:=HC0.out.range 12 _ rfl;rwa[Nat.zero_add] at this
   have k13:w0.cell? (Ad w.heap.size 13)=some (.slice q m cm):=by have:=HC0.out.range 13 _ rfl;rwa[Nat.zero_add] at this
   have k27:w0.cell? (Ad w.heap.size 27)=some (.slice r n' dn):=by have:=HC0.out.range 27 _ rfl;rwa[Nat.zero_add] at this
   have k28:w0.cell? (Ad w.heap.size 28)=some (.slice s m' dm):=by have:=HC0.out.range 28 _ rfl;rwa[Nat.zero_add] at this
   refine wp_loop_rounds 3 ?_;rw[rounds_succ];go_wp2_with fail;rw[rounds_succ];go_wp2_with fail;go_ret;exact⟨by rw[HE.out];rfl,HB0.out⟩
 · have d0:decide ((20:Int)<(n:Int))=false:=decide_eq_false (by omega);have d1:decide ((20:Int)<(m:Int))=false:=decide_eq_false (by omega);have d2:decide ((20:Int)<(n':Int))=false:=decide_eq_false (by omega);have d3:decide ((20:Int)<(m':Int))=false:=decide_eq_false (by omega);have HE:Hid ((decide (20<n)||decide (20<m)||decide (20<n')||decide (20<m'))=false):=Zab (by simp;omega);clear c2 c3 c4 c5
   go_enter func11,ntmps11
   go_wp2_with fail;obtain⟨w0,hw0⟩:∃w0,w.alloc (.cells #[Vi a0,Vi a1,Vi a2,Vi a3,Vi a4,Vi a5,Vi a6,Vi a7,Vi a8,Vi a9,Vi a10,Vi a11,.slice p n cn,.slice q m cm,Vi a14,Vi b0,Vi b1,Vi b2,Vi b3,Vi b4,Vi b5,Vi b6,Vi b7,Vi b8,Vi b9,Vi b10,Vi b11,.slice r n' dn,.slice s m' dm,Vi b14,Vi c0,Vi c1] 29)=w0:=⟨_,rfl⟩;rw[hw0] at HC0 HB0⊢;clear hw0
   have k12:w0.cell? (Ad w.heap.size 12)=some (.slice p n cn):=by have:=HC0.out.range 12 _ rfl;rwa[Nat.zero_add] at this
   have k13:w0.cell? (Ad w.heap.size 13)=some (.slice q m cm):=by have:=HC0.out.range 13 _ rfl;rwa[Nat.zero_add] at this
   have k27:w0.cell? (Ad w.heap.size 27)=some (.slice r n' dn):=by have:=HC0.out.range 27 _ rfl;rwa[Nat.zero_add] at this
   have k28:w0.cell? (Ad w.heap.size 28)=some (.slice s m' dm):=by have:=HC0.out.range 28 _ rfl;rwa[Nat.zero_add] at this
   refine wp_loop_rounds 3 ?_;rw[rounds_succ];go_wp2_with fail;rw[rounds_succ];go_wp2_with fail;rw[rounds_succ];go_wp2_with fail;go_ret;exact⟨by rw[HE.out];rfl,HB0.out⟩
section
variable {C : CR} {S S' : FS} {l : List Rd} {sv : Nat → List Sv}
theorem vS3_eq(h:S'.bk=S.bk∧S'.hd=S.hd∧S'.n=S.n):vS3 C S' l sv=vS3 C S l sv:=by
 obtain⟨b,p,n,c,d,m⟩:=S;obtain⟨b',p',n',c',d',m'⟩:=S';obtain⟨h1,h2,h3⟩:=h
 dsimp only at h1 h2 h3
 subst h1 h2 h3
 rfl
theorem n_eq(h:S'.bk=S.bk∧S'.hd=S.hd∧S'.n=S.n):(sS3 C S l sv).n=(sS3 C S' l sv).n:=by
 obtain⟨b,p,n,c,d,m⟩:=S;obtain⟨b',p',n',c',d',m'⟩:=S';obtain⟨h1,h2,h3⟩:=h
 dsimp only at h1 h2 h3
 subst h1 h2 h3
 rfl
theorem hd_eq(h:S'.bk=S.bk∧S'.hd=S.hd∧S'.n=S.n):(sS3 C S l sv).hd 0=(sS3 C S' l sv).hd 0∧(sS3 C S l sv).hd 1=(sS3 C S' l sv).hd 1:=by
 obtain⟨b,p,n,c,d,m⟩:=S;obtain⟨b',p',n',c',d',m'⟩:=S';obtain⟨h1,h2,h3⟩:=h
 dsimp only at h1 h2 h3
 subst h1 h2 h3;exact⟨rfl,rfl⟩
theorem bk_eq(h:S'.bk=S.bk∧S'.hd=S.hd∧S'.n=S.n):bkX C S l 2 0=(sS3 C S' l sv).bk 0∧bkX C S l 2 1=(sS3 C S' l sv).bk 1∧bkX C S l 2 2=(sS3 C S' l sv).bk 2:=by
 obtain⟨b,p,n,c,d,m⟩:=S;obtain⟨b',p',n',c',d',m'⟩:=S';obtain⟨h1,h2,h3⟩:=h
 dsimp only at h1 h2 h3
 subst h1 h2 h3;exact⟨rfl,rfl,rfl⟩
theorem rd_eq(h:S'.bk=S.bk∧S'.hd=S.hd∧S'.n=S.n):rdA (vS3 C S' l sv) (sS3 C S' l sv).n=rdA (vS3 C S l sv) (sS3 C S l sv).n:=by rw[vS3_eq h,n_eq h]
end
theorem Zgh{P:Program}{ops:Array Oper}{rest:List Oper}{op:Oper}{a:Act}{w:World}{Q:Exit→Act→World→Prop}(hw:Region.wanted op (yielded ops a.tmps)=true)(ty:TypeId)(x:Operand)(ho:op.op=.load ty x)
 (b o:Nat) (hx:a.eval x=.pointer (some (Ad b o))) (cs:List Value) (d:TypeDesc) (hc:w.rangeAt b o cs)
 (hu:P.underlying ty=some d) (hd:d.isRow=true) (hi:(P.info? ty).map (·.size)=some cs.length)
 (h:wpList P ops Q rest (a.put op.dst (.agg cs.toArray)) w):wpList P ops Q (op::rest) a w:=
 wpList_step fun K hK=>by rw[if_pos hw];exact wp_load_mid ty x ho b o hx cs d hc hu hd hi (hK _ _ h)
theorem fccSays_ok(C:CR)(S:FS)(sv:Nat→List Sv)(ws:List Int)(aw:Option Addr)(cw:Nat)(w:World)(hg:GV w)(hl:CrL w C)(hv:SvL w S sv)(hw:Wds w aw ws)(hlo:(decide (20<(C.al 0).length)||decide (20<(C.zl 0).length)||decide (20<(C.al 1).length)||decide (20<(C.zl 1).length))=false)(h200:ws.length≤200)(h0:stE C S sv=0)(h64:ws.length≤64):
 Calls prog 3 #[.agg (crL C).toArray,.agg (stL S).toArray,.slice aw ws.length cw] w fun e w'=>e=.returned (.bool true)∧Below w.heap.size w w':=by
 have hsm:=fun u (h:Below w.heap.size w u)=>refStateMay_any C S sv u (hl.later h) (hv.later h);have hcs:=fun u (h:Below w.heap.size w u)=>Zia C S sv u (hg.later h) (hl.later h) (hv.later h)
 obtain⟨wn,Hwn,hwn⟩:∃wn:Int,Hid (wn=if 64<ws.length then 2 else 0)∧∀u,Calls prog 14 #[.bool (decide ((64:Int)<(ws.length:Int))),Vi 2] u fun r w'=>r=.returned (Vi wn)∧w'=u:=⟨_,Zab rfl,fun u=>by
  refine(Zcr (decide ((64:Int)<(ws.length:Int))) 2 u).mono fun _ _ h=>⟨?_,h.2⟩;rw[h.1]
  by_cases h64:64<ws.length
  · rw[if_pos h64,if_pos (decide_eq_true (show(64:Int)<(ws.length:Int) by omega))]
  · rw[if_neg h64,if_neg (by simp;omega)]⟩
 have hrs:=fun u (h:Below w.heap.size w u)=>refStepped_ok C S sv ws aw cw u (hl.later h) (hv.later h) (hw.later h) h64 h0;have hst:=fun u (h:Below w.heap.size w u)=>fccStep_ok C S sv ws aw cw u (hg.later h) (hl.later h) (hv.later h) (hw.later h) h64 h0 (fun K wz S' hS hL=>stOK_of (ws:=ws) h0 K wz hS hL);have his:=is_any 0 0;rw[beq_self_eq_true,Zar] at his;simp only[h0,Zar] at hsm hcs;have HT9:=Zab (stOK_of (ws:=ws) h0 w.heap.size w ⟨rfl,rfl,rfl⟩ (fun u hu=>hl.later hu)).t9;have HX9:=Zab (rdX_len (vS3 C S (gat rdOf ws) sv) HT9.out 2 (by omega))
 have hf1:∀u,Calls prog 13 #[.slice (some (Ad u.heap.size 0)) 2 2] (u.alloc (.cells #[Vi 0,Vi wn] 44)) fun r w'=>r=.returned (Vi 0)∧Below u.heap.size u w':=fun u=>by
  have h:=first_b 44 0 wn u;rw[show Zap [0,wn]=0 by rw[Hwn.out,if_neg (by omega)];rfl] at h;exact h
 have h9:=fun i (hi:i<2)=>(hv i hi).2.1;have e0:S.sn 0=(sv 0).length:=(hv 0 (by omega)).1;have e1:S.sn 1=(sv 1).length:=(hv 1 (by omega)).1
 have g2:¬(9:Int)<(S.sn 0:Int):=by have:=h9 0 (by omega);omega
 have g3:¬(9:Int)<(S.sn 1:Int):=by have:=h9 1 (by omega);omega
 have g1:¬(200:Int)<(ws.length:Int):=by omega
 obtain⟨lo,hlo2⟩:∃lo,false=lo:=⟨_,rfl⟩;rw[hlo2] at hlo;have HC:=Zab ((Blk.new w 29 (crL C)).later (Zaa _ (.cells (stL S).toArray 41)));have HS:Hid (Blk 41 ((w.alloc (.cells (crL C).toArray 29)).alloc (.cells (stL S).toArray 41)) (w.heap.size+1) (stL S)):=Zab (by have:=Blk.new (w.alloc (.cells (crL C).toArray 29)) 41 (stL S);rw[World.size_alloc] at this;exact this);have HB:=Zab (Zac (Zaa w (.cells (crL C).toArray 29)) (Zaa _ (.cells (stL S).toArray 41)))
 have hll:∀u,Calls prog 11 #[.agg (crL C).toArray] u fun e w'=>e=.returned (.bool lo)∧Below u.heap.size u w':=by rw[←hlo];exact longLines_any (C.a 0 0) (C.a 0 1) (C.a 0 2) (C.a 0 3) (C.a 0 4) (C.a 0 5) (C.a 0 6) (C.a 0 7) (C.a 0 8) (C.a 0 9) (C.a 0 10) (C.a 0 11) (C.a 0 14) (C.p 0) (C.q 0) (C.al 0).length (C.zl 0).length (C.cn 0) (C.cm 0) (C.a 1 0) (C.a 1 1) (C.a 1 2) (C.a 1 3) (C.a 1 4) (C.a 1 5) (C.a 1 6) (C.a 1 7) (C.a 1 8) (C.a 1 9) (C.a 1 10) (C.a 1 11) (C.a 1 14) (C.p 1) (C.q 1) (C.al 1).length (C.zl 1).length (C.cn 1) (C.cm 1) C.c0 C.c1
 clear hlo
 go_enter func3,ntmps3
 go_upto_region 1 with fail;generalize ((w.alloc (.cells (crL C).toArray 29)).alloc (.cells (stL S).toArray 41))=w0 at *;generalize w.heap.size+1=QS at *;have hs0:=(HS.out.cell (Zdq S (i:=0) (by omega))).1;have hs1:=(HS.out.cell (Zdq S (i:=1) (by omega))).1;subst hlo2;clear hg hl hv hw h9 e0 e1
 go_upto_region 3 with(first
  |(refine Lq 29 _ rfl ?_;refine wpList_load_mid rfl 29 (.tmp 3) rfl w.heap.size 0 rfl (crL C) _ HC.out.range underlying29 rfl Zaw ?_)
  |(go_at_call 11;refine Sb (hll _) fun w1 hb=>?_;have HB1:=Zab (Zac HB.out hb);have HC1:=Zab (HC.out.later hb);have HS1:=Zab (HS.out.later hb);have hs0:=cell_later hb hs0;have hs1:=cell_later hb hs1;clear hb))
 clear g1 g2 g3 hs0 hs1 hll HB HC HS
 go_upto_region 4 with(first
  |(refine Lq 29 _ rfl ?_;refine wpList_load_mid rfl 29 (.tmp 3) rfl w.heap.size 0 rfl (crL C) _ HC1.out.range underlying29 rfl Zaw ?_)
  |(refine Lq 41 _ rfl ?_;refine wpList_load_mid rfl 41 (.tmp 4) rfl QS 0 rfl (stL S) _ HS1.out.range underlying41 rfl Zbf ?_)
  |(go_at_call 12;refine Sb (hsm _ HB1.out) fun w2 hb=>?_;have HB2:=Zab (Zac HB1.out hb);have HC2:=Zab (HC1.out.later hb);have HS2:=Zab (HS1.out.later hb);clear hb HB1 HC1 HS1))
 clear hsm
 go_upto_region 5 with(first
  |(go_at_call 14;refine Sm (hwn _) ?_)
  |(go_at_call 13;refine Sb (hf1 _) fun w4 hb=>?_;have HB4:=Zab (Zac HB2.out hb);have HC4:=Zab (HC2.out.later hb);have HS4:=Zab (HS2.out.later hb);clear hb HB2 HC2 HS2))
 clear hwn hf1
 go_upto_region 6 with(refine Sq 41 _ _ rfl ?_;refine Zfg (c':=z30.toArray) (.tmp 9) (.tmp 45) rfl rfl rfl rfl rfl rfl (Zaq _ rfl) ?_);have HQ:Hid (w.heap.size<w4.heap.size∧QS<w4.heap.size∧w.heap.size≤w4.heap.size):=Zab ⟨HC4.out.lt,HS4.out.lt,HB4.out.size⟩;have HZ:Hid (Blk 41 (w4.alloc (.cells z30.toArray 41)) w4.heap.size z30):=Zab (Blk.new w4 _ _);have HB5:=Zab (Zac HB4.out (Zaa w4 (.cells z30.toArray 41)));have HC5:=Zab (HC4.out.later (Zaa w4 (.cells z30.toArray 41)));have HS5:=Zab (HS4.out.later (Zaa w4 (.cells z30.toArray 41)));clear HB4 HC4 HS4;generalize w4.alloc (.cells z30.toArray 41)=w5 at *;generalize w4.heap.size=QW at *;have hQW:=HZ.out.lt
 go_upto_region 8 with(first
  |(refine Lq 29 _ rfl ?_;refine wpList_load_mid rfl 29 (.tmp 3) rfl w.heap.size 0 rfl (crL C) _ HC5.out.range underlying29 rfl Zaw ?_)
  |(refine Lq 41 _ rfl ?_;refine wpList_load_mid rfl 41 (.tmp 4) rfl QS 0 rfl (stL S) _ HS5.out.range underlying41 rfl Zbf ?_)
  |(go_at_call 15;refine(hrs _ HB5.out).mono ?_;rintro e w6 ⟨T,g,c,rfl,hT,hsv,hfr,hgg,hu,hb⟩;have HT:=Zab hT;have HSV:=Zab hsv;have HFR:=Zab hfr;have HGG:=Zab hgg;have HU:=Zab hu;have HB6:=Zab (Zac HB5.out hb);have HC6:=Zab (HC5.out.later hb);have HS6:=Zab (HS5.out.later hb);have HZ6:=Zab (HZ.out.later hb);clear hb hT hsv hfr hgg hu HB5 HC5 HS5 HZ)
  |(refine Sq 41 _ _ rfl ?_;refine wpList_store_mid rfl 41 (.tmp 9) (.tmp 53) rfl QW 0 (stL T).toArray rfl rfl (HZ6.out.there (by show 0+30≤30;omega)) Zbf (Zaq _ rfl) ?_))
 have HW7:Hid (Blk 41 (w6.setCells QW 0 (stL T)) QW (stL T)):=by
  have h:=Blk.setCells (stL T) 0 w6 _ HZ6.out;rw[putL_all (stL T) z30 rfl] at h;exact Zab h
 have HSV7:Hid (SvL (w6.setCells QW 0 (stL T)) T (vS3 C S (gat rdOf ws) sv)):=Zab (fun i hi=>by
  obtain⟨G,g1,g2⟩:=HFR.out i hi;have h:=HSV.out i hi;refine⟨h.1,h.2.1,?_⟩;rw[g1] at h⊢
  exact Zbz (by omega) _ _ h.2.2)
 have HU7:=Zab (u32_far (show g≠QW by have:=HGG.out;omega) (stL T) 0 HU.out);have HB7:=Zab (Zag (stL T) 0 w6 HB6.out HQ.out.2.2);have HC7:=Zab (Blk.farCells (show w.heap.size≠QW by have:=HQ.out;omega) (stL T) 0 w6 HC6.out);have HS7:=Zab (Blk.farCells (show QS≠QW by have:=HQ.out;omega) (stL T) 0 w6 HS6.out);clear HZ6 HSV HU HB6 HC6 HS6 HFR HGG hrs hQW;generalize hU:World.setCells w6 QW 0 _=w7 at *;clear hU
 go_upto_region 9 with(first
  |(refine Lq 29 _ rfl ?_;refine wpList_load_mid rfl 29 (.tmp 3) rfl w.heap.size 0 rfl (crL C) _ HC7.out.range underlying29 rfl Zaw ?_)
  |(refine Lq 41 _ rfl ?_;refine wpList_load_mid rfl 41 (.tmp 4) rfl QS 0 rfl (stL S) _ HS7.out.range underlying41 rfl Zbf ?_)
  |(go_at_call 16;refine(hst _ HB7.out).mono ?_;rintro e w8 ⟨S1,g',c',rfl,hS1,hsv,hu,hb⟩;have HS1:=Zab hS1;have HSN:=Zab hsv;have HUN:=Zab hu;have HB8:=Zab (Zac HB7.out hb);have HC8:=Zab (HC7.out.later hb);have HS8:=Zab (HS7.out.later hb);have HW8:=Zab (HW7.out.later hb);have HSV8:=Zab (fun i hi=>And.intro (HSV7.out i hi).1 (And.intro (HSV7.out i hi).2.1 ((HSV7.out i hi).2.2.later hb)));have HU8:=Zab (HU7.out.later hb);clear hb hS1 hsv hu HB7 HC7 HS7 HW7 HSV7 HU7)
  |(refine Sq 41 _ _ rfl ?_;refine Zfg (c':=(stL (sS3 C S1 (gat rdOf ws) sv)).toArray) (.tmp 11) (.tmp 60) rfl rfl rfl rfl rfl rfl (Zaq _ rfl) ?_))
 have HN:Hid (Blk 41 (w8.alloc (.cells (stL (sS3 C S1 (gat rdOf ws) sv)).toArray 41)) w8.heap.size (stL (sS3 C S1 (gat rdOf ws) sv))):=Zab (Blk.new w8 _ _);have AL:=Zaa w8 (.cells (stL (sS3 C S1 (gat rdOf ws) sv)).toArray 41);have HB9:=Zab (Zac HB8.out AL);have HC9:=Zab (HC8.out.later AL);have HS9:=Zab (HS8.out.later AL);have HW9:=Zab (HW8.out.later AL);have HSV9:Hid (SvL (w8.alloc (.cells (stL (sS3 C S1 (gat rdOf ws) sv)).toArray 41)) T (vS3 C S (gat rdOf ws) sv)):=Zab (fun i hi=>⟨(HSV8.out i hi).1,(HSV8.out i hi).2.1,(HSV8.out i hi).2.2.later AL⟩);have HSN9:Hid (SvL (w8.alloc (.cells (stL (sS3 C S1 (gat rdOf ws) sv)).toArray 41)) (sS3 C S1 (gat rdOf ws) sv) (vS3 C S (gat rdOf ws) sv)):=Zab (fun i hi=>⟨by rw[←vS3_eq HS1.out];exact(HSN.out i hi).1,by rw[←vS3_eq HS1.out];exact(HSN.out i hi).2.1,by rw[←vS3_eq HS1.out];exact(HSN.out i hi).2.2.later AL⟩);have HU9:=Zab (HU8.out.later AL);have HUN9:=Zab (HUN.out.later AL);rw[pkU_map,rd_eq HS1.out] at HUN9;clear AL HB8 HC8 HS8 HW8 HSV8 HSN HU8 HUN;have hss:=fun u (h:Below (w8.alloc (.cells (stL (sS3 C S1 (gat rdOf ws) sv)).toArray 41)).heap.size (w8.alloc (.cells (stL (sS3 C S1 (gat rdOf ws) sv)).toArray 41)) u)=>sameState_s (sS3 C S1 (gat rdOf ws) sv) T (vS3 C S (gat rdOf ws) sv) (by rw[HT.out.1];exact bk_eq HS1.out) (by rw[HT.out.2.1];exact hd_eq HS1.out) (by rw[HT.out.2.2];exact n_eq HS1.out) u (fun i hi=>⟨(HSN9.out i hi).1,(HSN9.out i hi).2.1,(HSN9.out i hi).2.2.later h⟩) (fun i hi=>⟨(HSV9.out i hi).1,(HSV9.out i hi).2.1,(HSV9.out i hi).2.2.later h⟩)
 have hsw:∀u,Below (w8.alloc (.cells (stL (sS3 C S1 (gat rdOf ws) sv)).toArray 41)).heap.size (w8.alloc (.cells (stL (sS3 C S1 (gat rdOf ws) sv)).toArray 41)) u→Calls prog 20 #[.slice (some (Ad g' 0)) (rdA (vS3 C S1 (gat rdOf ws) sv) (sS3 C S1 (gat rdOf ws) sv).n).length c',.slice (some (Ad g 0)) (rdA (vS3 C S (gat rdOf ws) sv) (sS3 C S (gat rdOf ws) sv).n).length c] u fun e w'=>e=.returned (.bool true)∧Below u.heap.size u w':=fun u h=>by
  rw[rd_eq HS1.out];have k:=sameWords_l ((rdA (vS3 C S (gat rdOf ws) sv) (sS3 C S (gat rdOf ws) sv).n).map pk1) (some (Ad g' 0)) (some (Ad g 0)) c' c (by rw[List.length_map,rdA,List.length_append];have:=HX9.out;simp;omega) u (HUN9.out.later h) (HU9.out.later h);rw[List.length_map] at k;exact k
 clear HSV9 HSN9 HU9 HUN9 HT HX9;generalize hU:w8.alloc (.cells (stL (sS3 C S1 (gat rdOf ws) sv)).toArray 41)=w9 at *;clear hU;generalize w8.heap.size=QN at*
 go_wp2_with (first
  |(refine Lq 29 _ rfl ?_;refine wpList_load_mid rfl 29 (.tmp 3) rfl w.heap.size 0 rfl (crL C) _ HC9.out.range underlying29 rfl Zaw ?_)
  |(refine Lq 41 _ rfl ?_;refine wpList_load_mid rfl 41 (.tmp 4) rfl QS 0 rfl (stL S) _ HS9.out.range underlying41 rfl Zbf ?_)
  |(go_at_call 18;refine Sb (hcs _ HB9.out) fun w10 hb=>?_;have HB10:=Zab (Zac HB9.out hb);have HW10:=Zab (HW9.out.later hb);have HN10:=Zab (HN.out.later hb);have HL10:=Zab hb;clear hb HC9 HS9 HB9 hcs)
  |(go_at_call 17;refine(his _).mono ?_;rintro e w11 ⟨rfl,rfl⟩)
  |(refine Lq 41 _ rfl ?_;refine Zgh (by kernel_rfl) 41 (.tmp 11) rfl QN 0 rfl (stL (sS3 C S1 (gat rdOf ws) sv)) _ HN10.out.range underlying41 rfl Zbf ?_)
  |(refine Lq 41 _ rfl ?_;refine Zgh (by kernel_rfl) 41 (.tmp 9) rfl QW 0 rfl (stL T) _ HW10.out.range underlying41 rfl Zbf ?_)
  |(go_at_call 19;refine Sb (hss _ HL10.out) fun w12 hb=>?_;have HB12:=Zab (Zac HB10.out hb);have HL12:=Zab (Zac HL10.out hb);clear hb)
  |(go_at_call 20;refine Sb (hsw _ HL12.out) fun w13 hb=>?_;have HB13:=Zab (Zac HB12.out hb);clear hb))
 go_ret;exact⟨rfl,HB13.out⟩
theorem fccMade_walk(a1:Option Addr)(l1:List Int)(c1:Nat)(a2:Option Addr)(l2:List Int)(c2:Nat)(a3:Option Addr)(l3:List Int)(c3:Nat)(many:Int)(hm1:l1.length≤9223372036854775807)(hm2:l2.length≤9223372036854775807)(hm3:l3.length≤9223372036854775807)(w:World)(hg:GV w)(hi1:ILs w a1 l1)(hi2:ILs w a2 l2)(hi3:ILs w a3 l3):
 Calls prog 4 #[.slice a1 l1.length c1,.slice a2 l2.length c2,.slice a3 l3.length c3,Vi many] w fun e w'=>e=.returned (.bool true)∧Below w.heap.size w w':=by
 by_cases h1:(100:Int)<(l1.length:Int)
 · go_enter func4,ntmps4
   go_wp2;go_ret;exact⟨rfl,Below.refl _ _⟩
 by_cases h2:(100:Int)<(l2.length:Int)
 · go_enter func4,ntmps4
   go_wp2;go_ret;exact⟨rfl,Below.refl _ _⟩
 by_cases h3:(100:Int)<(l3.length:Int)
 · go_enter func4,ntmps4
   go_wp2;go_ret;exact⟨rfl,Below.refl _ _⟩
 · have HCF:=Zab (craftFrom_c a1 l1 c1 (by omega) w hi1);have hpk:=pick_any many 40 (by omega) (by omega);have e0:=Int.emod_nonneg many (b:=40) (by omega);have e1:=Int.emod_lt_of_pos many (b:=40) (by omega);obtain⟨m0,hm0⟩:∃m0:Nat,many%40=(m0:Int):=⟨(many%40).toNat,by omega⟩;rw[hm0] at hpk e1;clear hm0 e0
   go_enter func4,ntmps4
   go_upto_region 4 with(first
    |(go_at_call 21;refine HCF.out.mono ?_;rintro e v1 ⟨⟨C,rfl,hcr,hCL,hlen⟩,hb1⟩;have HCL:=Zab hCL;have HCR:=Zab hcr;have HB1:=Zab hb1;have HLE:=Zab hlen;clear hCL hcr hb1 hlen HCF)
    |(refine isStoreT 29 _ _ rfl ?_;refine Zff (c':=(crL C).toArray) 29 32 Zaw (.tmp 9) (.tmp 24) rfl rfl rfl rfl rfl rfl (Zaq _ rfl) ?_))
   have HA:=Zaa v1 (.cells (crL C).toArray 29);have HK:=Zab (Blk.new v1 29 (crL C));have HB:=Zab (Zac HB1.out HA);replace HCL:=Zab (HCL.out.later HA);have HG:=Zab (hg.later HB.out);have HI2:=Zab (hi2.later HB.out);have HI3:=Zab (hi3.later HB.out);have HLO:Hid ((decide (20<(C.al 0).length)||decide (20<(C.zl 0).length)||decide (20<(C.al 1).length)||decide (20<(C.zl 1).length))=false):=Zab (by rw[(HLE.out 0 (by omega)).1,(HLE.out 0 (by omega)).2,(HLE.out 1 (by omega)).1,(HLE.out 1 (by omega)).2];rfl);clear HA HB1 hg hi1 hi2 hi3 HLE;generalize v1.alloc (.cells (crL C).toArray 29)=v2 at *;generalize v1.heap.size=QK at *;refine wp_region_held_drew (S:=fun u=>Below v2.heap.size v2 u) (by kernel_rfl) ((Below.refl _ _).drew) (fun _=>?_);have HS0:Hid (Below v2.heap.size v2 v2.drew):=Zab ((Below.refl _ _).drew);generalize v2.drew=u0 at HS0⊢;refine Tk 0 rfl (yieldsIf_load_mid (by rfl) 29 (.tmp 9) rfl QK 0 rfl (crL C) _ (fun w hSw=>Zae HK.out.range hSw) underlying29 rfl Zaw) HS0.out ?_;simp only[Act.put,Ly];refine Tk 1 rfl (yieldsIf_load_mid (by rfl) 29 (.tmp 9) rfl QK 0 rfl (crL C) _ (fun w hSw=>Zae HK.out.range hSw) underlying29 rfl Zaw) HS0.out ?_;simp only[Act.put,Ly];refine Tq 2 HS0.out ?_;simp only[Act.put,Ly];refine Tk 4 rfl (yieldsIf_load_mid (by rfl) 29 (.tmp 9) rfl QK 0 rfl (crL C) _ (fun w hSw=>Zae HK.out.range hSw) underlying29 rfl Zaw) HS0.out ?_;simp only[Act.put,Ly];refine Tq 5 HS0.out ?_;simp only[Act.put,Ly];refine Tq 6 HS0.out ?_;simp only[Act.put,Ly];refine Ra 3 (fun K hK=>?_);go_simp;refine(stateFrom_any C HCR.out _ l2 _ (by omega) u0 (HI2.out.later HS0.out)).mono ?_;rintro e u1 ⟨⟨S,sv,rfl,hV,hE⟩,hb⟩;have HS1:=Zab (Zac HS0.out hb);have HVV:=Zab hV;have HEE:=Zab hE;clear hV hE;clear hb;refine hK.out _ _ HS1.out (fun _=>?_);clear hK K;(try simp only[Act.put]);refine Ra 7 (fun K hK=>?_);go_simp;refine Sb (hpk u1) fun u2 hq=>?_
   have hb:Below u1.heap.size u1 u2:=by rw[hq];exact Below.refl _ _
   clear hq;have HS2:=Zab (Zac HS1.out hb);replace HVV:=Zab (HVV.out.later hb);clear hb;refine hK.out _ _ HS2.out (fun _=>?_);clear hK K;(try simp only[Act.put]);clear HS1;refine Ra 8 (fun K hK=>?_);go_simp;refine(wordsFrom_any C _ l3 _ m0 (by omega) (by omega) u2 (HI3.out.later HS2.out)).mono ?_;rintro e u3 ⟨⟨aw,cw,ws,rfl,hwl,hW⟩,hb⟩;have HS3:=Zab (Zac HS2.out hb);replace HVV:=Zab (HVV.out.later hb);have HWW:=Zab hW;clear hW;clear hb;refine hK.out _ _ HS3.out (fun _=>?_);clear hK K;(try simp only[Act.put]);clear HS2;refine Ra 9 (fun K hK=>?_);go_simp;refine Sb (fccSays_ok C S sv ws aw cw u3 (HG.out.later HS3.out) (HCL.out.later HS3.out) HVV.out HWW.out HLO.out (by omega) HEE.out (by omega)) fun u4 hb=>?_;have HS4:=Zab (Zac HS3.out hb);clear HVV HEE HWW;clear hb;refine hK.out _ _ HS4.out (fun _=>?_);clear hK K;(try simp only[Act.put]);clear HS3;refine Tq 10 HS4.out ?_;simp only[Act.put,Ly];refine wpAnyH_done (by kernel_rfl) ?_ _;go_simp;have HB2:=HS4;clear HS4;generalize u4=v4 at HB2⊢;refine Zby (by assumption) ?_;go_wp2_with fail;go_ret;exact⟨rfl,Zac HB.out HB2.out⟩
end Go.Proofs.YtnfdfiholcelaaaGreatDoor
namespace Go.Proofs.YtnfdfiholcelaaaGreatDoor
open Go.ChangeShapes Go.WideShapes Go.ChangeAt Go.RowKit Go.Joins Go.Deep Tryz
set_option linter.unusedVariables false
end Go.Proofs.YtnfdfiholcelaaaGreatDoor
namespace Go.Proofs.YtnfdfiholcelaaaGreatDoor
open Go.ChangeShapes Go.WideShapes Go.ChangeAt Go.RowKit Go.Joins Go.Deep Tryz
set_option linter.unusedVariables false
theorem saddr_add(b off n:Nat):(⟨b,off,none⟩:Addr).add n=⟨b,off+n,none⟩:=by unfold Addr.add;split<;>simp_all
theorem open_ils{H:Type}{enc:TypeId×Value→H}{w:World}{base:Nat}{n:Nat}{v:Value}{y:DataW H×List MemPlace}(h:DataW.trod enc prog w base (fun _=>true) true n 22 [v]=some y):
 ∃(a:Option Addr) (l:List Int) (cap:Nat),v=.slice a l.length cap∧l.length≤9223372036854775807∧ILs w a l∧∀x∈l,-9223372036854775808≤x∧x≤9223372036854775807:=by
 rcases open_ints underlying22 underlying3 (by kernel_rfl) h with⟨hcs,_⟩|⟨x,len,cap,zs,hcs,_,hl,hm,hz,_,hcell,hwz⟩
 · simp at hcs
   exact⟨none,[],0,by simpa using hcs,by simp,.inl rfl,by simp⟩
 · simp at hcs hz
   have hlen:(zs.take len).length=len:=by simp;omega
   refine⟨some x,zs.take len,cap,by rw[hlen];exact hcs,by rw[hlen];unfold maxLen at hm;omega,?_,fun z hzm=>?_⟩
   · by_cases h0:len=0
     · left;subst h0;rfl
     · right
       obtain⟨b,off,spot⟩:=x;have hc:=hcell 0 (by omega)
       have hspot:spot=none:=by simpa[Addr.add] using World.cell?_spot hc
       subst hspot;refine⟨b,off,rfl,fun k hk=>?_⟩;rw[hlen] at hk;have q:=hcell k (by omega);rw[saddr_add] at q;rw[q,List.getD_eq_getElem?_getD,List.getD_eq_getElem?_getD,List.getElem?_take,if_pos hk]
   · exact bounds_i64 (hwz z (List.mem_of_mem_take hzm))
end Go.Proofs.YtnfdfiholcelaaaGreatDoor


import Derived.Test.YtnepnnkdgejheaaGreatDoorKp32
set_option maxRecDepth 100000
set_option maxHeartbeats 20000000
namespace Go.Proofs.YtnepnnkdgejheaaGreatDoor
open Go.RowKit Plain Tryz
def alC(o:Option Ft):Ft:=match o with
 |none=>ftD
 |some f=>(f.1,f.2.1,f.2.2.1,f.2.2.2.1,cD f.2.2.2.2)
theorem Jer(now ax j:Int)(m:Bool)(h e y w H:Int):
 (YO now ax j m (h,e,y,w,H)=true/\h<=now/\y=ax/\w=j/\((e=4/\m=true)\/((e==4)=false/\m=false)))\/
 (YO now ax j m (h,e,y,w,H)=false/\(¬h<=now\/(h<=now/\¬y=ax)\/(h<=now/\y=ax/\¬w=j)\/(h<=now/\y=ax/\w=j/\e=4/\m=false)\/(h<=now/\y=ax/\w=j/\(e==4)=false/\m=true))):=by
 unfold YO
 by_cases h1:h<=now<;>by_cases h2:y=ax<;>by_cases h3:w=j<;>by_cases h4:e=4<;>cases m<;>simp[h1,h2,h3,h4]
theorem UZ(I:V8)(cf:Nat)(l:List Ft)(now ax m:Int)(e:Bool)(hl:l.length<=1000)(w:V6)(L:Fts w I l):
 Va 73 #[.slice I l.length cf,Vi now,Vi ax,Vi m,.bool e] w (Rt w (.tuple #[.agg (ftL (alC (ail l now ax m e))).toArray,.bool (ail l now ax m e).isSome])):=by
 have HF:=Za (fun u (h:Bw w u)=>L.lq h);have O:=Za (Zc (Zb w (.cells (ftL ftD).toArray 64)) (Zb _ (.cells (ftL ftD).toArray 64)));have U:=Za ((Blk.new w 64 (ftL ftD)).lq (Zb _ (.cells (ftL ftD).toArray 64)));have A:Hd (Blk 64 ((w.alloc (.cells (ftL ftD).toArray 64)).alloc (.cells (ftL ftD).toArray 64)) (w.heap.size+1) (ftL ftD)):=Za (by have:=Blk.new (w.alloc (.cells (ftL ftD).toArray 64)) 64 (ftL ftD);rw[World.size_alloc] at this;exact this);have y:Hd (w.heap.size<=w.heap.size+1/\w.heap.size≠w.heap.size+1):=Za (by omega);clear L
 go_enter func73,ntmps73
 go_upto_region 3 with fail;have B:(w.alloc (.cells #[Vi 0,Vi 0,Vi 0,Vi 0,Vi 0] 64)).alloc (.cells #[Vi 0,Vi 0,Vi 0,Vi 0,Vi 0] 64)=(w.alloc (.cells (ftL ftD).toArray 64)).alloc (.cells (ftL ftD).toArray 64):=rfl;rw[B];clear B;generalize (w.alloc (.cells (ftL ftD).toArray 64)).alloc (.cells (ftL ftD).toArray 64)=v0 at *;generalize w.heap.size+1=Y at*
 go_loopw [13,14] (fun fo ix wr=>∃k:Nat,k<=l.length/\ix=Vi k/\fo=.bool (ED l now ax m e k).isSome/\Bw w wr/\Blk 64 wr Y (ftL ((ED l now ax m e k).getD ftD))/\Blk 64 wr w.heap.size (ftL ftD)) (fun _ ix _=>l.length-(intOf ix).toNat)
 case atStart=>exact⟨0,Nat.zero_le _,rfl,rfl,O.o,A.o,U.o⟩
 case round=>
  obtain⟨k,hk,rfl,rfl,M,ha,hc⟩:=hrel;clear O A U
  by_cases hlt:k<l.length
  . obtain⟨b,off,rfl,K⟩:=(HF.o wr M).at hlt;have E:Hd (ED l now ax m e (k+1)=if YO now ax m e (BK l k) then some (BK l k) else ED l now ax m e k):=Za rfl
    have k0:(0:Int)<=(k:Int):=by omega
    have k1:(k:Int)<(l.length:Int):=by omega
    generalize he:BK l k=f at *;obtain⟨X,Q,G,R,Z⟩:=f;have c0:=K 0 _ rfl;have c1:=K 1 _ rfl;have c2:=K 2 _ rfl;have c3:=K 3 _ rfl;have c4:=K 4 _ rfl
    dsimp only at c0 c1 c2 c3 c4
    simp only[Nat.add_zero] at c0;have N:=Za M;have H:=Za ha;have P:=Za hc;generalize Hj:ED l now ax m e k=ak at *;clear K M ha hc he Hj
    rcases Jer now ax m e X Q G R Z with⟨D,h1,rfl,rfl,h4⟩|⟨D,hg⟩
    . have C:=Za D;clear D;have W:=H.o.cell (j:=0) rfl;have l1:=H.o.cell (j:=1) rfl;have l2:=H.o.cell (j:=2) rfl;have l3:=H.o.cell (j:=3) rfl;have l4:=H.o.cell (j:=4) rfl;have T:=Za (((((H.o.set 0 (Vi X)).set 1 (Vi Q)).set 2 (Vi G)).set 3 (Vi R)).set 4 (Vi Z));have J:=Za (((((P.o.far y.o.2 0 (Vi X)).far y.o.2 1 (Vi Q)).far y.o.2 2 (Vi G)).far y.o.2 3 (Vi R)).far y.o.2 4 (Vi Z));have F:=Za (((((N.o.setCell (p:=⟨Y,0,none⟩) y.o.1 (Vi X)).setCell (p:=⟨Y,1,none⟩) y.o.1 (Vi Q)).setCell (p:=⟨Y,2,none⟩) y.o.1 (Vi G)).setCell (p:=⟨Y,3,none⟩) y.o.1 (Vi R)).setCell (p:=⟨Y,4,none⟩) y.o.1 (Vi Z))
      rcases h4 with⟨rfl,rfl⟩|⟨h4,rfl⟩
      all_goals
       go_wp2_with fail;go_roundw
       case rel=>exact⟨k+1,by omega,by go_num,by rw[E.o,C.o];rfl,F.o,by rw[E.o,C.o];exact T.o,J.o⟩
       case measure=>simp[intOf];omega
    . have C:=Za D;clear D
      rcases hg with h1|⟨h1,h2⟩|⟨h1,rfl,h3⟩|⟨h1,rfl,rfl,rfl,rfl⟩|⟨h1,rfl,rfl,h4,rfl⟩
      all_goals
       go_wp2_with fail;go_roundw
       case rel=>exact⟨k+1,by omega,by go_num,by rw[E.o,C.o];rfl,N.o,by rw[E.o,C.o];exact H.o,P.o⟩
       case measure=>simp[intOf];omega
  . obtain rfl:k=l.length:=by omega
    have N:=Za M;have H:=Za ha;have P:=Za hc;have Hn:=y.o.2;have hi:=fun(x:Int)=>Yx x (-262143) 262143;generalize hd:ED l now ax m e l.length=ak at *;have Hk:=Za hd;have Hl:Hd (alC ak=((ak.getD ftD).1,(ak.getD ftD).2.1,(ak.getD ftD).2.2.1,(ak.getD ftD).2.2.2.1,Ze (ak.getD ftD).2.2.2.2 (-262143) 262143)):=Za (by cases ak<;>rfl);generalize hj:ak.getD ftD=f at *;obtain⟨X,Q,G,R,Z⟩:=f;clear hj hd M ha hc;have x4:=H.o.cell (j:=4) rfl
    go_upto_region 8 with(go_at_call 72;refine Sm (hi _ _) ?_);have T:=Za (H.o.set 4 (Vi (Ze Z (-262143) 262143)));have J:=Za (P.o.far y.o.2 4 (Vi (Ze Z (-262143) 262143)));have F:=Za (N.o.setCell (p:=⟨Y,4,none⟩) y.o.1 (Vi (Ze Z (-262143) 262143)));clear x4 H P N;generalize wr.setCell (Ad Y 4) (Vi (Ze Z (-262143) 262143))=v1 at *;have x0:=(T.o.cell (j:=0) rfl).1;have x1:=(T.o.cell (j:=1) rfl).1;have x2:=(T.o.cell (j:=2) rfl).1;have x3:=(T.o.cell (j:=3) rfl).1;have x4:=(T.o.cell (j:=4) rfl).1;have W:=J.o.cell (j:=0) rfl;have l1:=J.o.cell (j:=1) rfl;have l2:=J.o.cell (j:=2) rfl;have l3:=J.o.cell (j:=3) rfl;have l4:=J.o.cell (j:=4) rfl;generalize Ze Z (-262143) 262143=fc at *;have Hm:=Za (((((F.o.setCell (p:=⟨w.heap.size,0,none⟩) (Nat.le_refl _) (Vi X)).setCell (p:=⟨w.heap.size,1,none⟩) (Nat.le_refl _) (Vi Q)).setCell (p:=⟨w.heap.size,2,none⟩) (Nat.le_refl _) (Vi G)).setCell (p:=⟨w.heap.size,3,none⟩) (Nat.le_refl _) (Vi R)).setCell (p:=⟨w.heap.size,4,none⟩) (Nat.le_refl _) (Vi fc));go_wp2_with fail;exact bodyPost_ret (v:=.tuple #[.agg (ftL (X,Q,G,R,fc)).toArray,.bool ak.isSome]) (by simp[results,results73,go_sem,ftL,W,l1,l2,l3,l4]) rfl ⟨by rw[show ail l now ax m e=ak from Hk.o,Hl.o],Hm.o⟩
end Go.Proofs.YtnepnnkdgejheaaGreatDoor

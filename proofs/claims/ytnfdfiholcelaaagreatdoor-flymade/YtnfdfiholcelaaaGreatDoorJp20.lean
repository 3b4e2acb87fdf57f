import Derived.ChangeKeysEq
import Derived.Test.YtnfdfiholcelaaaGreatDoorJp15
set_option maxRecDepth 100000
set_option maxHeartbeats 20000000
namespace Go.Proofs.YtnfdfiholcelaaaGreatDoor
open Go.RowKit Plain Tryz
variable {B V j k:Nat}{a b:Int}{l:List Rd}{u w:World}{v:Value}
theorem OwnL.rds(h:OwnL B v l w):∃a cap,v=.slice a l.length cap∧Rds w a l:=by
 rcases h.1.2 with⟨rfl,hz⟩|⟨g,cap,cur,rfl,_,hb,r1,r2,r3,r4⟩
 · have hl:l=[]:=h.2.1 rfl;subst hl;exact⟨none,0,rfl,.inl rfl⟩
 · refine⟨_,cap,rfl,.inr ⟨g,rfl,fun k hk=>?_⟩⟩
   have hc:∀j,j<4→w.cell? (Ad g (k*4+j))=(encR (rat l k))[j]?:=fun j hj=>by
    have ht:k*4+j<l.length*4:=by omega
    have h1:(cur.toList.take (l.length*4))[k*4+j]?=(encL l)[k*4+j]?:=by rw[r4]
    rw[List.getElem?_take_of_lt ht,encL_get l _ ht,show(k*4+j)/4=k by omega,show(k*4+j)%4=j by omega,Array.getElem?_toList] at h1;simp only[World.cell?,hb];simp only[Option.isSome_none,Bool.false_eq_true,if_false];exact h1
   exact⟨hc 0 (by omega),hc 1 (by omega),hc 2 (by omega),hc 3 (by omega)⟩
def fndV(a b:Int)(l:List Rd):Value:=match fnd a b l with
 |some r=>.tuple #[rdV r,.bool true]
 |none=>.tuple #[.agg #[Vi 0,Vi 0,Vi 0,Vi 0],.bool false]
theorem fndV_yes(hk:k<l.length)(hf:fndV a b l=fndV a b (l.drop k))(h1:(rat l k).1=a)(h2:(rat l k).2.1=b):fndV a b l=.tuple #[rdV (rat l k),.bool true]:=by
 rw[hf]
 unfold fndV
 rw[fnd_step a b l k hk,if_pos ⟨h1,h2⟩]
theorem fndV_no(hk:k<l.length)(hf:fndV a b l=fndV a b (l.drop k))(h:¬((rat l k).1=a∧(rat l k).2.1=b)):fndV a b l=fndV a b (l.drop (k+1)):=by
 rw[hf]
 unfold fndV
 rw[fnd_step a b l k hk,if_neg h]
theorem fndV_end(hf:fndV a b l=fndV a b (l.drop l.length)):fndV a b l=.tuple #[.agg #[Vi 0,Vi 0,Vi 0,Vi 0],.bool false]:=by
 rw[hf,List.drop_length]
 rfl
theorem found_any(a:Option Addr)(cap:Nat)(l:List Rd)(x y:Int)(hl:l.length≤1000)(w:World)(hr:Rds w a l):
 Calls prog 93 #[.slice a l.length cap,Vi x,Vi y] w (Rt w (fndV x y l)):=by
 have HR:=Za (hr.later (Zb w (.cells #[Vi 0,Vi 0,Vi 0,Vi 0] 161)));have HB:=Za (Zb w (.cells #[Vi 0,Vi 0,Vi 0,Vi 0] 161));have HX:=Za (Box4.new w 0 0 0 0 161);clear hr
 go_enter func93,ntmps93
 go_wp2;generalize w.alloc (.cells #[Vi 0,Vi 0,Vi 0,Vi 0] 161)=w1 at *;obtain⟨B,hB⟩:∃B,B=w.heap.size:=⟨_,rfl⟩;rw[←hB] at HX;rw[←hB];have Ha:=Za hB;clear hB
 go_loop [8] (fun i=>∃k:Nat,k≤l.length∧i=Vi k∧Hid (fndV x y l=fndV x y (l.drop k))) (fun i=>l.length-(intOf i).toNat)
 case atStart=>exact⟨0,Nat.zero_le _,rfl,by show fndV x y l=fndV x y (l.drop 0);rw[List.drop_zero]⟩
 case round=>
  obtain⟨k,hk,rfl,hf⟩:=hrel;obtain⟨x0,x1,x2,x3,f0,f1,f2,f3,_⟩:=HX.out
  by_cases hlt:k<l.length
  · obtain⟨g,rfl,c0,c1,c2,c3⟩:=HR.out.at hlt
    by_cases h1:(rat l k).1=x
    · by_cases h2:(rat l k).2.1=y
      · have HS:=Za (fndV_yes hlt hf.out h1 h2)
        unfold rdV at HS
        generalize (rat l k).1=r1 at *;generalize (rat l k).2.1=r2 at *;generalize (rat l k).2.2.1=r3 at *;generalize (rat l k).2.2.2=r4 at*
        have e1:(r1==x)=true:=by simpa using h1
        have e2:(r2==y)=true:=by simpa using h2
        clear hf h1 h2;go_wp2;refine bodyPost_ret (v:=.tuple #[.agg #[Vi r1,Vi r2,Vi r3,Vi r4],.bool true]) (by simp[results,results93,go_sem, *]) rfl ⟨by rw[HS.out],?_⟩;exact Uj HB.out (by rw[Ha.out];exact Nat.le_refl _) _ _ _ _
      · have HS:=Za (fndV_no hlt hf.out (fun h=>h2 h.2));generalize (rat l k).1=r1 at *;generalize (rat l k).2.1=r2 at*
        have e1:(r1==x)=true:=by simpa using h1
        have e2:(r2==y)=false:=by simpa using h2
        clear hf h1 h2;go_wp2
        go_round
        case rel=>exact⟨k+1,by omega,by go_num,HS⟩
        case measure=>simp[intOf];omega
    · have HS:=Za (fndV_no hlt hf.out (fun h=>h1 h.1));generalize (rat l k).1=r1 at*
      have e1:(r1==x)=false:=by simpa using h1
      clear hf h1;go_wp2
      go_round
      case rel=>exact⟨k+1,by omega,by go_num,HS⟩
      case measure=>simp[intOf];omega
  · obtain rfl:k=l.length:=by omega
    have HS:=Za (fndV_end hf.out);clear hf;go_wp2;refine bodyPost_ret (v:=.tuple #[.agg #[Vi 0,Vi 0,Vi 0,Vi 0],.bool false]) (by simp[results,results93,go_sem, *]) rfl ⟨by rw[HS.out],?_⟩;exact Uj HB.out (by rw[Ha.out];exact Nat.le_refl _) _ _ _ _
theorem info_int:∃i,prog.info? 3=some i∧i.size=1:=by
 have h:(prog.info? 3).map (·.size)=some 1:=by kernel_rfl
 cases hq:prog.info? 3 with
 |none=>rw[hq] at h;cases h
 |some i=>rw[hq] at h;exact⟨i,rfl,by simpa using h⟩
theorem eq_who(d:Nat)(a b p q:Int)(w:World):(Op.equalIn (d+1+1) 241 (.agg #[Vi a,Vi b]) (.agg #[Vi p,Vi q])).run prog w=.ok (decide (a=p)&&decide (b=q)) w:=by
 obtain⟨i,hi,_⟩:=info_int;rw[run_equalIn_array w _ _ _ who_under hi,who_one,show List.range 2=[0,1] from rfl]
 by_cases h1:a=p
 · by_cases h2:b=q
   · simp[Op.eqItems,go_sem,h1,h2]
   · have:(b==q)=false:=by simpa using h2
     simp[Op.eqItems,go_sem,h1,h2,this]
 · have:(a==p)=false:=by simpa using h1
   simp[Op.eqItems,go_sem,h1,this]
def FindS(w u:World)(B:Nat)(a:Option Addr)(l:List Rd)(x y:Int):Prop:=
 Box4 u B 0 0 0 0∧(Kc u (B+1) 0 (Vi x)∧Kc u (B+1) 1 (Vi y))∧Rds u a l∧Below B w u
theorem FindS.later{u':World}{a:Option Addr}{x y:Int}(h:FindS w u B a l x y)(hb:Bw u u'):FindS w u' B a l x y:=
 ⟨h.1.later hb,⟨cell_later hb h.2.1.1,cell_later hb h.2.1.2⟩,h.2.2.1.later hb,h.2.2.2.trans (hb.mono (Nat.le_of_lt h.1.2.2.2.2.2.2.2.2))⟩
theorem find_any(a:Option Addr)(cap:Nat)(l:List Rd)(x y:Int)(hl:l.length≤1000)(w:World)(hr:Rds w a l):
 Calls prog 161 #[.slice a l.length cap,Vi x,Vi y] w (Rt w (fndV x y l)):=by
 have hq:=eq_who;have HF:Hid (FindS w ((w.alloc (.cells #[Vi 0,Vi 0,Vi 0,Vi 0] 161)).alloc (.cells #[Vi x,Vi y] 241)) w.heap.size a l x y):=
  Za ⟨(Box4.new w 0 0 0 0 161).later (Zb _ _),⟨by simp[go_sem],by simp[go_sem]⟩,hr.later (Zc (Zb _ _) (Zb _ _)),Zc (Zb _ _) (Zb _ _)⟩
 clear hr
 go_enter func161,ntmps161
 go_wp2;generalize (w.alloc (.cells #[Vi 0,Vi 0,Vi 0,Vi 0] 161)).alloc (.cells #[Vi x,Vi y] 241)=w1 at *;obtain⟨B,hB⟩:∃B,B=w.heap.size:=⟨_,rfl⟩;rw[←hB] at HF;rw[←hB];have Hd:=Za hB;clear hB
 go_loopw [16] (fun i wr=>∃k:Nat,k≤l.length∧i=Vi k∧Hid (fndV x y l=fndV x y (l.drop k))∧FindS w wr B a l x y) (fun i _=>l.length-(intOf i).toNat)
 case atStart=>exact⟨0,Nat.zero_le _,rfl,by show fndV x y l=fndV x y (l.drop 0);rw[List.drop_zero],HF.out⟩
 case round=>
  obtain⟨k,hk,rfl,hf,hS⟩:=hrel;have HS:=Za hS;clear hS
  by_cases hlt:k<l.length
  · obtain⟨g,rfl,c0,c1,c2,c3⟩:=HS.out.2.2.1.at hlt;have HY:=Za (fun h1 h2=>fndV_yes hlt hf.out h1 h2);have HN:=Za (fun h=>fndV_no hlt hf.out h)
    unfold rdV at HY
    generalize (rat l k).1=r1 at *;generalize (rat l k).2.1=r2 at *;generalize (rat l k).2.2.1=r3 at *;generalize (rat l k).2.2.2=r4 at *;clear hf
    go_upto_region 5 with fail;have Hc:=Za (HS.out.later (Zb wr (.cells #[Vi r1,Vi r2,Vi r3,Vi r4] 161)));have HC:=Za (Box4.new wr r1 r2 r3 r4 161);generalize wr.alloc (.cells #[Vi r1,Vi r2,Vi r3,Vi r4] 161)=w2 at *;generalize wr.heap.size=V at *;have Z:Hid (Kc w2 V 0 (Vi r1)∧Kc w2 V 1 (Vi r2)∧Kc w2 V 2 (Vi r3)∧Kc w2 V 3 (Vi r4)∧Kc w2 (B+1) 0 (Vi x)∧Kc w2 (B+1) 1 (Vi y)):=Za ⟨HC.out.1,HC.out.2.1,HC.out.2.2.1,HC.out.2.2.2.1,Hc.out.2.1.1,Hc.out.2.1.2⟩;clear c0 c1 c2 c3
    by_cases h:r1=x∧r2=y
    · have hq1:∀d w,(Op.equalIn (d+1+1) 241 (.agg #[Vi r1,Vi r2]) (.agg #[Vi x,Vi y])).run prog w=.ok true w:=fun d w=>by rw[hq];simp[h]
      have HV:=Za (HY.out h.1 h.2);clear HY HN h hq
      go_region_held3 (fun u=>(Kc u V 0 (Vi r1)∧Kc u V 1 (Vi r2)∧Kc u V 2 (Vi r3)∧Kc u V 3 (Vi r4)∧Kc u (B+1) 0 (Vi x)∧Kc u (B+1) 1 (Vi y)))
       (first
        |(with_reducible assumption)
        |exact Z.out)
       (first
        |(go_at_call 149;refine Sb (by_any r1 r2 r3 r4 _) fun w3 hb3=>?_;have Ha:=Za (HC.out.drew.later hb3);have Hb:=Za ((Hc.out.later (Below.refl _ _).drew).later hb3);have KS3:(Kc w3 V 0 (Vi r1)∧Kc w3 V 1 (Vi r2)∧Kc w3 V 2 (Vi r3)∧Kc w3 V 3 (Vi r4)∧Kc w3 (B+1) 0 (Vi x)∧Kc w3 (B+1) 1 (Vi y)):=⟨Ha.out.1,Ha.out.2.1,Ha.out.2.2.1,Ha.out.2.2.2.1,Hb.out.2.1.1,Hb.out.2.1.2⟩;clear hb3))
      all_goals
       obtain⟨y0,y1,y2,y3,f0,f1,f2,f3,_⟩:=Hb.out.1;obtain⟨z0,z1,z2,z3,_⟩:=Ha.out;go_wp2_with fail;refine bodyPost_ret (v:=.tuple #[.agg #[Vi r1,Vi r2,Vi r3,Vi r4],.bool true]) (by simp[results,results161,go_sem, *]) rfl ⟨by rw[HV.out],?_⟩;rw[Hd.out] at Hb⊢;exact Uj Hb.out.2.2.2 (Nat.le_refl _) _ _ _ _
    · have hq1:∀d w,(Op.equalIn (d+1+1) 241 (.agg #[Vi r1,Vi r2]) (.agg #[Vi x,Vi y])).run prog w=.ok false w:=fun d w=>by rw[hq];simp;intro h1 h2;exact h ⟨h1,h2⟩
      have HV:=Za (HN.out h);clear HY HN h hq
      go_region_held3 (fun u=>(Kc u V 0 (Vi r1)∧Kc u V 1 (Vi r2)∧Kc u V 2 (Vi r3)∧Kc u V 3 (Vi r4)∧Kc u (B+1) 0 (Vi x)∧Kc u (B+1) 1 (Vi y)))
       (first
        |(with_reducible assumption)
        |exact Z.out)
       (first
        |(go_at_call 149;refine Sb (by_any r1 r2 r3 r4 _) fun w3 hb3=>?_;have Ha:=Za (HC.out.drew.later hb3);have Hb:=Za ((Hc.out.later (Below.refl _ _).drew).later hb3);have KS3:(Kc w3 V 0 (Vi r1)∧Kc w3 V 1 (Vi r2)∧Kc w3 V 2 (Vi r3)∧Kc w3 V 3 (Vi r4)∧Kc w3 (B+1) 0 (Vi x)∧Kc w3 (B+1) 1 (Vi y)):=⟨Ha.out.1,Ha.out.2.1,Ha.out.2.2.1,Ha.out.2.2.2.1,Hb.out.2.1.1,Hb.out.2.1.2⟩;clear hb3))
      all_goals
       go_wp2_with fail;go_roundw
       (case rel=>exact⟨k+1,by omega,by go_num,HV,Hb.out⟩)
       (case measure=>simp[intOf];omega)
  · obtain rfl:k=l.length:=by omega
    have HV:=Za (fndV_end hf.out);obtain⟨y0,y1,y2,y3,f0,f1,f2,f3,_⟩:=HS.out.1;clear hf hq;go_wp2;refine bodyPost_ret (v:=.tuple #[.agg #[Vi 0,Vi 0,Vi 0,Vi 0],.bool false]) (by simp[results,results161,go_sem, *]) rfl ⟨by rw[HV.out],?_⟩;rw[Hd.out] at HS⊢;exact Uj HS.out.2.2.2 (Nat.le_refl _) _ _ _ _
theorem fndV_smp(l:List Rd)(x y:Int):∃(r1 r2 r3 r4:Int) (b:Bool),fndV x y l=.tuple #[.agg #[Vi r1,Vi r2,Vi r3,Vi r4],.bool b]∧((b=true∧r3=3∧smp l x y=(true,r4))∨(b=true∧r3≠3∧smp l x y=(false,0))∨(b=false∧smp l x y=(false,0))):=by
 unfold fndV smp
 cases fnd x y l with
 |none=>exact⟨0,0,0,0,false,rfl,.inr (.inr ⟨rfl,rfl⟩)⟩
 |some r=>
  by_cases h:r.2.2.1=3
  · exact⟨r.1,r.2.1,r.2.2.1,r.2.2.2,true,rfl,.inl ⟨rfl,h,by simp[h]⟩⟩
  · exact⟨r.1,r.2.1,r.2.2.1,r.2.2.2,true,rfl,.inr (.inl ⟨rfl,h,by simp[h]⟩)⟩
theorem Uk(B:Nat)(a:Option Addr)(cap:Nat)(l:List Rd)(x y:Int)(hl:l.length≤1000)(w:World)(hc:Kc w B 62 (.slice a l.length cap))(hr:Rds w a l):
 Calls prog 107 #[.pointer (some (Ad B 0)),Vi x,Vi y] w (Rt w (.agg #[.bool (smp l x y).1,Vi (smp l x y).2])):=by
 have HR:=Za (hr.later (Zb w (.cells #[.bool false,Vi 0] 131)));have HZ:Hid (Blk 131 (w.alloc (.cells #[.bool false,Vi 0] 131)) w.heap.size [.bool false,Vi 0]):=Za (Blk.new w _ _);have HB:=Za (Zb w (.cells #[.bool false,Vi 0] 131));have hc1:=cell_later (Zb w (.cells #[.bool false,Vi 0] 131)) hc;clear hc;clear hr;obtain⟨r1,r2,r3,r4,b,hfv,hs⟩:=fndV_smp l x y;have hs':Hid _:=Za hs;clear hs
 go_enter func107,ntmps107
 go_upto_region 1 with fail;generalize w.alloc (.cells #[.bool false,Vi 0] 131)=w0 at *;have HW:Hid (∀w1,Bw w0 w1→Blk 131 (w1.alloc (.cells #[Vi r1,Vi r2,Vi r3,Vi r4] 161)) w.heap.size [.bool false,Vi 0]∧Blk 161 (w1.alloc (.cells #[Vi r1,Vi r2,Vi r3,Vi r4] 161)) w1.heap.size [Vi r1,Vi r2,Vi r3,Vi r4]∧Bw w (w1.alloc (.cells #[Vi r1,Vi r2,Vi r3,Vi r4] 161))):=Za (fun w1 hb=>⟨(HZ.out.later hb).later (Zb _ _),Blk.new w1 _ [Vi r1,Vi r2,Vi r3,Vi r4],Zc (Zc HB.out hb) (Zb _ _)⟩)
 go_upto_region 2 with(first
  |(go_at_call 161;refine Sb (find_any a cap l x y hl _ HR.out) fun w1 hb=>?_;rw[hfv];have HV:=Za (HW.out w1 hb);clear hb HW))
 generalize w1.alloc (.cells #[Vi r1,Vi r2,Vi r3,Vi r4] 161)=w2 at *;generalize w1.heap.size=E at *;have q0:=(HV.out.1.cell (j:=0) rfl).1;have q1:=(HV.out.1.cell (j:=1) rfl).1;have f0:=(HV.out.1.cell (j:=0) rfl).2;have f1:=(HV.out.1.cell (j:=1) rfl).2;have p2:=(HV.out.2.1.cell (j:=2) rfl).1;have p3:=(HV.out.2.1.cell (j:=3) rfl).1;have h1:=(HV.out.2.2.setCell (p:=⟨w.heap.size,0,none⟩) (by simp) (.bool true)).setCell (p:=⟨w.heap.size,1,none⟩) (by simp) (Vi r4);have h0:=(HV.out.2.2.setCell (p:=⟨w.heap.size,0,none⟩) (by simp) (.bool false)).setCell (p:=⟨w.heap.size,1,none⟩) (by simp) (Vi 0);have H1:=Za h1;have H0:=Za h0;clear h0 h1
 rcases hs'.out with⟨rfl,hr3,hsm⟩|⟨rfl,hr3,hsm⟩|⟨rfl,hsm⟩
 · subst hr3;go_wp2;exact bodyPost_ret (v:=.agg #[.bool true,Vi r4]) (by simp[results,results107,go_sem,q0,q1]) rfl ⟨by first|rfl|rw[hsm],H1.out⟩
 · have hr4:(r3 != 3)=true:=by simpa using hr3
   go_wp2;exact bodyPost_ret (v:=.agg #[.bool false,Vi 0]) (by simp[results,results107,go_sem,q0,q1]) rfl ⟨by first|rfl|rw[hsm],H0.out⟩
 · go_wp2;exact bodyPost_ret (v:=.agg #[.bool false,Vi 0]) (by simp[results,results107,go_sem,q0,q1]) rfl ⟨by first|rfl|rw[hsm],H0.out⟩
theorem Ul(a:Option Addr)(cap:Nat)(l:List Rd)(x y:Int)(hl:l.length≤1000)(w:World)(hr:Rds w a l):
 Calls prog 52 #[.slice a l.length cap,Vi x,Vi y] w (Rt w (.agg #[.bool (smp l x y).1,Vi (smp l x y).2])):=by
 have HR:=Za (hr.later (Zb w (.cells #[.bool false,Vi 0] 131)));have HZ:Hid (Blk 131 (w.alloc (.cells #[.bool false,Vi 0] 131)) w.heap.size [.bool false,Vi 0]):=Za (Blk.new w _ _);have HB:=Za (Zb w (.cells #[.bool false,Vi 0] 131));clear hr;obtain⟨r1,r2,r3,r4,b,hfv,hs⟩:=fndV_smp l x y;have hs':Hid _:=Za hs;clear hs
 go_enter func52,ntmps52
 go_upto_region 1 with fail;generalize w.alloc (.cells #[.bool false,Vi 0] 131)=w0 at *;have HW:Hid (∀w1,Bw w0 w1→Blk 131 (w1.alloc (.cells #[Vi r1,Vi r2,Vi r3,Vi r4] 161)) w.heap.size [.bool false,Vi 0]∧Blk 161 (w1.alloc (.cells #[Vi r1,Vi r2,Vi r3,Vi r4] 161)) w1.heap.size [Vi r1,Vi r2,Vi r3,Vi r4]∧Bw w (w1.alloc (.cells #[Vi r1,Vi r2,Vi r3,Vi r4] 161))):=Za (fun w1 hb=>⟨(HZ.out.later hb).later (Zb _ _),Blk.new w1 _ [Vi r1,Vi r2,Vi r3,Vi r4],Zc (Zc HB.out hb) (Zb _ _)⟩)
 go_upto_region 2 with(first
  |(go_at_call 93;refine Sb (found_any a cap l x y hl _ HR.out) fun w1 hb=>?_;rw[hfv];have HV:=Za (HW.out w1 hb);clear hb HW))
 generalize w1.alloc (.cells #[Vi r1,Vi r2,Vi r3,Vi r4] 161)=w2 at *;generalize w1.heap.size=E at *;have q0:=(HV.out.1.cell (j:=0) rfl).1;have q1:=(HV.out.1.cell (j:=1) rfl).1;have f0:=(HV.out.1.cell (j:=0) rfl).2;have f1:=(HV.out.1.cell (j:=1) rfl).2;have p2:=(HV.out.2.1.cell (j:=2) rfl).1;have p3:=(HV.out.2.1.cell (j:=3) rfl).1;have h1:=(HV.out.2.2.setCell (p:=⟨w.heap.size,0,none⟩) (by simp) (.bool true)).setCell (p:=⟨w.heap.size,1,none⟩) (by simp) (Vi r4);have h0:=(HV.out.2.2.setCell (p:=⟨w.heap.size,0,none⟩) (by simp) (.bool false)).setCell (p:=⟨w.heap.size,1,none⟩) (by simp) (Vi 0);have H1:=Za h1;have H0:=Za h0;clear h0 h1
 rcases hs'.out with⟨rfl,hr3,hsm⟩|⟨rfl,hr3,hsm⟩|⟨rfl,hsm⟩
 · subst hr3;go_wp2;exact bodyPost_ret (v:=.agg #[.bool true,Vi r4]) (by simp[results,results52,go_sem,q0,q1]) rfl ⟨by first|rfl|rw[hsm],H1.out⟩
 · have hr4:(r3 != 3)=true:=by simpa using hr3
   go_wp2;exact bodyPost_ret (v:=.agg #[.bool false,Vi 0]) (by simp[results,results52,go_sem,q0,q1]) rfl ⟨by first|rfl|rw[hsm],H0.out⟩
 · go_wp2;exact bodyPost_ret (v:=.agg #[.bool false,Vi 0]) (by simp[results,results52,go_sem,q0,q1]) rfl ⟨by first|rfl|rw[hsm],H0.out⟩
theorem Xx{x:Value}(hV:B≠V)(h:Kc u B j x):(u.setCell (Ad V k) v).cell? (Ad B j)=some x:=(World.cell?_setCell_other _ _ _ _ (fun e=>hV (congrArg Addr.block e).symm)).trans h
theorem Xl{a:Option Addr}(hV:∀g,a=some (Ad g 0)→l≠[]→g≠V)(h:Rds u a l):Rds (u.setCell (Ad V j) v) a l:=by
 rcases h with h|⟨g,h,hc⟩
 · exact .inl h
 · by_cases hn:l=[]
   · exact .inl hn
   · have:=hV g h hn;exact .inr ⟨g,h,fun k hk=>⟨Xx this (hc k hk).1,Xx this (hc k hk).2.1,Xx this (hc k hk).2.2.1,Xx this (hc k hk).2.2.2⟩⟩
theorem Rds.lt{a:Option Addr}(h:Rds u a l):∀g,a=some (Ad g 0)→l≠[]→g<u.heap.size:=by
 intro g hg hl
 rcases h with h|⟨g',h,hc⟩
 · exact absurd h hl
 · subst hg;cases h
   have h0:0<l.length:=by cases l with|nil=>exact absurd rfl hl|cons _ _=>simp
   exact World.block_lt_of_cell? u _ (hc 0 h0).1
def smL(l:List Rd)(x:Int):List Value:=[.bool (smp l x 0).1,Vi (smp l x 0).2,.bool (smp l x 1).1,Vi (smp l x 1).2,.bool (smp l x 2).1,Vi (smp l x 2).2]
theorem channels_any(B:Nat)(a:Option Addr)(cap:Nat)(l:List Rd)(x:Int)(hl:l.length≤1000)(w:World)(hc:Kc w B 62 (.slice a l.length cap))(hr:Rds w a l):
 Calls prog 158 #[.pointer (some (Ad B 0)),Vi x] w (Rt w (.agg (smL l x).toArray)):=by
 have Hh:Hid (Bw w ((w.alloc (.cells Qaz 185)).alloc (.cells Qaz 185))):=Za (Zc (Zb _ _) (Zb _ _));have Hl:Hid (Blk 185 ((w.alloc (.cells Qaz 185)).alloc (.cells Qaz 185)) w.heap.size Qbl):=Za (Blk.later (Blk.new w _ Qbl) (Zb _ _));have Hm:Hid (Blk 185 ((w.alloc (.cells Qaz 185)).alloc (.cells Qaz 185)) (w.heap.size+1) Qbl):=Za (by have:=Blk.new (w.alloc (.cells Qaz 185)) 185 Qbl;rw[World.size_alloc] at this;exact this);have Hi:=Za (hr.later Hh.out);have hc0:=cell_later Hh.out hc;have hBl:B<w.heap.size:=World.block_lt_of_cell? w _ hc;have HQ:Hid (B≠w.heap.size+1):=Za (by omega);have HP:Hid (∀g,a=some (Ad g 0)→l≠[]→g≠w.heap.size+1):=Za (fun g hg hn=>by have:=hr.lt g hg hn;omega);have HN:Hid (w.heap.size≠w.heap.size+1):=Za (by omega);have HM:Hid (w.heap.size≤w.heap.size+1):=Za (by omega);clear hr hc hBl
 go_enter func158,ntmps158
 go_upto_region 2 with fail;generalize ((w.alloc (.cells Qaz 185)).alloc (.cells Qaz 185))=w0 at *;generalize w.heap.size+1=I at *;go_wp2_with fail;refine wp_loop_rounds 4 ?_;rw[rounds_succ]
 go_wp2_with (first
  |(go_at_call 107;refine Sb (Uk B a cap l x 0 hl _ hc0 Hi.out) fun u0 hb=>?_;have Hc:=Za (Zc Hh.out hb);have Hd:=Za (Hl.out.later hb);have Ha:=Za (Hm.out.later hb);have Hf:=Za (Hi.out.later hb);have hcu:=cell_later hb hc0;have q0:=(Ha.out.cell (j:=0) rfl).1;have q1:=(Ha.out.cell (j:=1) rfl).1;have f0:=(Ha.out.cell (j:=0) rfl).2;have f1:=(Ha.out.cell (j:=1) rfl).2;clear hb Hi Hm Hl Hh hc0))
 have Hn:Hid (Blk 185 ((u0.setCell (Ad I 0) (.bool (smp l x 0).1)).setCell (Ad I 1) (Vi (smp l x 0).2)) I [.bool (smp l x 0).1,Vi (smp l x 0).2,.bool false,Vi 0,.bool false,Vi 0]):=Za ((Ha.out.set 0 (.bool (smp l x 0).1)).set 1 (Vi (smp l x 0).2));have Ho:=Za ((Hd.out.far (V:=I) HN.out 0 (.bool (smp l x 0).1)).far (V:=I) HN.out 1 (Vi (smp l x 0).2));have Hp:=Za ((Hc.out.setCell (p:=⟨I,0,none⟩) HM.out (.bool (smp l x 0).1)).setCell (p:=⟨I,1,none⟩) HM.out (Vi (smp l x 0).2));have hc1:((u0.setCell (Ad I 0) (.bool (smp l x 0).1)).setCell (Ad I 1) (Vi (smp l x 0).2)).cell? (Ad B 62)=some (.slice a l.length cap):=Xx HQ.out (Xx HQ.out hcu);have Hj:=Za (Xl HP.out (Xl HP.out Hf.out (j:=0) (v:=.bool (smp l x 0).1)) (j:=1) (v:=Vi (smp l x 0).2));clear q0 q1 f0 f1 hcu Ha Hd Hc Hf;generalize (u0.setCell (Ad I 0) (.bool (smp l x 0).1)).setCell (Ad I 1) (Vi (smp l x 0).2)=w1 at *;rw[rounds_succ]
 go_wp2_with (first
  |(go_at_call 107;refine Sb (Uk B a cap l x 1 hl _ hc1 Hj.out) fun u1 hb=>?_;have Hc:=Za (Zc Hp.out hb);have Hd:=Za (Ho.out.later hb);have Ha:=Za (Hn.out.later hb);have Hf:=Za (Hj.out.later hb);have hcu:=cell_later hb hc1;have q0:=(Ha.out.cell (j:=2) rfl).1;have q1:=(Ha.out.cell (j:=3) rfl).1;have f0:=(Ha.out.cell (j:=2) rfl).2;have f1:=(Ha.out.cell (j:=3) rfl).2;clear hb Hj Hn Ho Hp hc1))
 have Hq:Hid (Blk 185 ((u1.setCell (Ad I 2) (.bool (smp l x 1).1)).setCell (Ad I 3) (Vi (smp l x 1).2)) I [.bool (smp l x 0).1,Vi (smp l x 0).2,.bool (smp l x 1).1,Vi (smp l x 1).2,.bool false,Vi 0]):=Za ((Ha.out.set 2 (.bool (smp l x 1).1)).set 3 (Vi (smp l x 1).2));have Hr:=Za ((Hd.out.far (V:=I) HN.out 2 (.bool (smp l x 1).1)).far (V:=I) HN.out 3 (Vi (smp l x 1).2));have Hs:=Za ((Hc.out.setCell (p:=⟨I,2,none⟩) HM.out (.bool (smp l x 1).1)).setCell (p:=⟨I,3,none⟩) HM.out (Vi (smp l x 1).2));have hc2:((u1.setCell (Ad I 2) (.bool (smp l x 1).1)).setCell (Ad I 3) (Vi (smp l x 1).2)).cell? (Ad B 62)=some (.slice a l.length cap):=Xx HQ.out (Xx HQ.out hcu);have Hk:=Za (Xl HP.out (Xl HP.out Hf.out (j:=2) (v:=.bool (smp l x 1).1)) (j:=3) (v:=Vi (smp l x 1).2));clear q0 q1 f0 f1 hcu Ha Hd Hc Hf;generalize (u1.setCell (Ad I 2) (.bool (smp l x 1).1)).setCell (Ad I 3) (Vi (smp l x 1).2)=w2 at *;rw[rounds_succ]
 go_wp2_with (first
  |(go_at_call 107;refine Sb (Uk B a cap l x 2 hl _ hc2 Hk.out) fun u2 hb=>?_;have Hc:=Za (Zc Hs.out hb);have Hd:=Za (Hr.out.later hb);have Ha:=Za (Hq.out.later hb);have Hf:=Za (Hk.out.later hb);have hcu:=cell_later hb hc2;have q0:=(Ha.out.cell (j:=4) rfl).1;have q1:=(Ha.out.cell (j:=5) rfl).1;have f0:=(Ha.out.cell (j:=4) rfl).2;have f1:=(Ha.out.cell (j:=5) rfl).2;clear hb Hk Hq Hr Hs hc2))
 have Hg:Hid (Blk 185 ((u2.setCell (Ad I 4) (.bool (smp l x 2).1)).setCell (Ad I 5) (Vi (smp l x 2).2)) I [.bool (smp l x 0).1,Vi (smp l x 0).2,.bool (smp l x 1).1,Vi (smp l x 1).2,.bool (smp l x 2).1,Vi (smp l x 2).2]):=Za ((Ha.out.set 4 (.bool (smp l x 2).1)).set 5 (Vi (smp l x 2).2));have Hb:=Za ((Hd.out.far (V:=I) HN.out 4 (.bool (smp l x 2).1)).far (V:=I) HN.out 5 (Vi (smp l x 2).2));have Ht:=Za ((Hc.out.setCell (p:=⟨I,4,none⟩) HM.out (.bool (smp l x 2).1)).setCell (p:=⟨I,5,none⟩) HM.out (Vi (smp l x 2).2));have hc3:((u2.setCell (Ad I 4) (.bool (smp l x 2).1)).setCell (Ad I 5) (Vi (smp l x 2).2)).cell? (Ad B 62)=some (.slice a l.length cap):=Xx HQ.out (Xx HQ.out hcu);have Hu:=Za (Xl HP.out (Xl HP.out Hf.out (j:=4) (v:=.bool (smp l x 2).1)) (j:=5) (v:=Vi (smp l x 2).2));clear q0 q1 f0 f1 hcu Ha Hd Hc Hf;generalize (u2.setCell (Ad I 4) (.bool (smp l x 2).1)).setCell (Ad I 5) (Vi (smp l x 2).2)=w3 at *;rw[rounds_succ];have q0:=(Hg.out.cell (j:=0) rfl).1;have r0:=(Hb.out.cell (j:=0) rfl).1;have f0:=(Hb.out.cell (j:=0) rfl).2;have q1:=(Hg.out.cell (j:=1) rfl).1;have r1:=(Hb.out.cell (j:=1) rfl).1;have f1:=(Hb.out.cell (j:=1) rfl).2;have q2:=(Hg.out.cell (j:=2) rfl).1;have r2:=(Hb.out.cell (j:=2) rfl).1;have f2:=(Hb.out.cell (j:=2) rfl).2;have q3:=(Hg.out.cell (j:=3) rfl).1;have r3:=(Hb.out.cell (j:=3) rfl).1;have f3:=(Hb.out.cell (j:=3) rfl).2;have q4:=(Hg.out.cell (j:=4) rfl).1;have r4:=(Hb.out.cell (j:=4) rfl).1;have f4:=(Hb.out.cell (j:=4) rfl).2;have q5:=(Hg.out.cell (j:=5) rfl).1;have r5:=(Hb.out.cell (j:=5) rfl).1;have f5:=(Hb.out.cell (j:=5) rfl).2;go_wp2_with fail;exact bodyPost_ret (v:=.agg (smL l x).toArray) (by simp[results,results158,go_sem,smL,r0,r1,r2,r3,r4,r5]) rfl ⟨rfl,Zr [.bool (smp l x 0).1,Vi (smp l x 0).2,.bool (smp l x 1).1,Vi (smp l x 1).2,.bool (smp l x 2).1,Vi (smp l x 2).2] 0 w3 Ht.out (b:=w.heap.size) (Nat.le_refl _)⟩
end Go.Proofs.YtnfdfiholcelaaaGreatDoor

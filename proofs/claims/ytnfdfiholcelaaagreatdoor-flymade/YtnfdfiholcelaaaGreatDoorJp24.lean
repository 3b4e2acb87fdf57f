import Derived.Laws.AppendOwnNone
import Derived.Test.YtnfdfiholcelaaaGreatDoorJp23
set_option maxRecDepth 100000
set_option maxHeartbeats 20000000
namespace Go.Proofs.YtnfdfiholcelaaaGreatDoor
open Go.RowKit Plain Tryz
variable {B cp g n:Nat}{a:Option Addr}{l:List Rd}{u w:World}
def PutS(w u:World)(V:Nat)(a:Option Addr)(cp:Nat)(l:List Rd)(A B C E:Int):Prop:=Box4 u V A B C E∧OwnL w.heap.size (.slice a l.length cp) l u∧Bw w u∧Rds u a l
theorem PutS.later{u':World}{V:Nat}{A B C E:Int}(h:PutS w u V a cp l A B C E)(hb:Bw u u'):PutS w u' V a cp l A B C E:=
 ⟨h.1.later hb,h.2.1.later hb,h.2.2.1.trans (hb.mono h.2.2.1.size),h.2.2.2.later hb⟩
theorem ahead_snoc{L:List Rd}{r:Rd}(h:∀i,i<n→rlt (rat L i) r=true)(h2:rlt (rat L n) r=true):∀i,i<n+1→rlt (rat L i) r=true:=fun i hi=>by
 rcases Nat.lt_or_ge i n with h'|h'
 · exact h i h'
 · rw[show i=n by omega];exact h2
theorem Rds.q4{k:Nat}(h:Rds w (some (Ad g 0)) l)(hk:k<l.length):Q4 w g (k*4) (rat l k):=by
 obtain⟨g',e,hq⟩:=h.at hk;simp only[Option.some.injEq,Addr.mk.injEq,and_true] at e;subst e;exact hq
theorem OwnL.shape(h:OwnL B (.slice (some (Ad g 0)) l.length cp) l u):l.length≤cp∧B≤g∧∃cur,u.heap[g]?=some (.cells cur 161 (0,0)):=by
 rcases h.1.2 with⟨h',_⟩|⟨g',cap,cur,e,h1,h2,h3,_⟩
 · simp at h'
 · simp only[Value.slice.injEq,Option.some.injEq,Addr.mk.injEq,and_true,true_and] at e;obtain⟨rfl,rfl⟩:=e;exact⟨h3,h1,cur,h2⟩
theorem OwnL.cap_le(h:OwnL B (.slice (some (Ad g 0)) l.length cp) l u):l.length≤cp:=h.shape.1
theorem OwnL.base(h:OwnL B (.slice (some (Ad g 0)) l.length cp) l u):B≤g:=h.shape.2.1
theorem OwnL.thaw(h:OwnL B (.slice (some (Ad g 0)) l.length cp) l u)(_hn:n<l.length):u.frozen? (Ad g (n*4))=false∧u.frozen? (Ad g (n*4+1))=false∧u.frozen? (Ad g (n*4+2))=false∧u.frozen? (Ad g (n*4+3))=false:=by
 obtain⟨_,_,cur,hb⟩:=h.shape
 refine⟨?_,?_,?_,?_⟩<;>simp[World.frozen?,hb]
theorem Nh{v:World}(h:Bw w u)(k:Bw u v):Bw w v:=h.trans (k.mono h.size)
theorem below_set4'{w0:World}(hb:Below B w0 w)(h:B≤g)(o0 o1 o2 o3:Nat)(p q r s:Value):
 Below B w0 ((((w.setCell (Ad g o0) p).setCell (Ad g o1) q).setCell (Ad g o2) r).setCell (Ad g o3) s):=
 (((hb.setCell h _).setCell h _).setCell h _).setCell h _
theorem nil_slice(h:OwnL B (.slice a 0 cp) [] u):a=none∧cp=0:=by
 have:=h.2.2 rfl
 simpa using this
theorem some_slice(h:OwnL B (.slice a l.length cp) l u)(hl:0<l.length):∃g,a=some (Ad g 0):=by
 rcases h.1.2 with⟨_,h0⟩|⟨g',cap,cur,e,_⟩
 · omega
 · simp only[Value.slice.injEq] at e;exact⟨g',e.1⟩
theorem gathered_any(a:Option Addr)(cap:Nat)(ws:List Int)(hl:ws.length≤64)(w:World)(hw:Wds w a ws):
 Calls prog 47 #[.slice a ws.length cap] w fun e w'=>(∃v,e=.returned (.tuple #[v,Vi (bads rdOf ws)])∧OwnL w.heap.size v (gat rdOf ws) w')∧Bw w w':=by
 have HW:=Za hw;clear hw;obtain⟨i0,hi,hz0,hz1,hz2⟩:=info_parts rd_info
 go_enter func47,ntmps47
 go_wp2
 go_loopw [4,5,6] (fun p v i wr=>∃k:Nat,k≤ws.length∧p=Vi (bads rdOf (ws.take k))∧i=Vi k∧OwnL w.heap.size v (gat rdOf (ws.take k)) wr∧Bw w wr) (fun _ _ i _=>ws.length-(intOf i).toNat)
 case atStart=>exact⟨0,Nat.zero_le _,rfl,rfl,⟨⟨rfl,.inl ⟨rfl,rfl⟩⟩,by simp[gat]⟩,Below.refl _ _⟩
 case round=>
  obtain⟨k,hk,rfl,rfl,hown,hb⟩:=hrel;have hb64:bads rdOf (ws.take k)≤64:=Nat.le_trans (bads_le rdOf (ws.take k)) (Nat.le_trans (List.length_take_le k ws) (by omega));have HO:=Za hown;have HB:=Za hb
  by_cases hlt:k<ws.length
  · obtain⟨b,off,rfl,hcell,hx0,hx1⟩:=(HW.out.later hb).at hlt;have hsn:Hid (ws.take (k+1)=ws.take k++[at0 ws k]):=Zhv ws 0 k hlt;have hod:=odd_any _ hx0 hx1;clear hown hb
    by_cases ho:ones (at0 ws k) 32%2=1
    · rw[decide_eq_true ho] at hod;have hu:=readingOf_any _ hx0 hx1;have HR:=Za (rdOf_yes ho);have Hh:Hid ((bads rdOf (ws.take (k+1)):Int)=(bads rdOf (ws.take k):Int)):=Za (by rw[hsn.out,Ni,HR.out];simp);have HG:Hid (gat rdOf (ws.take (k+1))=ins (labI (at0 ws k),srcI (at0 ws k),staI (at0 ws k),datI (at0 ws k)) (gat rdOf (ws.take k))):=Za (by rw[hsn.out,Wm,HR.out])
      unfold readV at hu
      generalize labI (at0 ws k)=A at *;generalize srcI (at0 ws k)=B at *;generalize staI (at0 ws k)=C at *;generalize datI (at0 ws k)=E at *;generalize at0 ws k=x at *;clear ho;obtain⟨L,hL⟩:∃L,L=gat rdOf (ws.take k):=⟨_,rfl⟩;rw[←hL] at HO HG
      have hll:L.length≤64:=by rw[hL];exact Nat.le_trans (Uw rdOf _) (Nat.le_trans (List.length_take_le k ws) (by omega))
      clear hL;obtain⟨aa,cp,rfl,hrds⟩:=HO.out.rds;have Hj:=Za hrds;clear hrds
      go_wp2_with (first
       |(go_at_call 90;refine(hod _).mono ?_;rintro e w' ⟨rfl,rfl⟩)
       |(go_at_call 91;refine Sb (hu _) fun w1 hb1=>?_))
      have HS:Hid (PutS w (w1.alloc (.cells #[Vi A,Vi B,Vi C,Vi E] 161)) w1.heap.size aa cp L A B C E):=
       Za ⟨Box4.new w1 A B C E 161,(HO.out.later hb1).later (Zb _ _),Zc (Zc HB.out hb1) (Zb _ _),(Hj.out.later hb1).later (Zb _ _)⟩
      generalize w1.alloc (.cells #[Vi A,Vi B,Vi C,Vi E] 161)=w2 at *;generalize w1.heap.size=V at *;clear hb1 HO Hj HB hcell hod hu HR hsn
      go_loopw [8] (fun j u=>∃n:Nat,n≤L.length∧j=Vi n∧Hid (∀i,i<n→rlt (rat L i) (A,B,C,E)=true)∧PutS w u V aa cp L A B C E) (fun j _=>L.length-(intOf j).toNat)
      case atStart=>exact⟨0,Nat.zero_le _,rfl,Za (fun i hi=>absurd hi (by omega)),HS.out⟩
      case round=>
       obtain⟨n,hn,rfl,HA,hS⟩:=hrel;rename World=>wi;have HS:=Za hS;clear hS;obtain⟨q0,q1,q2,q3,f0,f1,f2,f3,_⟩:=HS.out.1
       by_cases hnl:n<L.length
       · obtain⟨g,rfl⟩:=some_slice HS.out.2.1 (by omega);obtain⟨c0,c1,c2,c3⟩:=HS.out.2.2.2.q4 hnl
         have hnl':(n:Int)<(L.length:Int):=by omega
         by_cases h1:(rat L n).1<A
         · have HV:=Za (ahead_snoc HA.out (by rw[X2];exact .inl h1));generalize (rat L n).1=r1 at *;generalize (rat L n).2.1=r2 at *;clear HA;go_wp2_with fail;go_quiet (fail);go_wp2;go_roundw
           case rel=>exact⟨n+1,by omega,by go_num,HV,HS.out.later (below_drewN (Below.refl _ _) _)⟩
           case measure=>simp[intOf];omega
         · have d1:decide ((rat L n).1<A)=false:=decide_eq_false h1
           by_cases h2:(rat L n).1=A
           · have e1:((rat L n).1==A)=true:=by simpa using h2
             by_cases h3:(rat L n).2.1<B
             · have HV:=Za (ahead_snoc HA.out (by rw[X2];exact .inr ⟨h2,h3⟩));clear h1 h2;generalize (rat L n).1=r1 at *;generalize (rat L n).2.1=r2 at *;clear HA;go_wp2_with fail;go_quiet (fail);go_wp2;go_roundw
               case rel=>exact⟨n+1,by omega,by go_num,HV,HS.out.later (below_drewN (Below.refl _ _) _)⟩
               case measure=>simp[intOf];omega
             · have d2:decide ((rat L n).2.1<B)=false:=decide_eq_false h3;have Hb:=Za (pos_is (A,B,C,E) L n hn HA.out (.inr (by rw[rlt_no];intro h;rcases h with h|h;exact h1 h;exact h3 h.2)))
               by_cases h4:(rat L n).2.1=B
               · have e2:((rat L n).2.1==B)=true:=by simpa using h4
                 have HQ:Hid (req (rat L n) (A,B,C,E)=true):=Za (by rw[req_iff];exact⟨h2,h4⟩);clear h1 h2 h3 h4;go_wp2_with fail;go_quiet (fail);rename Nat=>nq;have HS:=Za (HS.out.later (below_drewN (Below.refl _ wi) nq));generalize wi.drewN nq=wj at *;clear nq;obtain⟨q0,q1,q2,q3,f0,f1,f2,f3,_⟩:=HS.out.1;obtain⟨c0,c1,c2,c3⟩:=HS.out.2.2.2.q4 hnl;go_wp2_with fail;go_quiet (fail);rename Nat=>nq;have HS:=Za (HS.out.later (below_drewN (Below.refl _ wj) nq));generalize wj.drewN nq=wz at *;clear nq;obtain⟨q0,q1,q2,q3,f0,f1,f2,f3,_⟩:=HS.out.1;have Ha:=Za (ins_set (A,B,C,E) L (by rw[Hb.out];exact hnl) (by rw[Hb.out];exact HQ.out));rw[Hb.out] at Ha;obtain⟨z0,z1,z2,z3⟩:=HS.out.2.1.thaw hnl;obtain⟨c0,c1,c2,c3⟩:=HS.out.2.2.2.q4 hnl;clear HA Hb HQ;go_wp2;go_roundw
                 case rel=>
                  refine⟨k+1,by omega,by rw[Hh.out],by go_num,?_,?_⟩
                  · rw[HG.out,Ha.out];have h:=HS.out.2.1.set (r1:=A) (r2:=B) (r3:=C) (r4:=E) hnl;exact h
                  · exact below_set4' HS.out.2.2.1 HS.out.2.1.base _ _ _ _ _ _ _ _
                 case measure=>simp[intOf];omega
               · have e2:((rat L n).2.1==B)=false:=by simpa using h4
                 have HQ:Hid (pos (A,B,C,E) L=L.length∨req (rat L (pos (A,B,C,E) L)) (A,B,C,E)=false):=Za (.inr (by rw[Hb.out,req_no];exact fun h=>h4 h.2));clear h1 h2 h3 h4;go_wp2_with fail;go_quiet (fail);rename Nat=>nq;have HS:=Za (HS.out.later (below_drewN (Below.refl _ wi) nq));generalize wi.drewN nq=wj at *;clear nq;obtain⟨q0,q1,q2,q3,f0,f1,f2,f3,_⟩:=HS.out.1;obtain⟨c0,c1,c2,c3⟩:=HS.out.2.2.2.q4 hnl;go_wp2_with fail;go_quiet (fail);rename Nat=>nq;have HS:=Za (HS.out.later (below_drewN (Below.refl _ wj) nq));generalize wj.drewN nq=wz at *;clear nq;obtain⟨q0,q1,q2,q3,f0,f1,f2,f3,_⟩:=HS.out.1;have Ha:=Za (ins_put (A,B,C,E) L HQ.out);rw[Hb.out] at Ha;have hcp:=HS.out.2.1.cap_le;have Hg:=Za (fun u (hb:Bw wz u) m1 m2 hm=>rds_cells (w:=u) (g:=g) (l:=L) (n:=m1) (m:=m2) (fun j hj=>(HS.out.2.2.2.q4 hj).later hb) hm);clear HA Hb HQ
                 have hcp':(n:Int)≤(cp:Int):=by omega
                 go_wp2_with (first
                  |(at_builtin;refine wpList_append_own _ rfl _ _ 118 rfl wz.heap.size 161 i0 (.agg #[.int .i64 0,.int .i64 0,.int .i64 0,.int .i64 0]) 4 32 Y0 hi hz0 hz1 hz2 rfl (by decide) _ _ _ rfl Hc.out ⟨g,n*4,none⟩ (L.length-n) (cp-n) (encL ((L.drop n).take (L.length-n))) rfl (by rw[Xf];first|(simp;done)|(simp;omega)) (Hg.out w4 OL2.out n (L.length-n) (by omega)) (Uv _) (by unfold maxLen;omega) (by omega) OL2.out.size ?_;intro v3 w5 ho3 hg3 hn3;have OL3:=Za (OL2.out.grown hg3 OL2.out.size (fun k e=>(Hc.out.lt k e).1));have Hd:=Za ho3;have Hi:=Za hn3;clear hg3 hn3 ho3)
                  |(at_builtin;refine wpList_append_own _ rfl _ _ 118 rfl wz.heap.size 161 i0 (.agg #[.int .i64 0,.int .i64 0,.int .i64 0,.int .i64 0]) 4 32 Y0 hi hz0 hz1 hz2 rfl (by decide) _ _ _ rfl (Hf.out.alloc _) ⟨w3.heap.size,0,none⟩ 1 1 (encR (A,B,C,E)) rfl rfl (Wn _ (A,B,C,E)) (X3 _) (by unfold maxLen;omega) (by omega) (by have:=OL1.out.size;simp;omega) ?_;intro v2 w4 ho2 hg2 hn2;have OL2:=Za ((OL1.out.alloc OL1.out.size (.cells #[.int .i64 A,.int .i64 B,.int .i64 C,.int .i64 E] 161)).grown hg2 (by have:=OL1.out.size;simp;omega) (fun k e=>(Hf.out.lt k e).1));have Hc:=Za ho2;clear hg2 hn2 ho2)
                  |(at_builtin;refine wpList_append_own _ rfl _ _ 118 rfl wz.heap.size 161 i0 (.agg #[.int .i64 0,.int .i64 0,.int .i64 0,.int .i64 0]) 4 32 Y0 hi hz0 hz1 hz2 rfl (by decide) _ _ _ rfl (nil_own _ _) ⟨g,0,none⟩ n cp (encL ((L.drop 0).take n)) rfl (by rw[Xf];first|(simp;done)|(simp;omega)) (Hg.out wz (Below.refl _ _) 0 n (by omega)) (Uv _) (by unfold maxLen;omega) (by omega) (Nat.le_refl _) ?_;intro v1 w3 ho1 hg1 hn1;have hg1':wz.grownBy w3 none:=hg1;have OL1:=Za ((Below.refl wz.heap.size wz).grown hg1' (Nat.le_refl _) (fun k e=>by cases e));have Hf:=Za ho1;obtain⟨p0,p1,p2,p3,_⟩:=(HS.out.1.later OL1.out);clear hg1 hg1' hn1 ho1))
                 go_roundw
                 case rel=>
                  refine⟨k+1,by omega,by rw[Hh.out],by go_num,⟨?_,?_⟩,Nh (HS.out.2.2.1) OL3.out⟩
                  · rw[HG.out,Ha.out];have h:=ownsRow_base_a Hd.out HS.out.2.2.1.size;simp only[List.drop_zero,Ziq,List.nil_append] at h
                    have e1:encL (L.take n++(A,B,C,E)::L.drop n)=encL (L.take n)++encR (A,B,C,E)++encL (L.drop n):=by simp[encL]
                    have e2:(L.take n++(A,B,C,E)::L.drop n).length=0+n+1+(L.length-n):=by simp;omega
                    rw[e1,e2];exact h
                  · rw[HG.out,Ha.out]
                    constructor
                    · intro h
                      rcases Hd.out.2 with⟨_,h0⟩|⟨_,_,_,h1,_⟩
                      · omega
                      · rw[h1] at h;simp at h
                    · intro h;simp at h
                 case measure=>simp[intOf];omega
           · have e1:((rat L n).1==A)=false:=by simpa using h2
             have Hb:=Za (pos_is (A,B,C,E) L n hn HA.out (.inr (by rw[rlt_no];intro h;rcases h with h|h;exact h1 h;exact h2 h.1)));have HQ:Hid (pos (A,B,C,E) L=L.length∨req (rat L (pos (A,B,C,E) L)) (A,B,C,E)=false):=Za (.inr (by rw[Hb.out,req_no];exact fun h=>h2 h.1));clear h1 h2;go_wp2_with fail;go_quiet (fail);rename Nat=>nq;have HS:=Za (HS.out.later (below_drewN (Below.refl _ wi) nq));generalize wi.drewN nq=wj at *;clear nq;obtain⟨q0,q1,q2,q3,f0,f1,f2,f3,_⟩:=HS.out.1;obtain⟨c0,c1,c2,c3⟩:=HS.out.2.2.2.q4 hnl;go_wp2_with fail;go_quiet (fail);rename Nat=>nq;have HS:=Za (HS.out.later (below_drewN (Below.refl _ wj) nq));generalize wj.drewN nq=wz at *;clear nq;obtain⟨q0,q1,q2,q3,f0,f1,f2,f3,_⟩:=HS.out.1;have Ha:=Za (ins_put (A,B,C,E) L HQ.out);rw[Hb.out] at Ha;have hcp:=HS.out.2.1.cap_le;have Hg:=Za (fun u (hb:Bw wz u) m1 m2 hm=>rds_cells (w:=u) (g:=g) (l:=L) (n:=m1) (m:=m2) (fun j hj=>(HS.out.2.2.2.q4 hj).later hb) hm);clear HA Hb HQ
             have hcp':(n:Int)≤(cp:Int):=by omega
             go_wp2_with (first
              |(at_builtin;refine wpList_append_own _ rfl _ _ 118 rfl wz.heap.size 161 i0 (.agg #[.int .i64 0,.int .i64 0,.int .i64 0,.int .i64 0]) 4 32 Y0 hi hz0 hz1 hz2 rfl (by decide) _ _ _ rfl Hc.out ⟨g,n*4,none⟩ (L.length-n) (cp-n) (encL ((L.drop n).take (L.length-n))) rfl (by rw[Xf];first|(simp;done)|(simp;omega)) (Hg.out w4 OL2.out n (L.length-n) (by omega)) (Uv _) (by unfold maxLen;omega) (by omega) OL2.out.size ?_;intro v3 w5 ho3 hg3 hn3;have OL3:=Za (OL2.out.grown hg3 OL2.out.size (fun k e=>(Hc.out.lt k e).1));have Hd:=Za ho3;have Hi:=Za hn3;clear hg3 hn3 ho3)
              |(at_builtin;refine wpList_append_own _ rfl _ _ 118 rfl wz.heap.size 161 i0 (.agg #[.int .i64 0,.int .i64 0,.int .i64 0,.int .i64 0]) 4 32 Y0 hi hz0 hz1 hz2 rfl (by decide) _ _ _ rfl (Hf.out.alloc _) ⟨w3.heap.size,0,none⟩ 1 1 (encR (A,B,C,E)) rfl rfl (Wn _ (A,B,C,E)) (X3 _) (by unfold maxLen;omega) (by omega) (by have:=OL1.out.size;simp;omega) ?_;intro v2 w4 ho2 hg2 hn2;have OL2:=Za ((OL1.out.alloc OL1.out.size (.cells #[.int .i64 A,.int .i64 B,.int .i64 C,.int .i64 E] 161)).grown hg2 (by have:=OL1.out.size;simp;omega) (fun k e=>(Hf.out.lt k e).1));have Hc:=Za ho2;clear hg2 hn2 ho2)
              |(at_builtin;refine wpList_append_own _ rfl _ _ 118 rfl wz.heap.size 161 i0 (.agg #[.int .i64 0,.int .i64 0,.int .i64 0,.int .i64 0]) 4 32 Y0 hi hz0 hz1 hz2 rfl (by decide) _ _ _ rfl (nil_own _ _) ⟨g,0,none⟩ n cp (encL ((L.drop 0).take n)) rfl (by rw[Xf];first|(simp;done)|(simp;omega)) (Hg.out wz (Below.refl _ _) 0 n (by omega)) (Uv _) (by unfold maxLen;omega) (by omega) (Nat.le_refl _) ?_;intro v1 w3 ho1 hg1 hn1;have hg1':wz.grownBy w3 none:=hg1;have OL1:=Za ((Below.refl wz.heap.size wz).grown hg1' (Nat.le_refl _) (fun k e=>by cases e));have Hf:=Za ho1;obtain⟨p0,p1,p2,p3,_⟩:=(HS.out.1.later OL1.out);clear hg1 hg1' hn1 ho1))
             go_roundw
             case rel=>
              refine⟨k+1,by omega,by rw[Hh.out],by go_num,⟨?_,?_⟩,Nh (HS.out.2.2.1) OL3.out⟩
              · rw[HG.out,Ha.out];have h:=ownsRow_base_a Hd.out HS.out.2.2.1.size;simp only[List.drop_zero,Ziq,List.nil_append] at h
                have e1:encL (L.take n++(A,B,C,E)::L.drop n)=encL (L.take n)++encR (A,B,C,E)++encL (L.drop n):=by simp[encL]
                have e2:(L.take n++(A,B,C,E)::L.drop n).length=0+n+1+(L.length-n):=by simp;omega
                rw[e1,e2];exact h
              · rw[HG.out,Ha.out]
                constructor
                · intro h
                  rcases Hd.out.2 with⟨_,h0⟩|⟨_,_,_,h1,_⟩
                  · omega
                  · rw[h1] at h;simp at h
                · intro h;simp at h
             case measure=>simp[intOf];omega
       · obtain rfl:n=L.length:=by omega
         have Hb:=Za (pos_is (A,B,C,E) L L.length hn HA.out (.inl rfl));have HQ:Hid (pos (A,B,C,E) L=L.length∨req (rat L (pos (A,B,C,E) L)) (A,B,C,E)=false):=Za (.inl Hb.out);clear hnl
         by_cases hz:L=[]
         · subst hz;obtain⟨rfl,rfl⟩:=nil_slice HS.out.2.1;simp only[List.length_nil] at *;go_wp2_with fail;go_quiet (fail);rename Nat=>nq;have HS:=Za (HS.out.later (below_drewN (Below.refl _ wi) nq));generalize wi.drewN nq=wj at *;clear nq;obtain⟨q0,q1,q2,q3,f0,f1,f2,f3,_⟩:=HS.out.1;go_wp2_with fail;go_quiet (fail);rename Nat=>nq;have HS:=Za (HS.out.later (below_drewN (Below.refl _ wj) nq));generalize wj.drewN nq=wz at *;clear nq;obtain⟨q0,q1,q2,q3,f0,f1,f2,f3,_⟩:=HS.out.1;clear HA Hb HQ;have TK1:Hid True:=trivial
           go_wp2_with (first
            |(at_builtin;refine wpList_append_own_none rfl _ _ 118 rfl wz.heap.size 161 i0 4 Y0 hi _ _ _ rfl Hc.out rfl ?_)
            |(clear TK1;(at_builtin;refine wpList_append_own_none rfl _ _ 118 rfl wz.heap.size 161 i0 4 Y0 hi _ _ _ rfl (nil_own _ _) rfl ?_))
            |(at_builtin;refine wpList_append_own _ rfl _ _ 118 rfl wz.heap.size 161 i0 (.agg #[.int .i64 0,.int .i64 0,.int .i64 0,.int .i64 0]) 4 32 Y0 hi hz0 hz1 hz2 rfl (by decide) _ _ _ rfl ((nil_own wz.heap.size wz).alloc _) ⟨wz.heap.size,0,none⟩ 1 1 (encR (A,B,C,E)) rfl rfl (Wn _ (A,B,C,E)) (X3 _) (by unfold maxLen;omega) (by omega) (by simp) ?_;intro v2 w4 ho2 hg2 hn2;have hg2':(wz.alloc (.cells #[.int .i64 A,.int .i64 B,.int .i64 C,.int .i64 E] 161)).grownBy w4 none:=hg2;have OL2:=Za (((Below.refl wz.heap.size wz).alloc (Nat.le_refl _) (.cells #[.int .i64 A,.int .i64 B,.int .i64 C,.int .i64 E] 161)).grown hg2' (by simp) (fun k e=>by cases e));have Hc:=Za ho2;clear hg2 hg2' hn2 ho2))
           go_roundw
           case rel=>
            refine⟨k+1,by omega,by rw[Hh.out],by go_num,⟨?_,?_⟩,Nh (HS.out.2.2.1) OL2.out⟩
            · rw[HG.out];have h:=ownsRow_base_a Hc.out HS.out.2.2.1.size;simp only[List.nil_append] at h
              have e1:encL (ins (A,B,C,E) [])=encR (A,B,C,E):=by simp[encL,ins]
              rw[e1];exact h
            · rw[HG.out]
              constructor
              · intro h
                rcases Hc.out.2 with⟨_,h0⟩|⟨_,_,_,h1,_⟩
                · omega
                · rw[h1] at h;simp at h
              · intro h;simp[ins] at h
           case measure=>simp[intOf];omega
         · obtain⟨g,rfl⟩:=some_slice HS.out.2.1 (List.length_pos_iff.2 hz);go_wp2_with fail;go_quiet (fail);rename Nat=>nq;have HS:=Za (HS.out.later (below_drewN (Below.refl _ wi) nq));generalize wi.drewN nq=wj at *;clear nq;obtain⟨q0,q1,q2,q3,f0,f1,f2,f3,_⟩:=HS.out.1;go_wp2_with fail;go_quiet (fail);rename Nat=>nq;have HS:=Za (HS.out.later (below_drewN (Below.refl _ wj) nq));generalize wj.drewN nq=wz at *;clear nq;obtain⟨q0,q1,q2,q3,f0,f1,f2,f3,_⟩:=HS.out.1;have Ha:=Za (ins_put (A,B,C,E) L HQ.out);rw[Hb.out] at Ha;have hcp:=HS.out.2.1.cap_le;have Hg:=Za (fun u (hb:Bw wz u) m1 m2 hm=>rds_cells (w:=u) (g:=g) (l:=L) (n:=m1) (m:=m2) (fun j hj=>(HS.out.2.2.2.q4 hj).later hb) hm);clear HA Hb HQ
           by_cases hce:cp=L.length
           · subst hce
             go_wp2_with (first
              |(at_builtin;refine wpList_append_own _ rfl _ _ 118 rfl wz.heap.size 161 i0 (.agg #[.int .i64 0,.int .i64 0,.int .i64 0,.int .i64 0]) 4 32 Y0 hi hz0 hz1 hz2 rfl (by decide) _ _ _ rfl Hc.out ⟨g,0,none⟩ 0 0 [] rfl rfl (fun j u h=>by simp at h) (fun u h=>by cases h) (by unfold maxLen;omega) (by omega) OL2.out.size ?_;intro v3 w5 ho3 hg3 hn3;have OL3:=Za (OL2.out.grown hg3 OL2.out.size (fun k e=>(Hc.out.lt k e).1));have Hd:=Za ho3;have Hi:=Za hn3;clear hg3 hn3 ho3)
              |(at_builtin;refine wpList_append_own _ rfl _ _ 118 rfl wz.heap.size 161 i0 (.agg #[.int .i64 0,.int .i64 0,.int .i64 0,.int .i64 0]) 4 32 Y0 hi hz0 hz1 hz2 rfl (by decide) _ _ _ rfl (Hf.out.alloc _) ⟨w3.heap.size,0,none⟩ 1 1 (encR (A,B,C,E)) rfl rfl (Wn _ (A,B,C,E)) (X3 _) (by unfold maxLen;omega) (by omega) (by have:=OL1.out.size;simp;omega) ?_;intro v2 w4 ho2 hg2 hn2;have OL2:=Za ((OL1.out.alloc OL1.out.size (.cells #[.int .i64 A,.int .i64 B,.int .i64 C,.int .i64 E] 161)).grown hg2 (by have:=OL1.out.size;simp;omega) (fun k e=>(Hf.out.lt k e).1));have Hc:=Za ho2;clear hg2 hn2 ho2)
              |(at_builtin;refine wpList_append_own _ rfl _ _ 118 rfl wz.heap.size 161 i0 (.agg #[.int .i64 0,.int .i64 0,.int .i64 0,.int .i64 0]) 4 32 Y0 hi hz0 hz1 hz2 rfl (by decide) _ _ _ rfl (nil_own _ _) ⟨g,0,none⟩ L.length L.length (encL ((L.drop 0).take L.length)) rfl (by rw[Xf];first|(simp;done)|(simp;omega)) (Hg.out wz (Below.refl _ _) 0 L.length (by omega)) (Uv _) (by unfold maxLen;omega) (by omega) (Nat.le_refl _) ?_;intro v1 w3 ho1 hg1 hn1;have hg1':wz.grownBy w3 none:=hg1;have OL1:=Za ((Below.refl wz.heap.size wz).grown hg1' (Nat.le_refl _) (fun k e=>by cases e));have Hf:=Za ho1;obtain⟨p0,p1,p2,p3,_⟩:=(HS.out.1.later OL1.out);clear hg1 hg1' hn1 ho1))
             go_roundw
             case rel=>
              refine⟨k+1,by omega,by rw[Hh.out],by go_num,⟨?_,?_⟩,Nh (HS.out.2.2.1) OL3.out⟩
              · rw[HG.out,Ha.out];have h:=ownsRow_base_a Hd.out HS.out.2.2.1.size;simp only[List.drop_zero,List.nil_append,List.append_nil] at h
                have e1:encL (L.take L.length++(A,B,C,E)::L.drop L.length)=encL (L.take L.length)++encR (A,B,C,E):=by simp[encL]
                have e2:(L.take L.length++(A,B,C,E)::L.drop L.length).length=0+L.length+1+0:=by simp
                rw[e1,e2];exact h
              · rw[HG.out,Ha.out]
                constructor
                · intro h
                  rcases Hd.out.2 with⟨_,h0⟩|⟨_,_,_,h1,_⟩
                  · omega
                  · rw[h1] at h;simp at h
                · intro h;simp at h
             case measure=>simp[intOf];omega
           · have hcp':(L.length:Int)<(cp:Int):=by omega
             have hcq:0<cp-L.length:=by omega
             go_wp2_with (first
              |(at_builtin;refine wpList_append_own _ rfl _ _ 118 rfl wz.heap.size 161 i0 (.agg #[.int .i64 0,.int .i64 0,.int .i64 0,.int .i64 0]) 4 32 Y0 hi hz0 hz1 hz2 rfl (by decide) _ _ _ rfl Hc.out ⟨g,L.length*4,none⟩ 0 (cp-L.length) [] rfl rfl (fun j u h=>by simp at h) (fun u h=>by cases h) (by unfold maxLen;omega) (by omega) OL2.out.size ?_;intro v3 w5 ho3 hg3 hn3;have OL3:=Za (OL2.out.grown hg3 OL2.out.size (fun k e=>(Hc.out.lt k e).1));have Hd:=Za ho3;have Hi:=Za hn3;clear hg3 hn3 ho3)
              |(at_builtin;refine wpList_append_own _ rfl _ _ 118 rfl wz.heap.size 161 i0 (.agg #[.int .i64 0,.int .i64 0,.int .i64 0,.int .i64 0]) 4 32 Y0 hi hz0 hz1 hz2 rfl (by decide) _ _ _ rfl (Hf.out.alloc _) ⟨w3.heap.size,0,none⟩ 1 1 (encR (A,B,C,E)) rfl rfl (Wn _ (A,B,C,E)) (X3 _) (by unfold maxLen;omega) (by omega) (by have:=OL1.out.size;simp;omega) ?_;intro v2 w4 ho2 hg2 hn2;have OL2:=Za ((OL1.out.alloc OL1.out.size (.cells #[.int .i64 A,.int .i64 B,.int .i64 C,.int .i64 E] 161)).grown hg2 (by have:=OL1.out.size;simp;omega) (fun k e=>(Hf.out.lt k e).1));have Hc:=Za ho2;clear hg2 hn2 ho2)
              |(at_builtin;refine wpList_append_own _ rfl _ _ 118 rfl wz.heap.size 161 i0 (.agg #[.int .i64 0,.int .i64 0,.int .i64 0,.int .i64 0]) 4 32 Y0 hi hz0 hz1 hz2 rfl (by decide) _ _ _ rfl (nil_own _ _) ⟨g,0,none⟩ L.length cp (encL ((L.drop 0).take L.length)) rfl (by rw[Xf];first|(simp;done)|(simp;omega)) (Hg.out wz (Below.refl _ _) 0 L.length (by omega)) (Uv _) (by unfold maxLen;omega) (by omega) (Nat.le_refl _) ?_;intro v1 w3 ho1 hg1 hn1;have hg1':wz.grownBy w3 none:=hg1;have OL1:=Za ((Below.refl wz.heap.size wz).grown hg1' (Nat.le_refl _) (fun k e=>by cases e));have Hf:=Za ho1;obtain⟨p0,p1,p2,p3,_⟩:=(HS.out.1.later OL1.out);clear hg1 hg1' hn1 ho1))
             go_roundw
             case rel=>
              refine⟨k+1,by omega,by rw[Hh.out],by go_num,⟨?_,?_⟩,Nh (HS.out.2.2.1) OL3.out⟩
              · rw[HG.out,Ha.out];have h:=ownsRow_base_a Hd.out HS.out.2.2.1.size;simp only[List.drop_zero,List.nil_append,List.append_nil] at h
                have e1:encL (L.take L.length++(A,B,C,E)::L.drop L.length)=encL (L.take L.length)++encR (A,B,C,E):=by simp[encL]
                have e2:(L.take L.length++(A,B,C,E)::L.drop L.length).length=0+L.length+1+0:=by simp
                rw[e1,e2];exact h
              · rw[HG.out,Ha.out]
                constructor
                · intro h
                  rcases Hd.out.2 with⟨_,h0⟩|⟨_,_,_,h1,_⟩
                  · omega
                  · rw[h1] at h;simp at h
                · intro h;simp at h
             case measure=>simp[intOf];omega
    · have HR:=Za (rdOf_no ho);rw[decide_eq_false ho] at hod;have HN:Hid ((bads rdOf (ws.take (k+1)):Int)=(bads rdOf (ws.take k):Int)+1):=Za (by rw[hsn.out,Ni,HR.out];simp);generalize at0 ws k=x at *;clear ho;obtain⟨aa,cp,rfl,_⟩:=HO.out.rds
      go_wp2_with (go_at_call 90;refine(hod _).mono ?_;rintro e w' ⟨rfl,rfl⟩);go_roundw
      case rel=>exact⟨k+1,by omega,by rw[HN.out],by go_num,by rw[hsn.out,Wm,HR.out];exact HO.out,HB.out⟩
      case measure=>simp[intOf];omega
  · obtain rfl:k=ws.length:=by omega
    rw[List.take_length] at hown;rw[List.take_length];obtain⟨aa,cp,rfl,_⟩:=hown.rds;have HO:=Za hown;clear hown;go_wp2;go_ret2;exact⟨⟨_,rfl,HO.out⟩,HB.out⟩
end Go.Proofs.YtnfdfiholcelaaaGreatDoor

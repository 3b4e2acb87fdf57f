import Derived.Laws.AppendOwnNone
import Derived.Deep.CutRange
import Derived.BigQuiet
import Derived.Test.YtnfdfiholcelaaaGreatDoorJh00
import Derived.Test.YtnfdfiholcelaaaGreatDoorJh22
import Derived.Test.YtnfdfiholcelaaaGreatDoorJh31
set_option maxRecDepth 100000
set_option maxHeartbeats 20000000
namespace Go.Proofs.YtnfdfiholcelaaaGreatDoor
open Go.RowKit Plain Tryz
def PutS(w u:World)(V:Nat)(a:Option Addr)(cp:Nat)(l:List Rd)(A B C E:Int):Prop:=Box4 u V A B C E∧OwnL w.heap.size (.slice a l.length cp) l u∧Below w.heap.size w u∧Rds u a l
theorem PutS.later{w u u':World}{V cp:Nat}{a:Option Addr}{l:List Rd}{A B C E:Int}(h:PutS w u V a cp l A B C E)(hb:Below u.heap.size u u'):PutS w u' V a cp l A B C E:=
 ⟨h.1.later hb,h.2.1.later hb,h.2.2.1.trans (hb.mono h.2.2.1.size),h.2.2.2.later hb⟩
theorem ahead_snoc{L:List Rd}{n:Nat}{r:Rd}(h:∀i,i<n→rlt (rat L i) r=true)(h2:rlt (rat L n) r=true):∀i,i<n+1→rlt (rat L i) r=true:=fun i hi=>by
 rcases Nat.lt_or_ge i n with h'|h'
 · exact h i h'
 · rw[show i=n by omega];exact h2
theorem Rds.q4{w:World}{g:Nat}{l:List Rd}{k:Nat}(h:Rds w (some (Ad g 0)) l)(hk:k<l.length):Q4 w g (k*4) (rat l k):=by
 obtain⟨g',e,hq⟩:=h.at hk;simp only[Option.some.injEq,Addr.mk.injEq,and_true] at e;subst e;exact hq
theorem OwnL.shape{B cp g:Nat}{l:List Rd}{u:World}(h:OwnL B (.slice (some (Ad g 0)) l.length cp) l u):l.length≤cp∧B≤g∧∃cur,u.heap[g]?=some (.cells cur 161 (0,0)):=by
 rcases h.1.2 with⟨h',_⟩|⟨g',cap,cur,e,h1,h2,h3,_⟩
 · simp at h'
 · simp only[Value.slice.injEq,Option.some.injEq,Addr.mk.injEq,and_true,true_and] at e;obtain⟨rfl,rfl⟩:=e;exact⟨h3,h1,cur,h2⟩
theorem OwnL.cap_le{B cp g:Nat}{l:List Rd}{u:World}(h:OwnL B (.slice (some (Ad g 0)) l.length cp) l u):l.length≤cp:=h.shape.1
theorem OwnL.base{B cp g:Nat}{l:List Rd}{u:World}(h:OwnL B (.slice (some (Ad g 0)) l.length cp) l u):B≤g:=h.shape.2.1
theorem OwnL.thaw{B cp g n:Nat}{l:List Rd}{u:World}(h:OwnL B (.slice (some (Ad g 0)) l.length cp) l u)(_hn:n<l.length):u.frozen? (Ad g (n*4))=false∧u.frozen? (Ad g (n*4+1))=false∧u.frozen? (Ad g (n*4+2))=false∧u.frozen? (Ad g (n*4+3))=false:=by
 obtain⟨_,_,cur,hb⟩:=h.shape
 refine⟨?_,?_,?_,?_⟩<;>simp[World.frozen?,hb]
theorem Zhc{w u v:World}(h:Below w.heap.size w u)(k:Below u.heap.size u v):Below w.heap.size w v:=h.trans (k.mono h.size)
theorem below_set4'{B g:Nat}{w0 w:World}(hb:Below B w0 w)(h:B≤g)(o0 o1 o2 o3:Nat)(p q r s:Value):
 Below B w0 ((((w.setCell (Ad g o0) p).setCell (Ad g o1) q).setCell (Ad g o2) r).setCell (Ad g o3) s):=
 (((hb.setCell h _).setCell h _).setCell h _).setCell h _
theorem nil_slice{B cp:Nat}{a:Option Addr}{u:World}(h:OwnL B (.slice a 0 cp) [] u):a=none∧cp=0:=by
 have:=h.2.2 rfl
 simpa using this
theorem some_slice{B cp:Nat}{a:Option Addr}{l:List Rd}{u:World}(h:OwnL B (.slice a l.length cp) l u)(hl:0<l.length):∃g,a=some (Ad g 0):=by
 rcases h.1.2 with⟨_,h0⟩|⟨g',cap,cur,e,_⟩
 · omega
 · simp only[Value.slice.injEq] at e;exact⟨g',e.1⟩
theorem gathered_any(a:Option Addr)(cap:Nat)(ws:List Int)(hl:ws.length≤64)(w:World)(hw:Wds w a ws):
 Calls prog 47 #[.slice a ws.length cap] w fun e w'=>(∃v,e=.returned (.tuple #[v,Vi (bads rdOf ws)])∧OwnL w.heap.size v (gat rdOf ws) w')∧Below w.heap.size w w':=by
 have HW:=Zab hw;clear hw;obtain⟨i0,hi,hz0,hz1,hz2⟩:=info_parts rd_info
 go_enter func47,ntmps47
 go_wp2
 go_loopw [4,5,6] (fun p v i wr=>∃k:Nat,k≤ws.length∧p=Vi (bads rdOf (ws.take k))∧i=Vi k∧OwnL w.heap.size v (gat rdOf (ws.take k)) wr∧Below w.heap.size w wr) (fun _ _ i _=>ws.length-(intOf i).toNat)
 case atStart=>exact⟨0,Nat.zero_le _,rfl,rfl,⟨⟨rfl,.inl ⟨rfl,rfl⟩⟩,by simp[gat]⟩,Below.refl _ _⟩
 case round=>
  obtain⟨k,hk,rfl,rfl,hown,hb⟩:=hrel;have hb64:bads rdOf (ws.take k)≤64:=Nat.le_trans (bads_le rdOf (ws.take k)) (Nat.le_trans (List.length_take_le k ws) (by omega));have HO:=Zab hown;have HB:=Zab hb
  by_cases hlt:k<ws.length
  · obtain⟨b,off,rfl,hcell,hx0,hx1⟩:=(HW.out.later hb).at hlt;have hsn:Hid (ws.take (k+1)=ws.take k++[at0 ws k]):=Zhs ws 0 k hlt;have hod:=odd_any _ hx0 hx1;clear hown hb
    by_cases ho:ones (at0 ws k) 32%2=1
    · rw[decide_eq_true ho] at hod;have hu:=readingOf_any _ hx0 hx1;have HR:=Zab (rdOf_yes ho);have HBD:Hid ((bads rdOf (ws.take (k+1)):Int)=(bads rdOf (ws.take k):Int)):=Zab (by rw[hsn.out,Zjd,HR.out];simp);have HG:Hid (gat rdOf (ws.take (k+1))=ins (labI (at0 ws k),srcI (at0 ws k),staI (at0 ws k),datI (at0 ws k)) (gat rdOf (ws.take k))):=Zab (by rw[hsn.out,Zga,HR.out])
      unfold readV at hu
      generalize labI (at0 ws k)=A at *;generalize srcI (at0 ws k)=B at *;generalize staI (at0 ws k)=C at *;generalize datI (at0 ws k)=E at *;generalize at0 ws k=x at *;clear ho;obtain⟨L,hL⟩:∃L,L=gat rdOf (ws.take k):=⟨_,rfl⟩;rw[←hL] at HO HG
      have hll:L.length≤64:=by rw[hL];exact Nat.le_trans (Zhm rdOf _) (Nat.le_trans (List.length_take_le k ws) (by omega))
      clear hL;obtain⟨aa,cp,rfl,hrds⟩:=HO.out.rds;have HRD:=Zab hrds;clear hrds
      go_wp2_with (first
       |(go_at_call 90;refine(hod _).mono ?_;rintro e w' ⟨rfl,rfl⟩)
       |(go_at_call 91;refine Sb (hu _) fun w1 hb1=>?_))
      have HS:Hid (PutS w (w1.alloc (.cells #[Vi A,Vi B,Vi C,Vi E] 161)) w1.heap.size aa cp L A B C E):=
       Zab ⟨Box4.new w1 A B C E 161,(HO.out.later hb1).later (Zaa _ _),Zac (Zac HB.out hb1) (Zaa _ _),(HRD.out.later hb1).later (Zaa _ _)⟩
      generalize w1.alloc (.cells #[Vi A,Vi B,Vi C,Vi E] 161)=w2 at *;generalize w1.heap.size=V at *;clear hb1 HO HRD HB hcell hod hu HR hsn
      go_loopw [8] (fun j u=>∃n:Nat,n≤L.length∧j=Vi n∧Hid (∀i,i<n→rlt (rat L i) (A,B,C,E)=true)∧PutS w u V aa cp L A B C E) (fun j _=>L.length-(intOf j).toNat)
      case atStart=>exact⟨0,Nat.zero_le _,rfl,Zab (fun i hi=>absurd hi (by omega)),HS.out⟩
      case round=>
       obtain⟨n,hn,rfl,HA,hS⟩:=hrel;rename World=>wi;have HS:=Zab hS;clear hS;obtain⟨q0,q1,q2,q3,f0,f1,f2,f3,_⟩:=HS.out.1
       by_cases hnl:n<L.length
       · obtain⟨g,rfl⟩:=some_slice HS.out.2.1 (by omega);obtain⟨c0,c1,c2,c3⟩:=HS.out.2.2.2.q4 hnl
         have hnl':(n:Int)<(L.length:Int):=by omega
         by_cases h1:(rat L n).1<A
         · have HV:=Zab (ahead_snoc HA.out (by rw[Zfm];exact .inl h1));generalize (rat L n).1=r1 at *;generalize (rat L n).2.1=r2 at *;clear HA;go_wp2_with fail;go_quiet (fail);go_wp2;go_roundw
           case rel=>exact⟨n+1,by omega,by go_num,HV,HS.out.later (below_drewN (Below.refl _ _) _)⟩
           case measure=>simp[intOf];omega
         · have d1:decide ((rat L n).1<A)=false:=decide_eq_false h1
           by_cases h2:(rat L n).1=A
           · have e1:((rat L n).1==A)=true:=by simpa using h2
             by_cases h3:(rat L n).2.1<B
             · have HV:=Zab (ahead_snoc HA.out (by rw[Zfm];exact .inr ⟨h2,h3⟩));clear h1 h2;generalize (rat L n).1=r1 at *;generalize (rat L n).2.1=r2 at *;clear HA;go_wp2_with fail;go_quiet (fail);go_wp2;go_roundw
               case rel=>exact⟨n+1,by omega,by go_num,HV,HS.out.later (below_drewN (Below.refl _ _) _)⟩
               case measure=>simp[intOf];omega
             · have d2:decide ((rat L n).2.1<B)=false:=decide_eq_false h3;have HPO:=Zab (pos_is (A,B,C,E) L n hn HA.out (.inr (by rw[rlt_no];intro h;rcases h with h|h;exact h1 h;exact h3 h.2)))
               by_cases h4:(rat L n).2.1=B
               · have e2:((rat L n).2.1==B)=true:=by simpa using h4
                 have HQ:Hid (req (rat L n) (A,B,C,E)=true):=Zab (by rw[req_iff];exact⟨h2,h4⟩);clear h1 h2 h3 h4;go_wp2_with fail;go_quiet (fail);rename Nat=>nq;have HS:=Zab (HS.out.later (below_drewN (Below.refl _ wi) nq));generalize wi.drewN nq=wj at *;clear nq;obtain⟨q0,q1,q2,q3,f0,f1,f2,f3,_⟩:=HS.out.1;obtain⟨c0,c1,c2,c3⟩:=HS.out.2.2.2.q4 hnl;go_wp2_with fail;go_quiet (fail);rename Nat=>nq;have HS:=Zab (HS.out.later (below_drewN (Below.refl _ wj) nq));generalize wj.drewN nq=wz at *;clear nq;obtain⟨q0,q1,q2,q3,f0,f1,f2,f3,_⟩:=HS.out.1;have HINS:=Zab (ins_set (A,B,C,E) L (by rw[HPO.out];exact hnl) (by rw[HPO.out];exact HQ.out));rw[HPO.out] at HINS;obtain⟨z0,z1,z2,z3⟩:=HS.out.2.1.thaw hnl;obtain⟨c0,c1,c2,c3⟩:=HS.out.2.2.2.q4 hnl;clear HA HPO HQ;go_wp2;go_roundw
                 case rel=>
                  refine⟨k+1,by omega,by rw[HBD.out],by go_num,?_,?_⟩
                  · rw[HG.out,HINS.out];have h:=HS.out.2.1.set (r1:=A) (r2:=B) (r3:=C) (r4:=E) hnl;exact h
                  · exact below_set4' HS.out.2.2.1 HS.out.2.1.base _ _ _ _ _ _ _ _
                 case measure=>simp[intOf];omega
               · have e2:((rat L n).2.1==B)=false:=by simpa using h4
                 have HQ:Hid (pos (A,B,C,E) L=L.length∨req (rat L (pos (A,B,C,E) L)) (A,B,C,E)=false):=Zab (.inr (by rw[HPO.out,req_no];exact fun h=>h4 h.2));clear h1 h2 h3 h4;go_wp2_with fail;go_quiet (fail);rename Nat=>nq;have HS:=Zab (HS.out.later (below_drewN (Below.refl _ wi) nq));generalize wi.drewN nq=wj at *;clear nq;obtain⟨q0,q1,q2,q3,f0,f1,f2,f3,_⟩:=HS.out.1;obtain⟨c0,c1,c2,c3⟩:=HS.out.2.2.2.q4 hnl;go_wp2_with fail;go_quiet (fail);rename Nat=>nq;have HS:=Zab (HS.out.later (below_drewN (Below.refl _ wj) nq));generalize wj.drewN nq=wz at *;clear nq;obtain⟨q0,q1,q2,q3,f0,f1,f2,f3,_⟩:=HS.out.1;have HINS:=Zab (ins_put (A,B,C,E) L HQ.out);rw[HPO.out] at HINS;have hcp:=HS.out.2.1.cap_le;have HAT:=Zab (fun u (hb:Below wz.heap.size wz u) m1 m2 hm=>rds_cells (w:=u) (g:=g) (l:=L) (n:=m1) (m:=m2) (fun j hj=>(HS.out.2.2.2.q4 hj).later hb) hm);clear HA HPO HQ
                 have hcp':(n:Int)≤(cp:Int):=by omega
                 go_wp2_with (first
                  |(at_builtin;refine wpList_append_own _ rfl _ _ 118 rfl wz.heap.size 161 i0 (.agg #[.int .i64 0,.int .i64 0,.int .i64 0,.int .i64 0]) 4 32 Zbj hi hz0 hz1 hz2 rfl (by decide) _ _ _ rfl HO2.out ⟨g,n*4,none⟩ (L.length-n) (cp-n) (encL ((L.drop n).take (L.length-n))) rfl (by rw[Zbk];first|(simp;done)|(simp;omega)) (HAT.out w4 OL2.out n (L.length-n) (by omega)) (Zho _) (by unfold maxLen;omega) (by omega) OL2.out.size ?_;intro v3 w5 ho3 hg3 hn3;have OL3:=Zab (OL2.out.grown hg3 OL2.out.size (fun k e=>(HO2.out.lt k e).1));have HO3:=Zab ho3;have HN3:=Zab hn3;clear hg3 hn3 ho3)
                  |(at_builtin;refine wpList_append_own _ rfl _ _ 118 rfl wz.heap.size 161 i0 (.agg #[.int .i64 0,.int .i64 0,.int .i64 0,.int .i64 0]) 4 32 Zbj hi hz0 hz1 hz2 rfl (by decide) _ _ _ rfl (HO1.out.alloc _) ⟨w3.heap.size,0,none⟩ 1 1 (encR (A,B,C,E)) rfl rfl (Zcl _ (A,B,C,E)) (Zdt _) (by unfold maxLen;omega) (by omega) (by have:=OL1.out.size;simp;omega) ?_;intro v2 w4 ho2 hg2 hn2;have OL2:=Zab ((OL1.out.alloc OL1.out.size (.cells #[.int .i64 A,.int .i64 B,.int .i64 C,.int .i64 E] 161)).grown hg2 (by have:=OL1.out.size;simp;omega) (fun k e=>(HO1.out.lt k e).1));have HO2:=Zab ho2;clear hg2 hn2 ho2)
                  |(at_builtin;refine wpList_append_own _ rfl _ _ 118 rfl wz.heap.size 161 i0 (.agg #[.int .i64 0,.int .i64 0,.int .i64 0,.int .i64 0]) 4 32 Zbj hi hz0 hz1 hz2 rfl (by decide) _ _ _ rfl (nil_own _ _) ⟨g,0,none⟩ n cp (encL ((L.drop 0).take n)) rfl (by rw[Zbk];first|(simp;done)|(simp;omega)) (HAT.out wz (Below.refl _ _) 0 n (by omega)) (Zho _) (by unfold maxLen;omega) (by omega) (Nat.le_refl _) ?_;intro v1 w3 ho1 hg1 hn1;have hg1':wz.grownBy w3 none:=hg1;have OL1:=Zab ((Below.refl wz.heap.size wz).grown hg1' (Nat.le_refl _) (fun k e=>by cases e));have HO1:=Zab ho1;obtain⟨p0,p1,p2,p3,_⟩:=(HS.out.1.later OL1.out);clear hg1 hg1' hn1 ho1))
                 go_roundw
                 case rel=>
                  refine⟨k+1,by omega,by rw[HBD.out],by go_num,⟨?_,?_⟩,Zhc (HS.out.2.2.1) OL3.out⟩
                  · rw[HG.out,HINS.out];have h:=ownsRow_base_a HO3.out HS.out.2.2.1.size;simp only[List.drop_zero,Zin,List.nil_append] at h
                    have e1:encL (L.take n++(A,B,C,E)::L.drop n)=encL (L.take n)++encR (A,B,C,E)++encL (L.drop n):=by simp[encL]
                    have e2:(L.take n++(A,B,C,E)::L.drop n).length=0+n+1+(L.length-n):=by simp;omega
                    rw[e1,e2];exact h
                  · rw[HG.out,HINS.out]
                    constructor
                    · intro h
                      rcases HO3.out.2 with⟨_,h0⟩|⟨_,_,_,h1,_⟩
                      · omega
                      · rw[h1] at h;simp at h
                    · intro h;simp at h
                 case measure=>simp[intOf];omega
           · have e1:((rat L n).1==A)=false:=by simpa using h2
             have HPO:=Zab (pos_is (A,B,C,E) L n hn HA.out (.inr (by rw[rlt_no];intro h;rcases h with h|h;exact h1 h;exact h2 h.1)));have HQ:Hid (pos (A,B,C,E) L=L.length∨req (rat L (pos (A,B,C,E) L)) (A,B,C,E)=false):=Zab (.inr (by rw[HPO.out,req_no];exact fun h=>h2 h.1));clear h1 h2;go_wp2_with fail;go_quiet (fail);rename Nat=>nq;have HS:=Zab (HS.out.later (below_drewN (Below.refl _ wi) nq));generalize wi.drewN nq=wj at *;clear nq;obtain⟨q0,q1,q2,q3,f0,f1,f2,f3,_⟩:=HS.out.1;obtain⟨c0,c1,c2,c3⟩:=HS.out.2.2.2.q4 hnl;go_wp2_with fail;go_quiet (fail);rename Nat=>nq;have HS:=Zab (HS.out.later (below_drewN (Below.refl _ wj) nq));generalize wj.drewN nq=wz at *;clear nq;obtain⟨q0,q1,q2,q3,f0,f1,f2,f3,_⟩:=HS.out.1;have HINS:=Zab (ins_put (A,B,C,E) L HQ.out);rw[HPO.out] at HINS;have hcp:=HS.out.2.1.cap_le;have HAT:=Zab (fun u (hb:Below wz.heap.size wz u) m1 m2 hm=>rds_cells (w:=u) (g:=g) (l:=L) (n:=m1) (m:=m2) (fun j hj=>(HS.out.2.2.2.q4 hj).later hb) hm);clear HA HPO HQ
             have hcp':(n:Int)≤(cp:Int):=by omega
             go_wp2_with (first
              |(at_builtin;refine wpList_append_own _ rfl _ _ 118 rfl wz.heap.size 161 i0 (.agg #[.int .i64 0,.int .i64 0,.int .i64 0,.int .i64 0]) 4 32 Zbj hi hz0 hz1 hz2 rfl (by decide) _ _ _ rfl HO2.out ⟨g,n*4,none⟩ (L.length-n) (cp-n) (encL ((L.drop n).take (L.length-n))) rfl (by rw[Zbk];first|(simp;done)|(simp;omega)) (HAT.out w4 OL2.out n (L.length-n) (by omega)) (Zho _) (by unfold maxLen;omega) (by omega) OL2.out.size ?_;intro v3 w5 ho3 hg3 hn3;have OL3:=Zab (OL2.out.grown hg3 OL2.out.size (fun k e=>(HO2.out.lt k e).1));have HO3:=Zab ho3;have HN3:=Zab hn3;clear hg3 hn3 ho3)
              |(at_builtin;refine wpList_append_own _ rfl _ _ 118 rfl wz.heap.size 161 i0 (.agg #[.int .i64 0,.int .i64 0,.int .i64 0,.int .i64 0]) 4 32 Zbj hi hz0 hz1 hz2 rfl (by decide) _ _ _ rfl (HO1.out.alloc _) ⟨w3.heap.size,0,none⟩ 1 1 (encR (A,B,C,E)) rfl rfl (Zcl _ (A,B,C,E)) (Zdt _) (by unfold maxLen;omega) (by omega) (by have:=OL1.out.size;simp;omega) ?_;intro v2 w4 ho2 hg2 hn2;have OL2:=Zab ((OL1.out.alloc OL1.out.size (.cells #[.int .i64 A,.int .i64 B,.int .i64 C,.int .i64 E] 161)).grown hg2 (by have:=OL1.out.size;simp;omega) (fun k e=>(HO1.out.lt k e).1));have HO2:=Zab ho2;clear hg2 hn2 ho2)
              |(at_builtin;refine wpList_append_own _ rfl _ _ 118 rfl wz.heap.size 161 i0 (.agg #[.int .i64 0,.int .i64 0,.int .i64 0,.int .i64 0]) 4 32 Zbj hi hz0 hz1 hz2 rfl (by decide) _ _ _ rfl (nil_own _ _) ⟨g,0,none⟩ n cp (encL ((L.drop 0).take n)) rfl (by rw[Zbk];first|(simp;done)|(simp;omega)) (HAT.out wz (Below.refl _ _) 0 n (by omega)) (Zho _) (by unfold maxLen;omega) (by omega) (Nat.le_refl _) ?_;intro v1 w3 ho1 hg1 hn1;have hg1':wz.grownBy w3 none:=hg1;have OL1:=Zab ((Below.refl wz.heap.size wz).grown hg1' (Nat.le_refl _) (fun k e=>by cases e));have HO1:=Zab ho1;obtain⟨p0,p1,p2,p3,_⟩:=(HS.out.1.later OL1.out);clear hg1 hg1' hn1 ho1))
             go_roundw
             case rel=>
              refine⟨k+1,by omega,by rw[HBD.out],by go_num,⟨?_,?_⟩,Zhc (HS.out.2.2.1) OL3.out⟩
              · rw[HG.out,HINS.out];have h:=ownsRow_base_a HO3.out HS.out.2.2.1.size;simp only[List.drop_zero,Zin,List.nil_append] at h
                have e1:encL (L.take n++(A,B,C,E)::L.drop n)=encL (L.take n)++encR (A,B,C,E)++encL (L.drop n):=by simp[encL]
                have e2:(L.take n++(A,B,C,E)::L.drop n).length=0+n+1+(L.length-n):=by simp;omega
                rw[e1,e2];exact h
              · rw[HG.out,HINS.out]
                constructor
                · intro h
                  rcases HO3.out.2 with⟨_,h0⟩|⟨_,_,_,h1,_⟩
                  · omega
                  · rw[h1] at h;simp at h
                · intro h;simp at h
             case measure=>simp[intOf];omega
       · obtain rfl:n=L.length:=by omega
         have HPO:=Zab (pos_is (A,B,C,E) L L.length hn HA.out (.inl rfl));have HQ:Hid (pos (A,B,C,E) L=L.length∨req (rat L (pos (A,B,C,E) L)) (A,B,C,E)=false):=Zab (.inl HPO.out);clear hnl
         by_cases hz:L=[]
         · subst hz;obtain⟨rfl,rfl⟩:=nil_slice HS.out.2.1;simp only[List.length_nil] at *;go_wp2_with fail;go_quiet (fail);rename Nat=>nq;have HS:=Zab (HS.out.later (below_drewN (Below.refl _ wi) nq));generalize wi.drewN nq=wj at *;clear nq;obtain⟨q0,q1,q2,q3,f0,f1,f2,f3,_⟩:=HS.out.1;go_wp2_with fail;go_quiet (fail);rename Nat=>nq;have HS:=Zab (HS.out.later (below_drewN (Below.refl _ wj) nq));generalize wj.drewN nq=wz at *;clear nq;obtain⟨q0,q1,q2,q3,f0,f1,f2,f3,_⟩:=HS.out.1;clear HA HPO HQ;have TK1:Hid True:=trivial
           go_wp2_with (first
            |(at_builtin;refine wpList_append_own_none rfl _ _ 118 rfl wz.heap.size 161 i0 4 Zbj hi _ _ _ rfl HO2.out rfl ?_)
            |(clear TK1;(at_builtin;refine wpList_append_own_none rfl _ _ 118 rfl wz.heap.size 161 i0 4 Zbj hi _ _ _ rfl (nil_own _ _) rfl ?_))
            |(at_builtin;refine wpList_append_own _ rfl _ _ 118 rfl wz.heap.size 161 i0 (.agg #[.int .i64 0,.int .i64 0,.int .i64 0,.int .i64 0]) 4 32 Zbj hi hz0 hz1 hz2 rfl (by decide) _ _ _ rfl ((nil_own wz.heap.size wz).alloc _) ⟨wz.heap.size,0,none⟩ 1 1 (encR (A,B,C,E)) rfl rfl (Zcl _ (A,B,C,E)) (Zdt _) (by unfold maxLen;omega) (by omega) (by simp) ?_;intro v2 w4 ho2 hg2 hn2;have hg2':(wz.alloc (.cells #[.int .i64 A,.int .i64 B,.int .i64 C,.int .i64 E] 161)).grownBy w4 none:=hg2;have OL2:=Zab (((Below.refl wz.heap.size wz).alloc (Nat.le_refl _) (.cells #[.int .i64 A,.int .i64 B,.int .i64 C,.int .i64 E] 161)).grown hg2' (by simp) (fun k e=>by cases e));have HO2:=Zab ho2;clear hg2 hg2' hn2 ho2))
           go_roundw
           case rel=>
            refine⟨k+1,by omega,by rw[HBD.out],by go_num,⟨?_,?_⟩,Zhc (HS.out.2.2.1) OL2.out⟩
            · rw[HG.out];have h:=ownsRow_base_a HO2.out HS.out.2.2.1.size;simp only[List.nil_append] at h
              have e1:encL (ins (A,B,C,E) [])=encR (A,B,C,E):=by simp[encL,ins]
              rw[e1];exact h
            · rw[HG.out]
              constructor
              · intro h
                rcases HO2.out.2 with⟨_,h0⟩|⟨_,_,_,h1,_⟩
                · omega
                · rw[h1] at h;simp at h
              · intro h;simp[ins] at h
           case measure=>simp[intOf];omega
         · obtain⟨g,rfl⟩:=some_slice HS.out.2.1 (List.length_pos_iff.2 hz);go_wp2_with fail;go_quiet (fail);rename Nat=>nq;have HS:=Zab (HS.out.later (below_drewN (Below.refl _ wi) nq));generalize wi.drewN nq=wj at *;clear nq;obtain⟨q0,q1,q2,q3,f0,f1,f2,f3,_⟩:=HS.out.1;go_wp2_with fail;go_quiet (fail);rename Nat=>nq;have HS:=Zab (HS.out.later (below_drewN (Below.refl _ wj) nq));generalize wj.drewN nq=wz at *;clear nq;obtain⟨q0,q1,q2,q3,f0,f1,f2,f3,_⟩:=HS.out.1;have HINS:=Zab (ins_put (A,B,C,E) L HQ.out);rw[HPO.out] at HINS;have hcp:=HS.out.2.1.cap_le;have HAT:=Zab (fun u (hb:Below wz.heap.size wz u) m1 m2 hm=>rds_cells (w:=u) (g:=g) (l:=L) (n:=m1) (m:=m2) (fun j hj=>(HS.out.2.2.2.q4 hj).later hb) hm);clear HA HPO HQ
           by_cases hce:cp=L.length
           · subst hce
             go_wp2_with (first
              |(at_builtin;refine wpList_append_own _ rfl _ _ 118 rfl wz.heap.size 161 i0 (.agg #[.int .i64 0,.int .i64 0,.int .i64 0,.int .i64 0]) 4 32 Zbj hi hz0 hz1 hz2 rfl (by decide) _ _ _ rfl HO2.out ⟨g,0,none⟩ 0 0 [] rfl rfl (fun j u h=>by simp at h) (fun u h=>by cases h) (by unfold maxLen;omega) (by omega) OL2.out.size ?_;intro v3 w5 ho3 hg3 hn3;have OL3:=Zab (OL2.out.grown hg3 OL2.out.size (fun k e=>(HO2.out.lt k e).1));have HO3:=Zab ho3;have HN3:=Zab hn3;clear hg3 hn3 ho3)
              |(at_builtin;refine wpList_append_own _ rfl _ _ 118 rfl wz.heap.size 161 i0 (.agg #[.int .i64 0,.int .i64 0,.int .i64 0,.int .i64 0]) 4 32 Zbj hi hz0 hz1 hz2 rfl (by decide) _ _ _ rfl (HO1.out.alloc _) ⟨w3.heap.size,0,none⟩ 1 1 (encR (A,B,C,E)) rfl rfl (Zcl _ (A,B,C,E)) (Zdt _) (by unfold maxLen;omega) (by omega) (by have:=OL1.out.size;simp;omega) ?_;intro v2 w4 ho2 hg2 hn2;have OL2:=Zab ((OL1.out.alloc OL1.out.size (.cells #[.int .i64 A,.int .i64 B,.int .i64 C,.int .i64 E] 161)).grown hg2 (by have:=OL1.out.size;simp;omega) (fun k e=>(HO1.out.lt k e).1));have HO2:=Zab ho2;clear hg2 hn2 ho2)
              |(at_builtin;refine wpList_append_own _ rfl _ _ 118 rfl wz.heap.size 161 i0 (.agg #[.int .i64 0,.int .i64 0,.int .i64 0,.int .i64 0]) 4 32 Zbj hi hz0 hz1 hz2 rfl (by decide) _ _ _ rfl (nil_own _ _) ⟨g,0,none⟩ L.length L.length (encL ((L.drop 0).take L.length)) rfl (by rw[Zbk];first|(simp;done)|(simp;omega)) (HAT.out wz (Below.refl _ _) 0 L.length (by omega)) (Zho _) (by unfold maxLen;omega) (by omega) (Nat.le_refl _) ?_;intro v1 w3 ho1 hg1 hn1;have hg1':wz.grownBy w3 none:=hg1;have OL1:=Zab ((Below.refl wz.heap.size wz).grown hg1' (Nat.le_refl _) (fun k e=>by cases e));have HO1:=Zab ho1;obtain⟨p0,p1,p2,p3,_⟩:=(HS.out.1.later OL1.out);clear hg1 hg1' hn1 ho1))
             go_roundw
             case rel=>
              refine⟨k+1,by omega,by rw[HBD.out],by go_num,⟨?_,?_⟩,Zhc (HS.out.2.2.1) OL3.out⟩
              · rw[HG.out,HINS.out];have h:=ownsRow_base_a HO3.out HS.out.2.2.1.size;simp only[List.drop_zero,List.nil_append,List.append_nil] at h
                have e1:encL (L.take L.length++(A,B,C,E)::L.drop L.length)=encL (L.take L.length)++encR (A,B,C,E):=by simp[encL]
                have e2:(L.take L.length++(A,B,C,E)::L.drop L.length).length=0+L.length+1+0:=by simp
                rw[e1,e2];exact h
              · rw[HG.out,HINS.out]
                constructor
                · intro h
                  rcases HO3.out.2 with⟨_,h0⟩|⟨_,_,_,h1,_⟩
                  · omega
                  · rw[h1] at h;simp at h
                · intro h;simp at h
             case measure=>simp[intOf];omega
           · have hcp':(L.length:Int)<(cp:Int):=by omega
             have hcq:0<cp-L.length:=by omega
             go_wp2_with (first
              |(at_builtin;refine wpList_append_own _ rfl _ _ 118 rfl wz.heap.size 161 i0 (.agg #[.int .i64 0,.int .i64 0,.int .i64 0,.int .i64 0]) 4 32 Zbj hi hz0 hz1 hz2 rfl (by decide) _ _ _ rfl HO2.out ⟨g,L.length*4,none⟩ 0 (cp-L.length) [] rfl rfl (fun j u h=>by simp at h) (fun u h=>by cases h) (by unfold maxLen;omega) (by omega) OL2.out.size ?_;intro v3 w5 ho3 hg3 hn3;have OL3:=Zab (OL2.out.grown hg3 OL2.out.size (fun k e=>(HO2.out.lt k e).1));have HO3:=Zab ho3;have HN3:=Zab hn3;clear hg3 hn3 ho3)
              |(at_builtin;refine wpList_append_own _ rfl _ _ 118 rfl wz.heap.size 161 i0 (.agg #[.int .i64 0,.int .i64 0,.int .i64 0,.int .i64 0]) 4 32 Zbj hi hz0 hz1 hz2 rfl (by decide) _ _ _ rfl (HO1.out.alloc _) ⟨w3.heap.size,0,none⟩ 1 1 (encR (A,B,C,E)) rfl rfl (Zcl _ (A,B,C,E)) (Zdt _) (by unfold maxLen;omega) (by omega) (by have:=OL1.out.size;simp;omega) ?_;intro v2 w4 ho2 hg2 hn2;have OL2:=Zab ((OL1.out.alloc OL1.out.size (.cells #[.int .i64 A,.int .i64 B,.int .i64 C,.int .i64 E] 161)).grown hg2 (by have:=OL1.out.size;simp;omega) (fun k e=>(HO1.out.lt k e).1));have HO2:=Zab ho2;clear hg2 hn2 ho2)
              |(at_builtin;refine wpList_append_own _ rfl _ _ 118 rfl wz.heap.size 161 i0 (.agg #[.int .i64 0,.int .i64 0,.int .i64 0,.int .i64 0]) 4 32 Zbj hi hz0 hz1 hz2 rfl (by decide) _ _ _ rfl (nil_own _ _) ⟨g,0,none⟩ L.length cp (encL ((L.drop 0).take L.length)) rfl (by rw[Zbk];first|(simp;done)|(simp;omega)) (HAT.out wz (Below.refl _ _) 0 L.length (by omega)) (Zho _) (by unfold maxLen;omega) (by omega) (Nat.le_refl _) ?_;intro v1 w3 ho1 hg1 hn1;have hg1':wz.grownBy w3 none:=hg1;have OL1:=Zab ((Below.refl wz.heap.size wz).grown hg1' (Nat.le_refl _) (fun k e=>by cases e));have HO1:=Zab ho1;obtain⟨p0,p1,p2,p3,_⟩:=(HS.out.1.later OL1.out);clear hg1 hg1' hn1 ho1))
             go_roundw
             case rel=>
              refine⟨k+1,by omega,by rw[HBD.out],by go_num,⟨?_,?_⟩,Zhc (HS.out.2.2.1) OL3.out⟩
              · rw[HG.out,HINS.out];have h:=ownsRow_base_a HO3.out HS.out.2.2.1.size;simp only[List.drop_zero,List.nil_append,List.append_nil] at h
                have e1:encL (L.take L.length++(A,B,C,E)::L.drop L.length)=encL (L.take L.length)++encR (A,B,C,E):=by simp[encL]
                have e2:(L.take L.length++(A,B,C,E)::L.drop L.length).length=0+L.length+1+0:=by simp
                rw[e1,e2];exact h
              · rw[HG.out,HINS.out]
                constructor
                · intro h
                  rcases HO3.out.2 with⟨_,h0⟩|⟨_,_,_,h1,_⟩
                  · omega
                  · rw[h1] at h;simp at h
                · intro h;simp at h
             case measure=>simp[intOf];omega
    · have HR:=Zab (rdOf_no ho);rw[decide_eq_false ho] at hod;have HN:Hid ((bads rdOf (ws.take (k+1)):Int)=(bads rdOf (ws.take k):Int)+1):=Zab (by rw[hsn.out,Zjd,HR.out];simp);generalize at0 ws k=x at *;clear ho;obtain⟨aa,cp,rfl,_⟩:=HO.out.rds
      go_wp2_with (go_at_call 90;refine(hod _).mono ?_;rintro e w' ⟨rfl,rfl⟩);go_roundw
      case rel=>exact⟨k+1,by omega,by rw[HN.out],by go_num,by rw[hsn.out,Zga,HR.out];exact HO.out,HB.out⟩
      case measure=>simp[intOf];omega
  · obtain rfl:k=ws.length:=by omega
    rw[List.take_length] at hown;rw[List.take_length];obtain⟨aa,cp,rfl,_⟩:=hown.rds;have HO:=Zab hown;clear hown;go_wp2;go_ret2;exact⟨⟨_,rfl,HO.out⟩,HB.out⟩
def zBk:Bk:=⟨fun _=>0,fun _=>false,0⟩
def zS(S:FS):FS:=⟨fun _=>zBk,fun _=>none,fun _=>0,fun _=>0,S.hd,S.n⟩
theorem pkU_map(l:List Rd):pkU l l.length=l.map pk1:=by
 have key:∀k,k≤l.length→pkU l k=(l.take k).map pk1:=by
  intro k
  induction k with
  |zero=>intro _;rfl
  |succ k ih=>intro h;rw[pkU,ih (by omega),List.take_add_one,List.map_append,rat_eq (by omega)];simp[show k<l.length by omega]
 rw[key _ (Nat.le_refl _),List.take_length]
def pkR(l:List Rd):List Value:=(l.map pk1).map (Value.int .u32)
theorem pkR_snoc(l:List Rd)(r:Rd):pkR (l++[r])=pkR l++[.int .u32 (pk1 r)]:=by simp[pkR]
theorem infoH6:(prog.info? 39).map (·.size)=some 6:=by kernel_rfl
theorem st_holds(S:FS):((stL S).drop 23).take 6=hdL (S.hd 0)++hdL (S.hd 1):=rfl
theorem buildSt(S:FS)(w:World):(Instr.build 41 #[(3,Vi S.n),(2,.agg (hdL (S.hd 0)++hdL (S.hd 1)).toArray)]).run prog w=.ok (.agg (stL (zS S)).toArray) w:=by kernel_rfl
theorem wpList_buildSt{ops:Array Oper}{rest:List Oper}{op:Oper}{a:Act}{w:World}{Q:Exit→Act→World→Prop}(S:FS)(x y:Operand)(hgd:op.guard=none)(ho:op.op=.build 41 #[(3,x),(2,y)])
 (hx:a.eval x=Vi S.n) (hy:a.eval y=.agg (hdL (S.hd 0)++hdL (S.hd 1)).toArray)
 (h:wpList prog ops Q rest (a.put op.dst (.agg (stL (zS S)).toArray)) w):wpList prog ops Q (op::rest) a w:=
 wpList_plain hgd fun _ hK=>by
  unfold Oper.wp execOp
  simp only[ho,List.map_toArray,List.map_cons,List.map_nil,hx,hy,Sem.run_bind,buildSt,Result.andThen_ok];exact hK _ _ h
theorem st_putServo(S:FS){i:Nat}(hi:i<2)(p:Option Addr)(n c:Nat):(stL S).set (21+i) (.slice p n c)=stL { S with sp:=upd S.sp i p,sn:=upd S.sn i n,sc:=upd S.sc i c }:=by
 rcases(show i=0∨i=1 by omega) with rfl|rfl<;>kernel_rfl
theorem at_put(f:Nat→Int){i:Nat}(hi:i<2)(v:Int):[Vi (f 0),Vi (f 1)].set i (Vi v)=[Vi (upd f i v 0),Vi (upd f i v 1)]:=by
 rcases(show i=0∨i=1 by omega) with rfl|rfl<;>rfl
def bnI(C:CR)(S:FS)(l:List Rd)(i:Nat):Bk:=vbk (S.bk i) (C.a i 8) (C.a i 9) (tS l (1+(i:Int))) (sS l (1+(i:Int)))
def b2I(C:CR)(S:FS)(l:List Rd):Bk:=vbk (S.bk 2) C.c0 C.c1 (tS l 8) (sS l 8)
def bkX(C:CR)(S:FS)(l:List Rd):Nat→Nat→Bk
 |0=>upd (fun _=>zBk) 2 (b2I C S l)
 |i+1=>upd (bkX C S l i) i (bnI C S l i)
def atX(C:CR)(S:FS)(l:List Rd):Nat→Nat→Int
 |0=>fun _=>0
 |i+1=>upd (atX C S l i) i (bnI C S l i).l
def wtU(C:CR)(l:List Rd)(i:Nat)(L:List Sv):Nat→List Sv
 |0=>[]
 |k+1=>wtU C l i L k++[wv C l i k (svAt L k)]
theorem wtU_len(C:CR)(l:List Rd)(i:Nat)(L:List Sv):∀k,(wtU C l i L k).length=k
 |0=>rfl
 |k+1=>by rw[wtU,List.length_append,wtU_len C l i L k];rfl
theorem wtU_wml(C:CR)(l:List Rd)(i:Nat)(L:List Sv):wtU C l i L L.length=wml C l i L L.length:=by
 have key:∀k,wtU C l i L k=(List.range k).map fun j=>wv C l i j (svAt L j):=by
  intro k
  induction k with
  |zero=>rfl
  |succ k ih=>rw[wtU,ih,List.range_succ,List.map_append];rfl
 rw[key]
 unfold wml
 apply List.map_congr_left;intro j hj;rw[if_pos (by simpa using hj)]
def sdU(C:CR)(l:List Rd)(i:Nat)(L:List Sv):Nat→Int
 |0=>0
 |k+1=>if(wv C l i k (svAt L k)).2.2 then sdU C l i L k else sdU C l i L k+1
theorem sdU_snd(C:CR)(l:List Rd)(i:Nat)(L:List Sv):sdU C l i L L.length=sndU (wml C l i L L.length) L.length:=by
 have key:∀k,k≤L.length→sdU C l i L k=sndU (wml C l i L L.length) k:=by
  intro k
  induction k with
  |zero=>intro _;rfl
  |succ k ih=>intro h;rw[sdU,sndU,ih (by omega),wml_get C l i L (by omega)]
 exact key _ (Nat.le_refl _)
theorem sdU_bd(C:CR)(l:List Rd)(i:Nat)(L:List Sv):∀k:Nat,0≤sdU C l i L k∧sdU C l i L k≤k
 |0=>by simp[sdU]
 |k+1=>by have:=sdU_bd C l i L k;simp only[sdU];split<;>omega
def wsU(C:CR)(S:FS)(l:List Rd)(sv:Nat→List Sv):Nat→Int
 |0=>0
 |i+1=>mxL (wsU C S l sv i) (lawI (Zdi (bnI C S l i).o 3) (sdU C l i (sv i) (sv i).length) (C.a i 4))
theorem range3e{u:World}{b o:Nat}{x y z:Value}(h0:u.cell? (Ad b o)=some x)(h1:u.cell? (Ad b (o+1))=some y)(h2:u.cell? (Ad b (o+2))=some z):u.rangeAt b o [x,y,z]:=fun j v hj=>by
 match j with
 |0=>simp at hj;subst hj;exact h0
 |1=>simp at hj;subst hj;exact h1
 |2=>simp at hj;subst hj;exact h2
 |j+3=>simp at hj
theorem upd_id{α:Type}{f:Nat→α}{i:Nat}{v:α}(h:f i=v):upd f i v=f:=by
 funext j
 unfold upd
 split
 · rename_i e;rw[e,h]
 · rfl
theorem at_get(f:Nat→Int){i:Nat}(hi:i<2):[Vi (f 0),Vi (f 1)][i]?=some (Vi (f i)):=by
 rcases(show i=0∨i=1 by omega) with rfl|rfl<;>rfl
theorem Zir(S:FS){i:Nat}(hi:i<2){p:Option Addr}{n c:Nat}(h:S.sp i=p∧S.sn i=n∧S.sc i=c):(stL S)[21+i]?=some (.slice p n c):=by rw[Zdq S hi,h.1,h.2.1,h.2.2]
theorem Zfe{P:Program}{op:Oper}{a:Act}{w:World}{K:Act→World→Prop}{Q:Exit→Act→World→Prop}(ty:TypeId)(x y:Operand)(ho:op.op=.store ty x y)
 (b o:Nat) (cells:List Value) (hx:a.eval x=.pointer (some (Ad b o))) (hy:a.eval y=.agg cells.toArray)
 (ht:w.there b o cells.length) (hi:(P.info? ty).map (·.size)=some cells.length) (h1:cells.all (·.oneCell')=true) (hd:op.dst=none)
 (h:K a (w.setCells b o cells)):op.wp P a w K Q:=
 wp_store_mid ty x y ho b o cells.toArray hx hy (by simpa using ht) (by simpa using hi) (by simpa using h1) (by rw[hd];exact h)
def StX(w:World)(QS oS QA:Nat)(cs ds:List Value)(u:World):Prop:=Below w.heap.size w u∧u.rangeAt QS oS cs∧u.rangeAt QA 0 ds
theorem StX.later{w u u':World}{QS oS QA:Nat}{cs ds:List Value}(hb:Below u.heap.size u u')(h:StX w QS oS QA cs ds u):StX w QS oS QA cs ds u':=⟨Zac h.1 hb,Zae h.2.1 hb,Zae h.2.2 hb⟩
theorem StX.put{w u:World}{QS oS QA X:Nat}{cs ds:List Value}(hX:w.heap.size≤X∧QS≠X∧QA≠X)(vs:List Value)(o:Nat)(h:StX w QS oS QA cs ds u):StX w QS oS QA cs ds (u.setCells X o vs):=
 ⟨Zag vs o u h.1 hX.1,World.rangeAt_setCells_apart h.2.1 X o vs (.inl hX.2.1),World.rangeAt_setCells_apart h.2.2 X o vs (.inl hX.2.2)⟩
theorem StX.grew{w u u':World}{QS oS QA:Nat}{cs ds:List Value}{row:Option Nat}(hg:u.grownBy u' row)(hr:∀k,row=some k→w.heap.size≤k∧QS≠k∧QA≠k)(h:StX w QS oS QA cs ds u):StX w QS oS QA cs ds u':=
 ⟨h.1.grown hg h.1.size (fun k e=>(hr k e).1),fun j v hj=>hg.cell (h.2.1 j v hj) (fun e=>(hr _ e.symm).2.1 rfl),fun j v hj=>hg.cell (h.2.2 j v hj) (fun e=>(hr _ e.symm).2.2 rfl)⟩
theorem MvOK.congr{K:Nat}{wz:World}{C:CR}{S S':FS}{l:List Rd}{sv sv':Nat→List Sv}{i:Nat}(h:MvOK K wz C S l sv i)(h1:S'.hd i=S.hd i)(h2:S'.n=S.n)(h3:sv' i=sv i):MvOK K wz C S' l sv' i:=
 ⟨by rw[h3];exact h.n1,by rw[h3];exact h.n4,h.m0,h.m1,h.mc,h.line,by rw[h3];exact h.ok,h.h4,h.h5,h.h3,h.h7,h.h6,by rw[h1,h2,h3];exact h.ho,by rw[h3];exact h.gm⟩
def hdX(C:CR)(S:FS)(l:List Rd)(sv:Nat→List Sv):Nat→Nat→Int×Int×Int
 |0=>S.hd
 |i+1=>upd (hdX C S l sv i) i (mvH C (sS2 C S l sv) l (vS1 C l sv) i)
def svX(C:CR)(S:FS)(l:List Rd)(sv:Nat→List Sv):Nat→Nat→List Sv
 |0=>vS1 C l sv
 |i+1=>upd (svX C S l sv i) i (mvS C (sS2 C S l sv) l (vS1 C l sv) i)
theorem hdX_at(C:CR)(S:FS)(l:List Rd)(sv:Nat→List Sv){i:Nat}(hi:i<2):hdX C S l sv i i=S.hd i:=by
 rcases(show i=0∨i=1 by omega) with rfl|rfl
 · rfl
 · show upd S.hd 0 _ 1=S.hd 1
   exact Zbb _ _ (by omega)
theorem svX_at(C:CR)(S:FS)(l:List Rd)(sv:Nat→List Sv){i:Nat}(hi:i<2):svX C S l sv i i=vS1 C l sv i:=by
 rcases(show i=0∨i=1 by omega) with rfl|rfl
 · rfl
 · show upd (vS1 C l sv) 0 _ 1=vS1 C l sv 1
   exact Zbb _ _ (by omega)
theorem vS3_at(C:CR)(S:FS)(l:List Rd)(sv:Nat→List Sv){i:Nat}(hi:i<2):vS3 C S l sv i=mvS C (sS2 C S l sv) l (vS1 C l sv) i:=by
 rcases(show i=0∨i=1 by omega) with rfl|rfl
 · show upd (upd _ 0 _) 1 _ 0=_
   rw[Zbb _ _ (by omega),Zan]
 · show upd (upd _ 0 _) 1 _ 1=_
   rw[Zan]
theorem sS1_bk(C:CR)(S:FS)(l:List Rd){i:Nat}(hi:i<2):(sS1 C S l).bk i=bnI C S l i:=by
 rcases(show i=0∨i=1 by omega) with rfl|rfl<;>rfl
theorem sS2_bk(C:CR)(S:FS)(l:List Rd)(sv:Nat→List Sv){i:Nat}(hi:i<2):(sS2 C S l sv).bk i=bnI C S l i:=sS1_bk C S l hi
theorem sS2_bk2(C:CR)(S:FS)(l:List Rd)(sv:Nat→List Sv):(sS2 C S l sv).bk 2=b2I C S l:=rfl
theorem atX_two(C:CR)(S:FS)(l:List Rd){i:Nat}(hi:i<2):atX C S l 2 i=(bnI C S l i).l:=by
 rcases(show i=0∨i=1 by omega) with rfl|rfl
 · show upd (upd _ 0 _) 1 _ 0=_
   rw[Zbb _ _ (by omega),Zan]
 · show upd (upd _ 0 _) 1 _ 1=_
   rw[Zan]
theorem wsU_law(C:CR)(S:FS)(ws:List Int)(sv:Nat→List Sv)(h:stE C S sv=0):
 (if decide ((smp (gat rdOf ws) 40 3).2=1) then wsU C S (gat rdOf ws) sv 2 else mxL S.n (wsU C S (gat rdOf ws) sv 2))=(sS2 C S (gat rdOf ws) sv).n:=by
 have e0:heM C (sS1 C S (gat rdOf ws)) (vS1 C (gat rdOf ws) sv) 0=(Zdi (bnI C S (gat rdOf ws) 0).o 3,sdU C (gat rdOf ws) 0 (sv 0) (sv 0).length,C.a 0 4):=by
  unfold heM
  rw[sdU_snd,vS1_at C _ sv (by omega),Zgo];have:(sS1 C S (gat rdOf ws)).bk 0=bnI C S (gat rdOf ws) 0:=sS1_bk C S _ (by omega);rw[this]
 have e1:heM C (sS1 C S (gat rdOf ws)) (vS1 C (gat rdOf ws) sv) 1=(Zdi (bnI C S (gat rdOf ws) 1).o 3,sdU C (gat rdOf ws) 1 (sv 1) (sv 1).length,C.a 1 4):=by
  unfold heM
  rw[sdU_snd,vS1_at C _ sv (by omega),Zgo];have:(sS1 C S (gat rdOf ws)).bk 1=bnI C S (gat rdOf ws) 1:=sS1_bk C S _ (by omega);rw[this]
 have h0:=he_ok (ws:=ws) h (i:=0) (by omega) (sS1 C S (gat rdOf ws));have h1:=he_ok (ws:=ws) h (i:=1) (by omega) (sS1 C S (gat rdOf ws))
 have hw:waI [heM C (sS1 C S (gat rdOf ws)) (vS1 C (gat rdOf ws) sv) 0,heM C (sS1 C S (gat rdOf ws)) (vS1 C (gat rdOf ws) sv) 1]=wsU C S (gat rdOf ws) sv 2:=by
  rw[waI_two h0 h1,e0,e1];rfl
 have hb:=waI_bd h0 h1;have hn:betw S.n 0 3=true:=clE_zero (show clE S.n=0 from(Zbh h).2 0 (by omega))
 show _=lwM C (sS1 C S (gat rdOf ws)) (gat rdOf ws) (vS1 C (gat rdOf ws) sv)
 unfold lwM neI
 rw[hw] at hb⊢;rw[show(sS1 C S (gat rdOf ws)).n=S.n from rfl,hn,hb]
 rfl
theorem Zbl(b:Nat):∀(vs:List Value) (o:Nat) (u:World),(u.setCells b o vs).heap.size=u.heap.size
 |[],_,_=>rfl
 |v::r,o,u=>(Zbl b r (o+1) (u.setCell ⟨b,o,none⟩ v)).trans (World.size_setCell _ _ _)
def Av(w:World)(a:Option Addr)(l:List Rd)(QC QS QO QT QY:Nat)(T:FS)(m k:Nat):Prop:=
 w.heap.size≤k∧QC≠k∧QS≠k∧QO≠k∧QT≠k∧QY≠k∧(∀g,a=some (Ad g 0)→l≠[]→g≠k)∧∀j,j<m→∀G,T.sp j=some (Ad G 0)→G≠k
def zL:List Value:=[Vi 0,Vi 0,Vi 0,.bool false,.bool false,.bool false,Vi 0,Vi 0,Vi 0,Vi 0,.bool false,.bool false,.bool false,Vi 0,Vi 0,Vi 0,Vi 0,.bool false,.bool false,.bool false,Vi 0,.slice none 0 0,.slice none 0 0,Vi 0,Vi 0,Vi 0,Vi 0,Vi 0,Vi 0,Vi 0]
structure SP (w u:World) (C:CR) (S:FS) (a:Option Addr) (l:List Rd) (QC QS QO QT QY:Nat) (T:FS) (av:Nat→Int) (V:Nat→List Sv) (m:Nat):Prop where
 cr:Blk 29 u QC (crL C)
 st:Blk 41 u QS (stL S)
 out:Blk 41 u QO (stL T)
 atb:Blk 76 u QT [Vi (av 0),Vi (av 1)]
 yb:Blk 41 u QY zL
 rds:Rds u a l
 low:Below w.heap.size w u
 bd:w.heap.size≤QO∧w.heap.size≤QT∧QC≠QO∧QS≠QO∧QC≠QT∧QS≠QT∧QO≠QT∧QY≠QO∧QY≠QT∧w.heap.size≤QY
 far:∀g,a=some (Ad g 0)→l≠[]→g≠QO∧g≠QT
 sv:∀j,j<m→∃G,T.sp j=some (Ad G 0)∧T.sn j=(V j).length∧VLs u (some (Ad G 0)) (V j)∧G<u.heap.size∧G≠QO∧G≠QT∧QY<G
section
variable {w u u' : World} {C : CR} {S : FS} {a : Option Addr} {l : List Rd} {QC QS QO QT QY : Nat} {T : FS} {av : Nat → Int} {V : Nat → List Sv} {m : Nat}
theorem SP.later(h:SP w u C S a l QC QS QO QT QY T av V m)(hb:Below u.heap.size u u'):SP w u' C S a l QC QS QO QT QY T av V m:=
 ⟨h.cr.later hb,h.st.later hb,h.out.later hb,h.atb.later hb,h.yb.later hb,h.rds.later hb,Zac h.low hb,h.bd,h.far,fun j hj=>(h.sv j hj).elim fun G k=>⟨G,k.1,k.2.1,k.2.2.1.later hb,Nat.lt_of_lt_of_le k.2.2.2.1 hb.size,k.2.2.2.2⟩⟩
theorem SP.avoid(h:SP w u C S a l QC QS QO QT QY T av V m){k:Nat}(hk:u.heap.size≤k):Av w a l QC QS QO QT QY T m k:=by
 have h1:=h.cr.lt;have h2:=h.st.lt;have h3:=h.out.lt;have h4:=h.atb.lt;have h5:=h.low.size;have h6:=h.yb.lt;refine⟨by omega,by omega,by omega,by omega,by omega,by omega,fun g e hl=>?_,fun j hj G e=>?_⟩
 · have:=rds_lt h.rds g e hl;omega
 · obtain⟨G',e',_,_,hG,_⟩:=h.sv j hj;rw[e'] at e;simp only[Option.some.injEq,Addr.mk.injEq] at e
   omega
theorem Av.congr{T':FS}{k:Nat}(h:Av w a l QC QS QO QT QY T m k)(hs:∀j,j<m→T'.sp j=T.sp j):Av w a l QC QS QO QT QY T' m k:=
 ⟨h.1,h.2.1,h.2.2.1,h.2.2.2.1,h.2.2.2.2.1,h.2.2.2.2.2.1,h.2.2.2.2.2.2.1,fun j hj G e=>h.2.2.2.2.2.2.2 j hj G ((hs j hj).symm.trans e)⟩
theorem SP.putO(h:SP w u C S a l QC QS QO QT QY T av V m)(T':FS)(vs:List Value)(o:Nat)(he:putL (stL T) o vs=stL T')(hs:∀j,j<m→T'.sp j=T.sp j∧T'.sn j=T.sn j):SP w (u.setCells QO o vs) C S a l QC QS QO QT QY T' av V m:=
 ⟨Blk.farCells h.bd.2.2.1 vs o u h.cr,Blk.farCells h.bd.2.2.2.1 vs o u h.st,he▸Blk.setCells vs o u _ h.out,Blk.farCells (fun e=>h.bd.2.2.2.2.2.2.1 e.symm) vs o u h.atb,Blk.farCells h.bd.2.2.2.2.2.2.2.1 vs o u h.yb,Zbe (fun g e hl=>(h.far g e hl).1) vs o u h.rds,Zag vs o u h.low h.bd.1,h.bd,h.far,
  fun j hj=>(h.sv j hj).elim fun G k=>⟨G,(hs j hj).1.trans k.1,(hs j hj).2.trans k.2.1,Zbz k.2.2.2.2.1 vs o k.2.2.1,by rw[Zbl];exact k.2.2.2.1,k.2.2.2.2⟩⟩
theorem SP.putT(h:SP w u C S a l QC QS QO QT QY T av V m)(av':Nat→Int)(vs:List Value)(o:Nat)(he:putL [Vi (av 0),Vi (av 1)] o vs=[Vi (av' 0),Vi (av' 1)]):SP w (u.setCells QT o vs) C S a l QC QS QO QT QY T av' V m:=
 ⟨Blk.farCells h.bd.2.2.2.2.1 vs o u h.cr,Blk.farCells h.bd.2.2.2.2.2.1 vs o u h.st,Blk.farCells h.bd.2.2.2.2.2.2.1 vs o u h.out,he▸Blk.setCells vs o u _ h.atb,Blk.farCells h.bd.2.2.2.2.2.2.2.2.1 vs o u h.yb,Zbe (fun g e hl=>(h.far g e hl).2) vs o u h.rds,Zag vs o u h.low h.bd.2.1,h.bd,h.far,
  fun j hj=>(h.sv j hj).elim fun G k=>⟨G,k.1,k.2.1,Zbz k.2.2.2.2.2.1 vs o k.2.2.1,by rw[Zbl];exact k.2.2.2.1,k.2.2.2.2⟩⟩
theorem SP.farCells{X:Nat}(h:SP w u C S a l QC QS QO QT QY T av V m)(hX:Av w a l QC QS QO QT QY T m X)(vs:List Value)(o:Nat):SP w (u.setCells X o vs) C S a l QC QS QO QT QY T av V m:=
 ⟨Blk.farCells hX.2.1 vs o u h.cr,Blk.farCells hX.2.2.1 vs o u h.st,Blk.farCells hX.2.2.2.1 vs o u h.out,Blk.farCells hX.2.2.2.2.1 vs o u h.atb,Blk.farCells hX.2.2.2.2.2.1 vs o u h.yb,Zbe hX.2.2.2.2.2.2.1 vs o u h.rds,Zag vs o u h.low hX.1,h.bd,h.far,
  fun j hj=>(h.sv j hj).elim fun G k=>⟨G,k.1,k.2.1,Zbz (hX.2.2.2.2.2.2.2 j hj G k.1) vs o k.2.2.1,by rw[Zbl];exact k.2.2.2.1,k.2.2.2.2⟩⟩
theorem SP.putS(h:SP w u C S a l QC QS QO QT QY T av V m){i:Nat}(hi:i<2)(g n c:Nat)(L:List Sv)(hn:n=L.length)(hv:VLs u (some (Ad g 0)) L)(hg:g<u.heap.size∧g≠QO∧g≠QT∧QY<g):
 SP w (u.setCells QO (21+i) [.slice (some (Ad g 0)) n c]) C S a l QC QS QO QT QY { T with sp:=upd T.sp i (some (Ad g 0)),sn:=upd T.sn i n,sc:=upd T.sc i c } av (upd V i L) m:=
 ⟨Blk.farCells h.bd.2.2.1 _ _ u h.cr,Blk.farCells h.bd.2.2.2.1 _ _ u h.st,st_putServo T hi (some (Ad g 0)) n c▸Blk.setCells [.slice (some (Ad g 0)) n c] (21+i) u _ h.out,Blk.farCells (fun e=>h.bd.2.2.2.2.2.2.1 e.symm) _ _ u h.atb,Blk.farCells h.bd.2.2.2.2.2.2.2.1 _ _ u h.yb,Zbe (fun g e hl=>(h.far g e hl).1) _ _ u h.rds,Zag _ _ u h.low h.bd.1,h.bd,h.far,
  fun j hj=>by
   by_cases e:j=i
   · subst e;refine⟨g,Zan _ _ _,?_,?_,by rw[Zbl];exact hg.1,hg.2⟩
     · show upd T.sn j n j=(upd V j L j).length
       rw[Zan,Zan,hn]
     · rw[Zan];exact Zbz hg.2.1 _ _ hv
   · obtain⟨G,k⟩:=h.sv j hj;refine⟨G,?_,?_,?_,by rw[Zbl];exact k.2.2.2.1,k.2.2.2.2⟩
     · show upd T.sp i _ j=_
       rw[Zbb _ _ e];exact k.1
     · show upd T.sn i n j=(upd V i L j).length
       rw[Zbb _ _ e,Zbb _ _ e];exact k.2.1
     · rw[Zbb _ _ e]
       exact Zbz k.2.2.2.2.1 _ _ k.2.2.1⟩
theorem SP.servoAt(h:SP w u C S a l QC QS QO QT QY T av V m){i g:Nat}{L:List Sv}(hi:i<m)(hp:T.sp i=some (Ad g 0))(hL:V i=L){k:Nat}(hk:k<L.length):u.cell? (Ad g (k*3))=some (Vi (svAt L k).1)∧u.cell? (Ad g (k*3+2))=some (.bool (svAt L k).2.2):=by
 obtain⟨G,g1,_,g3,_⟩:=h.sv i hi;rw[hp] at g1;rw[hL,←g1] at g3;obtain⟨b,off,e,c0,_,c2⟩:=g3.at hk;simp only[Option.some.injEq,Addr.mk.injEq] at e;obtain⟨rfl,rfl,_⟩:=e;rw[Nat.zero_add] at c0 c2;exact⟨c0,c2⟩
theorem Av.put{i g q:Nat}{p:Option Addr}(h:Av w a l QC QS QO QT QY T m q)(hp:p=some (Ad g 0))(hg:q<g)(T':FS)(hT:T'.sp=upd T.sp i p):Av w a l QC QS QO QT QY T' m q:=
 ⟨h.1,h.2.1,h.2.2.1,h.2.2.2.1,h.2.2.2.2.1,h.2.2.2.2.2.1,h.2.2.2.2.2.2.1,fun j hj G e=>by
  rw[hT] at e
  by_cases ej:j=i
  · subst ej;rw[Zan,hp] at e;simp only[Option.some.injEq,Addr.mk.injEq] at e
    omega
  · rw[Zbb _ _ ej] at e
    exact h.2.2.2.2.2.2.2 j hj G e⟩
theorem Blk.grew{t:TypeId}{B:Nat}{cs:List Value}{row:Option Nat}(h:Blk t u B cs)(hg:u.grownBy u' row)(hr:some B≠row):Blk t u' B cs:=(hg.block B h.lt hr).trans h
theorem vls_low{G:Nat}{L:List Sv}(h:VLs u (some (Ad G 0)) L)(hl:1≤L.length):G<u.heap.size:=by
 obtain⟨b,off,e,c,_⟩:=h.at (k:=0) hl;simp only[Option.some.injEq,Addr.mk.injEq] at e;have:=World.block_lt_of_cell? u _ c
 simp at this
 omega
theorem ownc_far{P base:Nat}{e:TypeId}{size:Nat}{v:Value}{n:Nat}{xs:List Value}:∀(vs:List Value) (o:Nat) {u:World},u.ownsRow base e size v n xs→some P≠v.ownBlock→(u.setCells P o vs).ownsRow base e size v n xs
 |[],_,_,h,_=>h
 |_::r,o,_,h,hP=>ownc_far r (o+1) (own_far h hP) hP
theorem rds_grown{row:Option Nat}(h:Rds u a l)(hg:u.grownBy u' row)(hr:∀g,a=some (Ad g 0)→l≠[]→some g≠row):Rds u' a l:=by
 rcases h with h|⟨g,e,hc⟩
 · exact .inl h
 · refine .inr ⟨g,e,fun k hk=>?_⟩;have hn:=hr g e (fun h=>by subst h;simp at hk);have c:=hc k hk;exact⟨hg.cell c.1 hn,hg.cell c.2.1 hn,hg.cell c.2.2.1 hn,hg.cell c.2.2.2 hn⟩
theorem vls_grown{row:Option Nat}{G:Nat}{L:List Sv}(h:VLs u (some (Ad G 0)) L)(hg:u.grownBy u' row)(hr:some G≠row):VLs u' (some (Ad G 0)) L:=by
 rcases h with h|⟨b,off,e,hc⟩
 · exact .inl h
 · simp only[Option.some.injEq,Addr.mk.injEq] at e;obtain⟨rfl,rfl,_⟩:=e;exact .inr ⟨G,0,rfl,fun k hk=>⟨hg.cell (hc k hk).1 hr,hg.cell (hc k hk).2.1 hr,hg.cell (hc k hk).2.2 hr⟩⟩
theorem SP.grown{row:Option Nat}(h:SP w u C S a l QC QS QO QT QY T av V m)(hg:u.grownBy u' row)(hr:∀k,row=some k→Av w a l QC QS QO QT QY T m k):SP w u' C S a l QC QS QO QT QY T av V m:=
 ⟨h.cr.grew hg (fun e=>(hr _ e.symm).2.1 rfl),h.st.grew hg (fun e=>(hr _ e.symm).2.2.1 rfl),h.out.grew hg (fun e=>(hr _ e.symm).2.2.2.1 rfl),h.atb.grew hg (fun e=>(hr _ e.symm).2.2.2.2.1 rfl),h.yb.grew hg (fun e=>(hr _ e.symm).2.2.2.2.2.1 rfl),rds_grown h.rds hg (fun g e hl e'=>(hr _ e'.symm).2.2.2.2.2.2.1 g e hl rfl),h.low.grown hg h.low.size (fun k e=>(hr k e).1),h.bd,h.far,
  fun j hj=>(h.sv j hj).elim fun G k=>⟨G,k.1,k.2.1,vls_grown k.2.2.1 hg (fun e=>(hr _ e.symm).2.2.2.2.2.2.2 j hj G k.1 rfl),Nat.lt_of_lt_of_le k.2.2.2.1 hg.size,k.2.2.2.2⟩⟩
end
theorem res_stepped(tmps:Array Value)(U:World)(Y:Nat)(cs:List Value)(x:Value)(h6:tmps.getD 6 undef=.pointer (some (Ad Y 0)))(h7:tmps.getD 7 undef=x)(hR:U.rangeAt Y 0 cs)(hn:cs.length=30):
 (results Tryz.f15 tmps).run prog U=.ok (.tuple #[.agg cs.toArray,x]) U:=by
 have h3:tmps[6]?.getD undef=.pointer (some (Ad Y 0)):=by simpa using h6
 have h4:tmps[7]?.getD undef=x:=by simpa using h7
 simp[results,results15,h3,h4,asAddr,run_loadVar_mid U Y 0 41 cs _ hR underlying41 rfl (by rw[Zbf,hn])]
end Go.Proofs.YtnfdfiholcelaaaGreatDoor
